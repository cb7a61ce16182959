import PyProof.Rows.All
import Wide.All
import OpenK.AllK
import Wide.FinOn
import Lean
import PyProof.EqAt
import PyProof.EqKinds
import PyProof.TupleCall
import PyProof.NeKinds
import KE.KRevSl
import KE.KIsAll
import PyProof.FitsBits
import KE.LcSums
import KE.KRevIter
import PyProof.ListRange
import PyProof.Rows.SumAny
import PyProof.Rows.SortWalk
import PyProof.AttrMissHeap
import KE.KDictOf
import PyProof.ZipIter
import PyProof.DictWalks
import KE.KDictList
import KE.KFind
import KE.KDictSum
import KE.KSortTup
import PyProof.Rows.SetFrom
import PyProof.SetRoads
import PyProof.Rows.Range3
import PySem.Challenge.RW_nodeladder_k74_shut_for_one_question
set_option bootstrap.genMatcherCode false
set_option Elab.async false
set_option linter.all false
set_option maxRecDepth 1000000
set_option autoImplicit true
set_option relaxedAutoImplicit true
local macro_rules|`(~~~$t)=>`(autoParam $t PySem.W.name_B._auto_1)
local macro_rules|`(nofun)=>`(⟨rfl,rfl,rfl,by decide +kernel,rfl,by decide +kernel,by decide +kernel⟩)
local macro_rules|`(def $i $b* :$t $v:declVal)=>Lean.MonadRef.withRef .missing `(theorem $i $b* :$t $v:declVal)
local macro_rules|`(abbrev $i $b* :$t $v:declVal)=>Lean.MonadRef.withRef .missing `(noncomputable def $i $b* :$t $v:declVal)|`(abbrev $i $b* $v:declVal)=>Lean.MonadRef.withRef .missing `(noncomputable def $i $b* $v:declVal)
abbrev zP0:=PySem.Challenge.pw_nodeladder_k74_shut_for_one_question
open Classical renaming choose_spec→za0,choose→za5,byContradiction→zcx,propDecidable→zda
open PySem.W renaming Frag→za1,nsIn→zan,findIn→zb1,fnOf→zb6,keepIn→zbd,mg_none_of→zbe,emptyDict→zc1,codeIn→zc2,kia_one→zck,instObj→zcl,binds_K→zcr,plainGet→zd4
open List renaming length_map→za2,mem_cons_self→za3,mem_cons_of_mem→za4,map_cons→za6,getElem?_eq_getElem→za7,length_cons→za8,mem_singleton→za9,mem_append_right→zaa,mem_cons→zab,size_toArray→zac,getElem?_eq_some_iff→zae,set_cons_succ→zag,length_append→zah,set_cons_zero→zaj,replicate→zak,mem_append→zal,mem_of_getElem?→zao,mem_map→zar,map_append→zas,foldl_cons→zat,nodup_append→zav,getElem?_map→zaw,mem_append_left→zb2,getElem?_set_self→zb3,getElem?_cons_succ→zb5,range→zb8,mem_filter→zb9,getD_eq_getElem?_getD→zbb,nodup_cons→zbc,length_take→zbf,length_singleton→zbh,append_nil→zbi,append_assoc→zbk,getElem?_eq_none→zbn,length_reverse→zbp,nodup_nil→zbr,getElem?_set_ne→zbs,map_map→zbx,lookup_cons→zbz,replicate_succ→zc3,length_range→zc4,filterMap_cons→zc5,getElem?_append_left→zc6,length_set→zc7,mem_of_mem_take→zca,mem_range→zcb,take_of_length_le→zcf,take_length→zch,length_drop→zci,take_append_drop→zcj,getElem?_replicate→zcm,getElem?_cons_zero→zcn,drop_length→zco,find?_cons→zcu,take_add_one→zcz,ext_getElem?→zd0,any_cons→zd1,getElem?_append_right→zd2,drop_zero→zd5,drop_eq_getElem_cons→zd6,cons_append→zd8
open PySem.Heap renaming get?_push_of_some→zad,lt_size→zai,get?_push_size→zap,SameBut→zcv
open Nat renaming le_refl→zaf,lt_of_lt_of_le→zam,ne_of_lt→zax,zero_le→zba,le_of_lt→zbo,le_trans→zc0
open Bool renaming false_ne_true→zaq,false_eq_true→zaz,and_eq_true→zb4,eq_iff_iff→zcw
open Option.some renaming inj→zau
open Prod renaming fst→zay,snd→zbu
open Or renaming inl→zb0
open PySem.Value renaming ref→zb7
open Int renaming toNat_natCast→zbg,emod_lt_of_pos→zbm,emod_nonneg→zbq,add_assoc→zd3
open PyProof.Rows renaming callWith_type1→zbj
open Ne renaming symm→zbl
open PySem.Builtin.Int renaming intBits→zbt
open Option renaming isSome_iff_exists→zbv,map_some→zbw,map_eq_some_iff→zce
open PySem.Calls renaming spliced_cons→zby,spliced_nil→zcc,callWith_builtin→zcq
open False renaming elim→zc8
open PySem.F renaming plainAttrs_list→zc9,plain_min_loop→zcd,slot_dict_get→zcg
open True renaming intro→zcp
open PySem.NameKind renaming free→zcs
open PySem.Paired renaming length→zct
open PySem.Builtin.List renaming listTooLong→zcy
open PySem renaming mem_of_lookup→zd7
open ForInStep renaming yield→zd9
open Array renaming length_toList→zdb
section
set_option maxHeartbeats 0
namespace L2
open PySem PySem.Spec PyProof.Rows PySem.W PySem.Calls
abbrev inClass (s:Stmt)(j:Nat):Stmt:=match s with
 | .ClassDef _ _ _ body _ _ _ _ _ _ _=>body.getD j (.Pass ⟨0,0,0,0⟩)
 |_=>.Pass ⟨0,0,0,0⟩
abbrev B3 (s:Stmt):Arguments:=match s with
 | .FunctionDef _ a _ _ _ _ _ _ _ _=>a
 |_=>{posonlyargs:=[],args:=[],vararg:=none,kwonlyargs:=[],kw_defaults:=[],kwarg:=none,defaults:=[]}
abbrev Az (s:Stmt):List Stmt:=match s with
 | .FunctionDef _ _ b _ _ _ _ _ _ _=>b
 |_=>[]
abbrev A3 (s:Stmt):Scope:=match s with
 | .FunctionDef _ _ _ _ _ _ sc _ _ _=>sc
 |_=>{kind:=.function,names:=[],isGenerator:=false,isCoroutine:=false}
structure FP (K:za1)(x:Str)(st:Stmt):Prop where
 ex:∃(f:Addr) (oc:Value) (od an:Option Addr) (sl:Array (Option Value)) (kV dc pm cd ct:Value),zan K mainGlobals x=some (some (.ref f))/\K.lookup f=some ⟨oc,od,.func (zb6 x x (B3 st) (Az st) (A3 st) .none kV dc pm an cd ct),sl⟩/\zc2 K cd x=true/\zbd K (.ref f)=true
structure MP (K:za1)(C:Addr)(m qual:Str)(st:Stmt):Prop where
 ex:∃(f:Addr) (oc:Value) (od an:Option Addr) (sl:Array (Option Value)) (kV dc pm cd ct:Value),zb1 K (.ref C) m=some (some (.ref f))/\PySem.W.isFn K (.ref f)=true/\K.lookup f=some ⟨oc,od,.func (zb6 m qual (B3 st) (Az st) (A3 st) .none kV dc pm an cd ct),sl⟩/\zc2 K cd qual=true/\zbd K (.ref f)=true
abbrev K8 (p:Program):Program:={p with main:={p.main with body:=p.main.body.filter λ s=>match s with | .FunctionDef n .. =>n == "law" |_=>false} }
abbrev nmO:Stmt->List Str
 | .FunctionDef n ..| .ClassDef n ..=>[n]
 | .Assign [.Name x _] .. =>[x]
 |_=>[]
abbrev Zi (p:Program):List Str:=(p.main.body.flatMap nmO).filter λ x => !(x == "law")
structure Rn where
 run:(String->Option Builtin)->Program->World->Nat->Option Value->Nat->Shared->Thread->Option Shared
 ns:Heap->Addr->Str->Option Value
 imp:(String->Option Builtin)->Program->World->Nat->Shared->Thread->Option Shared
 fen:Program->Shared->Option Shared
 st:Program->Shared×Thread
 tb:String->Option Builtin
abbrev Wn (R:Rn)(p:Program)(w:World)(N:Nat):Option Shared:=
 ((R.imp R.tb (opening p) w N (R.st (opening p)).fst (R.st (opening p)).snd).bind (R.fen p)).bind λ s₀ =>
 match s₀.heap.isNs mainGlobals&&s₀.gens.size==0 with
 |true=>(R.run R.tb p w s₀.heap.objs.size (R.ns s₀.heap mainGlobals (Str.ofString "__annotations__")) N s₀ (topStub p)).bind λ s₁ =>
  match staticsOk (importedModules p.main.body) s₀.heap s₁.heap&&namesBound p s₁.heap&&gensDone s₁&&laidKept s₀.heap s₁.heap with
  |true=>some s₁
  |false=>none
 |false=>none
abbrev R1:Rn:=⟨PySem.W.Fast.tw14082659384304107361,PySem.W.Fast.tw8920871248978507458,PySem.W.Fast.tw10274390034422433532,PySem.W.Fast.tw14289696077712309145,PySem.W.Fast.tw1435165496053646825,PySem.W.Fast.tw14364793385576792824⟩
abbrev Zj (R:Rn)(p:Program)(w:World)(N:Nat):Heap:=match Wn R p w N with | some s=>s.heap | none=>⟨#[],default⟩
abbrev yT (h:Heap)(as:List Addr):za1:=as.filterMap λ a=>(h.get? a).map λ o=>(a,o)
abbrev adN (v:Option (Option Value)):Addr:=match v with | some (some (.ref f))=>f | _=>0
abbrev Hv (K:za1)(f:Addr):Obj:=(K.lookup f).getD ⟨.none,none,.plain,#[]⟩
abbrev Q6 (d:Data)(st:Stmt):FuncData:=match d with | .func fd=>fd | _=>zb6 Str.empty Str.empty (B3 st) [] (A3 st) .none .none .none .none none .none .none
abbrev zR (v:Value):Addr:=match v with | .ref a=>a | _=>0
abbrev zS (d:Data):Nat:=match d with | .seq _ n=>n | _=>0
abbrev cA (K:za1)(x:Str):Addr:=adN (zan K mainGlobals x)
abbrev mA (K:za1)(C:Addr)(m:Str):Addr:=adN (zb1 K (.ref C) m)
def uN {K}{st}(a:zan K mainGlobals x=some (some (.ref (cA K x))):=by kernel_rfl)(l:K.lookup (cA K x)=some ⟨(Hv K (cA K x)).cls,(Hv K (cA K x)).dict,.func (zb6 x x (B3 st) (Az st) (A3 st) .none (Q6 (Hv K (cA K x)).data st).kwdefaults (Q6 (Hv K (cA K x)).data st).doc (Q6 (Hv K (cA K x)).data st).pyModule (Q6 (Hv K (cA K x)).data st).annotations (Q6 (Hv K (cA K x)).data st).code (Q6 (Hv K (cA K x)).data st).closureTuple),(Hv K (cA K x)).slots⟩:=by kernel_rfl)(c:zc2 K (Q6 (Hv K (cA K x)).data st).code x=true:=by kernel_rfl)(k:zbd K (.ref (cA K x))=true:=by kernel_rfl):FP K x st:=⟨⟨_,_,_,_,_,_,_,_,_,_,a,l,c,k⟩⟩
def uO {K}{st}(a:zb1 K (.ref C) m=some (some (.ref (mA K C m))):=by kernel_rfl)(i:PySem.W.isFn K (.ref (mA K C m))=true:=by kernel_rfl)(l:K.lookup (mA K C m)=some ⟨(Hv K (mA K C m)).cls,(Hv K (mA K C m)).dict,.func (zb6 m qual (B3 st) (Az st) (A3 st) .none (Q6 (Hv K (mA K C m)).data st).kwdefaults (Q6 (Hv K (mA K C m)).data st).doc (Q6 (Hv K (mA K C m)).data st).pyModule (Q6 (Hv K (mA K C m)).data st).annotations (Q6 (Hv K (mA K C m)).data st).code (Q6 (Hv K (mA K C m)).data st).closureTuple),(Hv K (mA K C m)).slots⟩:=by kernel_rfl)(c:zc2 K (Q6 (Hv K (mA K C m)).data st).code qual=true:=by kernel_rfl)(k:zbd K (.ref (mA K C m))=true:=by kernel_rfl):MP K C m qual st:=⟨⟨_,_,_,_,_,_,_,_,_,_,a,i,l,c,k⟩⟩
structure IP (K:za1)(C:Addr)(m qual:Str)(st:Stmt):Prop where
 ex:∃(f td:Addr) (oc to:Value) (od an tq:Option Addr) (sl ts:Array (Option Value)) (tn:Nat) (kV dc pm cd ct:Value),zb1 K (.ref C) m=some (some (.ref f))/\PySem.W.isFn K (.ref f)=true/\K.lookup f=some ⟨oc,od,.func (zb6 m qual (B3 st) (Az st) (A3 st) (.ref td) kV dc pm an cd ct),sl⟩/\zc2 K cd qual=true/\zbd K (.ref f)=true/\K.lookup td=some ⟨to,tq,.seq #[.none] tn,ts⟩
abbrev tA (K:za1)(C:Addr)(m:Str)(st:Stmt):Addr:=zR (Q6 (Hv K (mA K C m)).data st).defaults
def uP {K}{st}(a:zb1 K (.ref C) m=some (some (.ref (mA K C m))):=by kernel_rfl)(i:PySem.W.isFn K (.ref (mA K C m))=true:=by kernel_rfl)(l:K.lookup (mA K C m)=some ⟨(Hv K (mA K C m)).cls,(Hv K (mA K C m)).dict,.func (zb6 m qual (B3 st) (Az st) (A3 st) (.ref (tA K C m st)) (Q6 (Hv K (mA K C m)).data st).kwdefaults (Q6 (Hv K (mA K C m)).data st).doc (Q6 (Hv K (mA K C m)).data st).pyModule (Q6 (Hv K (mA K C m)).data st).annotations (Q6 (Hv K (mA K C m)).data st).code (Q6 (Hv K (mA K C m)).data st).closureTuple),(Hv K (mA K C m)).slots⟩:=by kernel_rfl)(c:zc2 K (Q6 (Hv K (mA K C m)).data st).code qual=true:=by kernel_rfl)(k:zbd K (.ref (mA K C m))=true:=by kernel_rfl)(d:K.lookup (tA K C m st)=some ⟨(Hv K (tA K C m st)).cls,(Hv K (tA K C m st)).dict,.seq #[.none] (zS (Hv K (tA K C m st)).data),(Hv K (tA K C m st)).slots⟩:=by kernel_rfl):IP K C m qual st:=⟨⟨_,_,_,_,_,_,_,_,_,_,_,_,_,_,_,a,i,l,c,k,d⟩⟩
end L2
namespace cz
open PySem L2
def uQ (w:World):(Wn R1 zP0 w 8100).map (λ s=>PySem.W.Fast.tw4187177175401517315 (K8 zP0) (Zi zP0) (PySem.W.Fast.tw5923862056798008813 zP0.main.body) (λ s=>PySem.W.xlAt (K8 zP0) [] s&&PySem.W.recOk [] s) true s)=some (PySem.W.openGood (K8 zP0) (Zi zP0)):=by kernel_rfl
abbrev topP (p:Program)(i:Nat):Stmt:=p.main.body.getD i (.Pass ⟨0,0,0,0⟩)
abbrev Kp (R:Rn)(p:Program)(w:World):za1:=yT (Zj R p w 8100) [3,100,101,107,108,114,115,119,120,124,125,131,132,136,137,143,144,150,151,157,158,164,165,171,172,176,177,181,182,188,189,195,196,202,203,207,208,212,213,219,220,226,227,231,232,238,239,245,246,250,251,257,258,264,265,269,270,274,275,281,282,288,289,295,296,300,301,305,306,314,320,321,334,335,348,349,355,356,369,370,376,377,379,380,390,391,397,398,404,405,409,410,414,415,423,429,430,436,437,485,486,487,493,494,496,497,507,508,514,515,521,522,526,527,533,534,540,541,547,548,554,555,561,562,568,569,575,576,582,583,589,590,596,597]
abbrev REa (K:za1)(p:Program):Prop:=
 ((((((zan K mainGlobals "Ladder" = some (some (.ref (cA K "Ladder"))))/\(zd4 K (cA K "Ladder") Str.empty=true))/\(PySem.W.hasDictIn K (cA K "Ladder")=true))/\(((PySem.W.plainOver K (cA K "Ladder")=true)/\(zb1 K (.ref (cA K "Ladder")) "__setattr__" = some (some (.builtin "object.__setattr__"))))/\(PySem.W.makesIn K (cA K "Ladder")=true)))/\((((zbd K (.ref (cA K "Ladder"))=true)/\(zan K mainGlobals "House" = some (some (.ref (cA K "House")))))/\(zd4 K (cA K "House") Str.empty=true))/\(((PySem.W.hasDictIn K (cA K "House")=true)/\(PySem.W.plainOver K (cA K "House")=true))/\(zb1 K (.ref (cA K "House")) "__setattr__" = some (some (.builtin "object.__setattr__"))))))/\(((((PySem.W.makesIn K (cA K "House")=true)/\(zbd K (.ref (cA K "House"))=true))/\(FP K "is_whole_below" (topP p 9)))/\(((FP K "is_measure" (topP p 10))/\(FP K "is_road" (topP p 11)))/\(FP K "is_map" (topP p 12))))/\((((FP K "checked" (topP p 13))/\(FP K "added" (topP p 14)))/\(FP K "least" (topP p 15)))/\(((FP K "road_cost" (topP p 16))/\(FP K "cost_so_far" (topP p 18)))/\(FP K "lay" (topP p 19))))))
abbrev REb (K:za1)(p:Program):Prop:=
 ((((((FP K "lay_over" (topP p 20))/\(FP K "laid_arcs" (topP p 21)))/\(FP K "kept_costs" (topP p 23)))/\(((FP K "kept_costs_turned" (topP p 24))/\(FP K "climbed" (topP p 25)))/\(FP K "climbed_from" (topP p 26))))/\((((FP K "climbing_to" (topP p 27))/\(FP K "sums_at_tops" (topP p 28)))/\(FP K "swept" (topP p 30)))/\(((FP K "costs_in" (topP p 31))/\(FP K "cost_between" (topP p 33)))/\(FP K "arcs_by_prices" (topP p 34)))))/\(((((FP K "way_by_prices" (topP p 35))/\(FP K "ask" (topP p 36)))/\(FP K "is_order" (topP p 39)))/\(((FP K "checked_order" (topP p 40))/\(FP K "costs_from" (topP p 46)))/\(FP K "order_or_ranked" (topP p 48))))/\((((FP K "kept_arcs" (topP p 49))/\(FP K "road_under" (topP p 50)))/\(MP K (cA K "Ladder") "order" "Ladder.order" (inClass (topP p 51) 2)))/\((MP K (cA K "Ladder") "checked_arc" "Ladder.checked_arc" (inClass (topP p 51) 4))/\(MP K (cA K "Ladder") "cost" "Ladder.cost" (inClass (topP p 51) 5))))))
abbrev RE (K:za1)(p:Program):Prop:=REa K p/\REb K p
def iIa (w:World):REa (Kp R1 zP0 w) zP0:=by
 unfold REa
 and_intros<;>first|exact uN|exact uO|exact uP|kernel_rfl
def iIb (w:World):REb (Kp R1 zP0 w) zP0:=by
 unfold REb
 and_intros<;>first|exact uN|exact uO|exact uP|kernel_rfl
def iI (w:World):RE (Kp R1 zP0 w) zP0:=⟨iIa w,iIb w⟩
abbrev RFa (K:za1)(p:Program):Prop:=
 ((((((MP K (cA K "Ladder") "unpacked" "Ladder.unpacked" (inClass (topP p 51) 7))/\(MP K (cA K "Ladder") "kept" "Ladder.kept" (inClass (topP p 51) 8)))/\(FP K "with_length" (topP p 53)))/\(((FP K "checked_place" (topP p 55))/\(FP K "checked_road" (topP p 56)))/\(FP K "with_lengths" (topP p 57))))/\((((FP K "shut_lengths" (topP p 58))/\(MP K (cA K "House") "told_map" "House.told_map" (inClass (topP p 59) 1)))/\(MP K (cA K "House") "changes" "House.changes" (inClass (topP p 59) 8)))/\(((FP K "_law_cell_at" (topP p 61))/\(FP K "_law_mixed" (topP p 62)))/\(FP K "_law_road" (topP p 63)))))/\(((((FP K "_law_map" (topP p 64))/\(FP K "_law_order" (topP p 65)))/\(FP K "_law_cost" (topP p 66)))/\(((FP K "_law_walk" (topP p 67))/\(FP K "_law_with" (topP p 68)))/\(FP K "_law_copy" (topP p 69))))/\((((FP K "_law_shut" (topP p 70))/\(FP K "_law_alike" (topP p 71)))/\(FP K "_law_spoiled" (topP p 72)))/\(((FP K "_law_question" (topP p 73))/\(zan K mainGlobals "all" = some none))/\(zan K mainGlobals "bool" = some none)))))
abbrev RFb (K:za1)(p:Program):Prop:=
 ((((((zan K mainGlobals "dict" = some none)/\(zan K mainGlobals "enumerate" = some none))/\(zan K mainGlobals "int" = some none))/\(((zan K mainGlobals "isinstance" = some none)/\(zan K mainGlobals "len" = some none))/\(zan K mainGlobals "list" = some none)))/\((((zan K mainGlobals "min" = some none)/\(zan K mainGlobals "range" = some none))/\(zan K mainGlobals "reversed" = some none))/\(((zan K mainGlobals "sorted" = some none)/\(zan K mainGlobals "tuple" = some none))/\(zan K mainGlobals "ask_asks" = zan K mainGlobals "ask"))))/\(((((zb1 K (.ref (cA K "House")) "done" = some none)/\(zb1 K (.ref (cA K "House")) "own_map" = some none))/\(zb1 K (.ref (cA K "House")) "own_order" = some none))/\(((zb1 K (.ref (cA K "Ladder")) "kept_ones" = some none)/\(zb1 K (.ref (cA K "Ladder")) "laid" = some none))/\(zb1 K (.ref (cA K "Ladder")) "own_map" = some none)))/\((((zb1 K (.ref (cA K "Ladder")) "own_order" = some none)/\(IP K (cA K "Ladder") "__init__" "Ladder.__init__" (inClass (topP p 51) 0)))/\(IP K (cA K "House") "__init__" "House.__init__" (inClass (topP p 59) 0)))/\((IP K (cA K "House") "ask" "House.ask" (inClass (topP p 59) 9))/\(FP K "law" (topP p 74))))))
abbrev RF (K:za1)(p:Program):Prop:=RFa K p/\RFb K p
def iJa (w:World):RFa (Kp R1 zP0 w) zP0:=by
 unfold RFa
 and_intros<;>first|exact uN|exact uO|exact uP|kernel_rfl
def iJb (w:World):RFb (Kp R1 zP0 w) zP0:=by
 unfold RFb
 and_intros<;>first|exact uN|exact uO|exact uP|kernel_rfl
def iJ (w:World):RF (Kp R1 zP0 w) zP0:=⟨iJa w,iJb w⟩
end cz
end
set_option Elab.async false
set_option linter.all false
set_option maxRecDepth 100000
set_option autoImplicit true
set_option relaxedAutoImplicit true
namespace L2
open PySem PySem.Spec PyProof.Rows
noncomputable abbrev Key:=Sum Int Str
variable {w:World}{h h':Heap}{a dx C:Addr}{e c:Expr}{pins:List (Addr×Obj)}{s:Shared}{pos apos:Pos}{E:Value->Shared->Prop}{A:Around}{es:List Expr}{fd:FuncData}{ps:List Str}
abbrev NM:Key->Value->Bool
 | .inl k,v=>Value.isInt k v
 | .inr x,v=>Value.isStrOf x v
abbrev zT (w:World):Key->Int
 | .inl k=>hashInt k
 | .inr x=>hashStr w x
def BA:∀ {k:Key}{v:Value},NM k v=true->(∃i t,k=Sum.inl i/\v=Value.int i t)\/(∃x t,k=Sum.inr x/\v=Value.str x t)
 | .inl i,v,h=>by
  obtain⟨t,e⟩:=Value.isInt_shape (k:=i) (v:=v) h;exact .inl ⟨i,t,rfl,e⟩
 | .inr x,v,h=>by
  obtain⟨t,e⟩:=Value.isStrOf_shape (x:=x) (v:=v) h;exact .inr ⟨x,t,rfl,e⟩
def Xv (i:Int)(t:Tok):NM (.inl i) (.int i t)=true:=by simp[NM,Value.isInt]
def Xw (x:Str)(t:Tok):NM (.inr x) (.str x t)=true:=by simp[NM,Value.isStrOf]
def pA (a b:Int):decide ((Sum.inl a:Key)=Sum.inl b)=(a==b):=by
 by_cases e:a=b
 ·subst e;simp
 ·have h:¬ (Sum.inl a:Key)=Sum.inl b:=λ q=>e (Sum.inl.inj q);rw[decide_eq_false h];exact (beq_eq_false_iff_ne.mpr e).symm
def pB (a b:Str):decide ((Sum.inr a:Key)=Sum.inr b)=decide (a=b):=by
 by_cases e:a=b
 ·subst e;simp
 ·have h:¬ (Sum.inr a:Key)=Sum.inr b:=λ q=>e (Sum.inr.inj q);rw[decide_eq_false h,decide_eq_false e]
def pC (a:Int)(b:Str):decide ((Sum.inl a:Key)=Sum.inr b)=false:=decide_eq_false (λ q=>nomatch q)
def pE (a:Str)(b:Int):decide ((Sum.inr a:Key)=Sum.inl b)=false:=decide_eq_false (λ q=>nomatch q)
abbrev AL (prog:Program)(w:World):PySem.KeyKind prog w Key where
 is:=NM
 hash:=zT w
 inj:=λ v a b ha hb=>by
  rcases BA ha with ⟨i,t,rfl,rfl⟩|⟨x,t,rfl,rfl⟩
  ·rcases BA hb with ⟨j,u,rfl,e⟩|⟨y,u,rfl,e⟩
   ·injection e with e1 _;rw[e1]
   ·exact nomatch e
  ·rcases BA hb with ⟨j,u,rfl,e⟩|⟨y,u,rfl,e⟩
   ·exact nomatch e
   ·injection e with e1 _;rw[e1]
 byValue:=λ k v h=>by
  rcases BA h with ⟨i,t,rfl,rfl⟩|⟨x,t,rfl,rfl⟩<;>rfl
 pyHash:=λ hv h=>by
  rcases BA hv with ⟨i,t,rfl,rfl⟩|⟨x,t,rfl,rfl⟩
  ·exact wpAny_pyHash_int h
  ·exact wpAny_pyHash_str h
 eqBool:=λ hu hv h=>by
  rcases BA hu with ⟨i,t,rfl,rfl⟩|⟨x,t,rfl,rfl⟩
  ·rcases BA hv with ⟨j,u,rfl,rfl⟩|⟨y,u,rfl,rfl⟩
   ·rw[pA] at h;exact wpAny_eqBool_int h
   ·rw[pC] at h;exact SeqAt.EqAt.int_str i t y u _ _ _ _ h
  ·rcases BA hv with ⟨j,u,rfl,rfl⟩|⟨y,u,rfl,rfl⟩
   ·rw[pE] at h;exact SeqAt.EqAt.str_int x t j u _ _ _ _ h
   ·rw[pB] at h;exact wpAny_eqBool_str h
 «strs»:=λ k x t v h=>by
  rcases BA h with ⟨i,u,rfl,e⟩|⟨y,u,rfl,e⟩
  ·exact nomatch e
  ·injection e with e1 _
   subst e1;cases v<;>rfl
def SU (prog:Program)(w:World)(i:Int)(t:Tok):(AL prog w).is (.inl i) (.int i t)=true:=Xv i t
def SV (prog:Program)(w:World)(x:Str)(t:Tok):(AL prog w).is (.inr x) (.str x t)=true:=Xw x t
inductive V where
 |Ax|bl (b:Bool)|int (i:Int)|str (x:Str)|pF (b:Array UInt8)|uR (b:UInt64)|ref (a:Addr)|ty (n:String)
 deriving DecidableEq
abbrev RelV:V->Value->Prop
 | .Ax,u=>u=Value.none
 | .bl b,u=>u=Value.bool b
 | .int i,u=>∃t,u=Value.int i t
 | .str x,u=>∃t,u=Value.str x t
 | .pF b,u=>∃t,u=Value.bytes b t
 | .uR b,u=>∃t,u=Value.float b t
 | .ref a,u=>u=zb7 a
 | .ty n,u=>u=Value.type n
noncomputable abbrev Vals:List V->List Value->Prop:=Paired RelV
def Vals.length (r:Vals xs us):xs.length=us.length:=zct r
def Vals.get:∀ {xs:List V}{us:List Value}{i:Nat}{x:V},Vals xs us->xs[i]?=some x->∃u,us[i]?=some u/\RelV x u
 |_,_,_,_,.nil,e=>by simp at e
 |_,_,0,_,.cons r _,e=>by simp at e;subst e;exact⟨_,rfl,r⟩
 |_,_,i+1,x,.cons _ t,e=>by
  obtain⟨u,h1,h2⟩:=Vals.get (i:=i) (x:=x) t (by simpa using e);exact⟨u,by simpa using h1,h2⟩
def Vals.set (r:RelV x u):∀ {xs:List V}{us:List Value}(i:Nat),Vals xs us->Vals (xs.set i x) (us.set i u)
 |_,_,_,.nil=>.nil
 |_,_,0,.cons _ t=>.cons r t
 |_,_,i+1,.cons q t=>.cons q (Vals.set r i t)
def Vals.append:∀ {xs ys:List V}{us ws:List Value},Vals xs us->Vals ys ws->Vals (xs++ys) (us++ws)
 |_,_,_,_,.nil,s=>s
 |_,_,_,_,.cons r t,s=>.cons r (Vals.append t s)
def Vals.take:∀ {xs:List V}{us:List Value}(n:Nat),Vals xs us->Vals (xs.take n) (us.take n)
 |_,_,0,_|_,_,_+1,.nil=>.nil
 |_,_,n+1,.cons r t=>.cons r (Vals.take n t)
def Vals.drop:∀ {xs:List V}{us:List Value}(n:Nat),Vals xs us->Vals (xs.drop n) (us.drop n)
 |_,_,0,r=>r
 |_,_,_+1,.nil=>.nil
 |_,_,n+1,.cons _ t=>Vals.drop n t
abbrev Hn:Option V->Option Value->Prop
 |some v,some u=>RelV v u
 |none,none=>True
 |_,_=>False
abbrev KV {κ:Type}:List (κ×V)->List (κ×Value)->Prop:=Paired λ(p:κ×V) (q:κ×Value)=>p.1=q.1/\RelV p.2 q.2
abbrev kV:Key->V
 | .inl i=>.int i
 | .inr x=>.str x
inductive HO where
 |lst (xs:List V)
 |tup (xs:List V)
 |dK (kvs:List (Key×V))|dT (kvs:List (List Key×V))
 |set (S:Int->Bool) (n:Nat)
 |ins (C dx:Addr) (fs:List (Str×V))
 |own (x:Addr)
 |xd (fs:List (Str×V))
 |met (f x:Addr)
 |zU (lo hi:Int)
 |GW (o:Obj) (u:HO)
 |pG (ps:Array Value)
 |ext (φ:Heap->Prop)
noncomputable abbrev Hp:=Addr->Option HO
variable {H H':Hp}
abbrev upd (H:Hp)(a:Addr)(o:HO):Hp:=λ b=>if b=a then some o else H b
def An:upd H a o a=some o:=by unfold upd;rw[if_pos rfl]
def Ai (h:b≠a):upd H a o b=H b:=by unfold upd;rw[if_neg h]
def uS (h:H a=some o)(h':H b=some u)(d:o≠u):a≠b:=by
 intro e;subst e;rw[h] at h';exact d (zau h')
def AO (h:H a=some o)(h':H b=none):a≠b:=by
 intro e;subst e;rw[h] at h';cases h'
section
variable (P:Program) (w:World)
abbrev Bk (H:Hp)(h:Heap)(a:Addr):HO->Prop
 | .lst xs=>xs.length<=sizeLine/\∃(aa:List Value) (n:Nat),Vals xs aa/\h.get? a=some {cls:=.type "list",data:=.seq aa.toArray n}
 | .tup xs=>xs.length<=sizeLine/\∃aa:List Value,Vals xs aa/\IsTup h a aa.toArray
 | .dK kvs=>kvs.length<=sizeLine/\(a==sysModules)=false/\∃vs,KV kvs vs/\h.DictOf (AL P w) a vs
 | .dT kvs=>kvs.length<=sizeLine/\(a==sysModules)=false/\∃xs:List (List Key×Addr×Value),
  Paired (λ(p:List Key×V) (q:List Key×Addr×Value)=>p.1=q.1/\H q.2.1=some (.tup (p.1.map kV))/\RelV p.2 q.2.2) kvs xs/\
  ∃o es ep,h.get? a=some o/\o.ExactDict/\o.data=.dict es ep/\es.toList=xs.map (entryOfKey (tupleKind (AL P w)))/\(xs.map (·.1)).Nodup
 | .set S n=>h.SetOf (intKind P w) a S n
 | .ins C dx fs=>H dx=some (.own a)/\fs.length<=1000/\dx≠a/\h.get? a=some (zcl C dx)/\
  ∃mA,h.Ns1 dx mA/\(∀f,Hn (fs.lookup f) (mA f))/\PySem.Within mA (fs.map (·.1))
 | .own _=>∃o,h.get? a=some o
 | .xd fs=>∃mA,h.Ns1 a mA/\∀f,Hn (fs.lookup f) (mA f)
 | .zU lo hi=>∃t u v,h.get? a=some {cls:=.type "range",data:=.fields #[.int lo t,.int hi u,.int 1 v]}
 | .GW o u=>h.get? a=some o/\Bk H h a u
 | .pG ps=>h.get? a=some {cls:=.none,data:=.fields ps}
 | .met f x=>h.get? a=some (PySem.W.methodObj (.ref f) (.ref x))
 | .ext φ=>φ h/\(∃o,h.get? a=some o)/\∀h1 h2:Heap,φ h1->(∀o,h1.get? a=some o->h2.get? a=some o)->φ h2
abbrev GX (H:Hp)(h:Heap):Prop:=∀a o,H a=some o->Bk P w H h a o
end
section
variable {P:Program}{o:HO}
def Bk.lt (x:Bk P w H h a o):a<h.objs.size:=by
 cases o with
 |lst xs=>obtain⟨_,_,_,_,e⟩:=x;exact zai e
 |tup xs=>obtain⟨_,_,_,p⟩:=x;exact p.lt
 |dK kvs|dT kvs=>obtain⟨_,_,_,_,o,_,_,e,_⟩:=x;exact zai e
 |set S n=>obtain⟨o,_,_,_,e,_⟩:=x;exact zai e
 |ins C dx fs=>obtain⟨_,_,_,e,_⟩:=x;exact zai e
 |own y=>obtain⟨_,e⟩:=x;exact zai e
 |xd fs=>obtain⟨_,⟨_,_,_,e,_⟩,_⟩:=x;exact zai e
 |zU lo hi=>obtain⟨_,_,_,e⟩:=x;exact zai e
 |GW ob u=>obtain⟨e,_⟩:=x;exact zai e
 |pG ps|met f y=>exact zai (show h.get? a=some _ from x)
 |ext φ=>obtain⟨_,⟨_,e⟩,_⟩:=x;exact zai e
def Paired.pH {α β:Type}{F G:α->β->Prop}:∀ {l₁:List α}{l₂:List β},Paired F l₁ l₂->(∀a b,F a b->G a b)->Paired G l₁ l₂
 |_,_,.nil,_=>.nil
 |_,_,.cons r t,f=>.cons (f _ _ r) (Paired.pH t f)
def Bk.Qc (x:Bk P w H h a o)(k:∀b u,(b=a\/H b=some (.own a))->h.get? b=some u->h'.get? b=some u)
 (ho:∀b,H b=some (.own a)->H' b=some (.own a)) (ht:∀b xs,H b=some (.tup xs)->H' b=some (.tup xs)):Bk P w H' h' a o:=by
 induction o with
 |lst xs=>obtain⟨z,aa,n,r,e⟩:=x;exact⟨z,aa,n,r,k _ _ (.inl rfl) e⟩
 |tup xs=>obtain⟨z,aa,r,ob,e,c⟩:=x;exact⟨z,aa,r,ob,k _ _ (.inl rfl) e,c⟩
 |dK kvs=>obtain⟨z,y,vs,r,ob,es,ep,e,c⟩:=x;exact⟨z,y,vs,r,ob,es,ep,k _ _ (.inl rfl) e,c⟩
 |dT kvs =>
  obtain⟨z,y,xs,r,ob,es,ep,e,c⟩:=x;exact⟨z,y,xs,Paired.pH r λ p q z=>⟨z.1,ht _ _ z.2.1,z.2.2⟩,ob,es,ep,k _ _ (.inl rfl) e,c⟩
 |set S n=>obtain⟨ob,es,ep,t,e,c⟩:=x;exact⟨ob,es,ep,t,k _ _ (.inl rfl) e,c⟩
 |ins C dx fs =>
  obtain⟨d,z,ne,e,mA,⟨od,es,ep,e2,c⟩,r⟩:=x;exact⟨ho _ d,z,ne,k _ _ (.inl rfl) e,mA,⟨od,es,ep,k _ _ (.inr d) e2,c⟩,r⟩
 |own y=>obtain⟨ob,e⟩:=x;exact⟨ob,k _ _ (.inl rfl) e⟩
 |xd fs=>obtain⟨mA,⟨od,es,ep,e,c⟩,r⟩:=x;exact⟨mA,⟨od,es,ep,k _ _ (.inl rfl) e,c⟩,r⟩
 |zU lo hi=>obtain⟨t,u,v,e⟩:=x;exact⟨t,u,v,k _ _ (.inl rfl) e⟩
 |GW ob u ih=>obtain⟨e,q⟩:=x;exact⟨k _ _ (.inl rfl) e,ih q⟩
 |pG ps =>
  have e:h.get? a=some {cls:=.none,data:=.fields ps}:=x;show h'.get? a=some {cls:=.none,data:=.fields ps};exact k a _ (.inl rfl) e
 |met f y =>
  have e:h.get? a=some (PySem.W.methodObj (.ref f) (.ref y)):=x;show h'.get? a=some (PySem.W.methodObj (.ref f) (.ref y));exact k a _ (.inl rfl) e
 |ext φ=>obtain⟨p,⟨o,e⟩,st⟩:=x;exact⟨st _ _ p λ o q=>k _ _ (.inl rfl) q,⟨o,k _ _ (.inl rfl) e⟩,st⟩
def GX.lt (x:GX P w H h)(e:H a=some o):a<h.objs.size:=(x a o e).lt
def GX.fresh (x:GX P w H h)(e:h.objs.size<=a):H a=none:=by
 cases q:H a with
 |none=>rfl
 |some u=>exact absurd (zam (x.lt q) e) (Nat.lt_irrefl _)
def GX.kept (x:GX P w H h)(k:∀b u,h.get? b=some u->h'.get? b=some u):GX P w H h':=λ a o e =>
 (x a o e).Qc (λ b u _ q=>k b u q) (λ _ q=>q) λ _ _ q=>q
def GX.laid (x:GX P w H h)(k:∀b u,h.get? b=some u->h'.get? b=some u)(hp:h.objs.size<=a)(new:Bk P w (upd H a o) h' a o):GX P w (upd H a o) h':=λ b u e=>by
 have hn:=x.fresh hp;by_cases hb:b=a
 ·subst hb;rw[An] at e;cases e;exact new
 ·rw[Ai hb] at e;exact (x b u e).Qc (λ c v _ q=>k c v q) (λ c q=>by rw[Ai (AO q hn)];exact q) λ c xs q=>by rw[Ai (AO q hn)];exact q
end
abbrev Rd (H:Hp)(a:Addr)(u:HO):Prop:=H a=some u\/∃o,H a=some (.GW o u)
def Rd.ok (r:Rd H a u)(x:GX P w H h):Bk P w H h a u:=by
 rcases r with r|⟨o,r⟩
 ·exact x a u r
 ·obtain⟨_,q⟩:=x a _ r;exact q
abbrev uT:Option HO->Prop
 |some (.lst _)|some (.dK _)|some (.dT _)|some (.set _ _)|some (.ins _ _ _)|some (.ext _)=>True
 |_=>False
section
variable {P:Program}{x e:Addr}{o':HO}
def GX.write (ok:GX P w H h)(mu:uT (H x))(he:e=x\/H e=some (.own x))(k:∀b u,b≠e->h.get? b=some u->h'.get? b=some u)(dq:∃u,h'.get? e=some u)
 (new:Bk P w (upd H x o') h' x o'):GX P w (upd H x o') h':=λ b u q=>by
 have iq:∀c y,H c=some (.own y)->c≠x:=λ c y r z=>by subst z;rw[r] at mu;exact mu
 have na:∀c xs,H c=some (.tup xs)->c≠x:=λ c xs r z=>by subst z;rw[r] at mu;exact mu
 by_cases hb:b=x
 ·subst hb;rw[An] at q;cases q;exact new
 ·rw[Ai hb] at q;by_cases eh:b=e
  ·have q':H b=some (.own x):=by
    rcases he with z|z
    ·exact absurd (eh.trans z) hb
    ·rw[eh];exact z
   rw[q] at q';cases q';obtain⟨v,hv⟩:=dq;exact⟨v,by rw[eh];exact hv⟩
  ·refine (ok b u q).Qc (λ c v hc r=>k c v ?_ r) (λ c r=>by rw[Ai (iq c b r)];exact r) λ c xs r=>by rw[Ai (na c xs r)];exact r
   rcases hc with rfl|hc
   ·exact eh
   ·rintro rfl;rcases he with z|z
    ·exact iq c b hc z
    ·rw[hc] at z;cases z;exact hb rfl
end
structure Un (fs ex:List Addr)(H H':Hp)(h h':Heap):Prop where
 keep:∀b o,h.get? b=some o->H b=none->b∉fs->b∉ex->h'.get? b=some o
 slot:∀b o,h.get? b=some o->H b=none->b∈fs->b∉ex->∃sl,h'.get? b=some {o with slots:=sl}
 free:∀b o,h.get? b=some o->H b=none->b∉ex->H' b=none
 there:∀b o,h.get? b=some o->b∉ex->∃o',h'.get? b=some o'
 Qd:∀b xs,H b=some (.tup xs)->H' b=some (.tup xs)
 MQ:∀b o u,H b=some (.GW o u)->H' b=some (.GW o u)
 Qe:∀b ps,H b=some (.pG ps)->∃more,H' b=some (.pG (ps++more))
section
variable {fs bA ex nb:List Addr}{H1 H2:Hp}{h1 h2:Heap}{x e:Addr}{o:HO}
def Un.any (u:Un fs ex H H1 h h1)(q:h.get? b=some ob)(n:H b=none)(hx:b∉ex):∃sl,h1.get? b=some {ob with slots:=sl}:=by
 by_cases hb:b∈fs
 ·exact u.slot b ob q n hb hx
 ·exact⟨ob.slots,u.keep b ob q n hb hx⟩
def Un.kept (k:∀b u,h.get? b=some u->h'.get? b=some u):Un fs ex H H h h':=
 ⟨λ b ob q _ _ _=>k b ob q,λ b ob q _ _ _=>⟨ob.slots,k b ob q⟩,λ _ _ _ n _=>n,λ b ob q _=>⟨ob,k b ob q⟩,λ _ _ q=>q,λ _ _ _ q=>q,λ _ ps q=>⟨#[],by rw[q];simp⟩⟩
def Un.refl:Un fs ex H H h h:=Un.kept λ _ _ q=>q
def Un.laid (k:∀b u,h.get? b=some u->h'.get? b=some u)(hp:h.objs.size<=a)(hn:H a=none):Un fs ex H (upd H a o) h h' where
 keep:=λ b u q _ _ _=>k b u q
 slot:=λ b u q _ _ _=>⟨u.slots,k b u q⟩
 free:=λ b u q n _=>by rw[Ai (zax (zam (zai q) hp))];exact n
 there:=λ b u q _=>⟨u,k b u q⟩
 Qd:=λ b xs q=>by rw[Ai (AO q hn)];exact q
 MQ:=λ b u xs q=>by rw[Ai (AO q hn)];exact q
 Qe:=λ b ps q=>⟨#[],by rw[Ai (AO q hn),q];simp⟩
def Un.write (mu:uT (H x))(he:e=x\/H e=some (.own x))(k:∀b u,b≠e->h.get? b=some u->h'.get? b=some u)(dq:∃u,h'.get? e=some u):Un fs ex H (upd H x o) h h':=by
 have hx:∀b,H b=none->b≠x:=λ b n z=>by subst z;rw[n] at mu;exact mu
 have hb:∀b,H b=none->b≠e:=λ b n z=>by
  subst z;rcases he with r|r
  ·exact hx b n r
  ·rw[n] at r;cases r
 have hm:∀b u,H b=some u->¬ uT (some u)->b≠x:=λ b u q nm z=>by subst z;rw[q] at mu;exact nm mu
 refine⟨λ b u q n _ _=>k b u (hb b n) q,λ b u q n _ _=>⟨u.slots,k b u (hb b n) q⟩,λ b u q n _=>by rw[Ai (hx b n)];exact n,λ b u q _=>?_,
  λ b xs q=>by rw[Ai (hm b _ q λ z=>z)];exact q,λ b u xs q=>by rw[Ai (hm b _ q λ z=>z)];exact q,λ b ps q=>⟨#[],by rw[Ai (hm b _ q λ z=>z),q];simp⟩⟩
 by_cases eh:b=e
 ·subst eh;exact dq
 ·exact⟨u,k b u eh q⟩
end
abbrev BX (h:Heap)(H:Hp):List Addr:=(zb8 h.objs.size).filter λ a=>(H a).isSome
abbrev RG (h:Heap)(H:Hp):Heap:=PySem.W.hideAll h (BX h H)
def Xx (h:Heap)(H:Hp):(RG h H).objs.size=h.objs.size:=PySem.W.hideAll_size _ _
def Zk (e:h.get? b=some o)(n:H b=none):(RG h H).get? b=some o:=
 PySem.W.hideAll_get _ e λ hm=>by
  have q:(H b).isSome=true:=(zb9.mp hm).2;rw[n] at q;simp at q
def iK (e:(RG h H).get? b=some o):h.get? b=some o/\H b=none:=by
 have e':h.get? b=some o:=PySem.W.of_hideAll (BX h H) e;refine⟨e',?_⟩;cases q:H b with
 |none=>rfl
 |some x =>
  have hm:b∈BX h H:=zb9.mpr ⟨zcb.mpr (zai e'),by simp[q]⟩;have z:(RG h H).get? b=none:=PySem.W.hideAll_none (BX h H) hm;rw[z] at e;cases e
abbrev iL (g h:Heap)(L:Addr):List (Addr×Obj):=(zb8 h.objs.size).filterMap λ a=>if a=L\/(g.get? a).isSome=true then none else (h.get? a).map λ o=>(a,o)
abbrev rest (g h:Heap)(L d:Addr):List (Addr×Obj):=(iL g h L).filter λ p=>decide (p.1≠d)
structure Mod (K:za1)(mg:Str->Option Value)(base:Heap):Prop where
 V1:K.In base
 glob:base.Ns mainGlobals mg
 blt:∃mb,base.Ns builtinsNs mb/\∀x:Str,x ≠ "__name__" -> mb x=bootBuiltins x
 nolimit:base.NoLimit
structure Cx where
 prog:Program
 w:World
 K:za1
 mg:Str->Option Value
 base:Heap
 A:Around
 N:List Str
 s₀:Shared
 H₀:Hp
 env:Env
 outer:List Env
 stack:List Env
 ex:List Addr
 fn:Str->Bool
 calm:Bool
 pn:List (Addr×Obj)
 xe:Value->Shared->Prop
variable {X:Cx}
abbrev Zb (l:List Env):List Addr:=l.filterMap (·.frame)
noncomputable abbrev Cx.fs (X:Cx):List Addr:=Zb X.outer
abbrev zV (sc:Scope)(x:Str):Prop:=sc.names.lookup x=some .local\/sc.names.lookup x=some .cell\/sc.names.lookup x=some .free
abbrev Loc (sc:Scope)(x:Str):Prop:=sc.names.lookup x=some .local\/sc.names.lookup x=some .cell
abbrev Look (env:Env)(h:Heap)(m:Str->Option Value)(x:Str)(u:Value):Prop:=
 (env.kindOf x=some .local/\m x=some u)\/((env.kindOf x=some .cell\/env.kindOf x=some .free)/\∃c,env.cells.lookup x=some c/\h.IsCell c (some u))
structure Cx.Ok (X:Cx):Prop where
 mod:Mod X.K X.mg X.base
 kind:X.env.scope.kind=.function
 glob:X.env.globals=mainGlobals
 blt:X.env.builtins=builtinsNs
 above:X.s₀.heap.objs.size<=X.env.locals
 inj:∀x y c,X.env.cells.lookup x=some c->X.env.cells.lookup y=some c->x=y
 has:∀x,(X.env.kindOf x=some .cell\/X.env.kindOf x=some .free)->∃c,X.env.cells.lookup x=some c
 uU:∀x c,X.fn x=true->X.env.cells.lookup x=some c->X.s₀.heap.objs.size<=c
 hd:X.calm=true->X.A.handled=none
 frames:X.A.frames=some X.stack
 yU:X.stack=X.outer\/(X.stack=X.env::X.outer/\X.env.frame=some X.env.locals)
 yV:∀b∈X.ex,b≠X.env.locals/\∀x c,X.env.cells.lookup x=some c->c≠b
 bs:∀b o,X.base.get? b=some o->X.s₀.heap.get? b=some o/\X.H₀ b=none
 nI:X.base.objs.size<=X.s₀.heap.objs.size
 Zl:∀b o,X.base.get? b=some o->b∉X.ex
 Zm:∀b∈X.ex,b∉X.fs
 Lp:X.s₀.heap.FunFrames X.base X.outer
 pI:∀b∈X.fs,X.H₀ b=none
structure Inv (X:Cx)(pins:List (Addr×Obj))(σ:List (Option V))(H:Hp)(s:Shared):Prop where
 ok:X.Ok
 os:s.os=X.s₀.os
 bare:AllBare s.gens
 base:Un X.fs X.ex X.H₀ H X.s₀.heap s.heap
 loc:∃m,s.heap.Ns X.env.locals m/\∀(i:Nat) (x:Str) (v:V),X.N[i]?=some x->σ[i]?=some (some v)->zV X.env.scope x->∃u,RelV v u/\Look X.env s.heap m x u
 cell:∀x c,X.env.cells.lookup x=some c->∃v,s.heap.IsCell c v
 free:H X.env.locals=none
 FG:∀x c,X.env.cells.lookup x=some c->H c=none
 pin:∀p∈X.pn++pins,s.heap.get? p.1=some p.2/\H p.1=none/\p.1≠X.env.locals/\p.1∉X.fs/\∀v,p.2.data≠.cell v
 AF:GX X.prog X.w H s.heap
 len:σ.length=X.N.length
section
variable {σ:List (Option V)}
def Cx.Ok.zW (ok:X.Ok)(e:X.base.get? b=some o):b∉X.fs:=λ hb=>by
 have:=(ok.Lp.mem hb).1;rw[e] at this;cases this
def Inv.bs (I:Inv X pins σ H s):∀b o,X.base.get? b=some o->s.heap.get? b=some o/\H b=none:=λ b o e =>
 ⟨I.base.keep b o (I.ok.bs b o e).1 (I.ok.bs b o e).2 (I.ok.zW e) (I.ok.Zl b o e),I.base.free b o (I.ok.bs b o e).1 (I.ok.bs b o e).2 (I.ok.Zl b o e)⟩
def Inv.bk (I:Inv X pins σ H s):∀b o,X.base.get? b=some o->s.heap.get? b=some o:=λ b o e=>(I.bs b o e).1
def Inv.mod (I:Inv X pins σ H s):Mod X.K X.mg X.base:=I.ok.mod
def Inv.Mh (I:Inv X pins σ H s):X.K.In s.heap:=I.ok.mod.V1.keeps I.bk
def Inv.lt (I:Inv X pins σ H s):X.env.locals<s.heap.objs.size:=let ⟨_,hn,_⟩:=I.loc;hn.lt
def Inv.sz (I:Inv X pins σ H s):X.s₀.heap.objs.size<=s.heap.objs.size:=zc0 I.ok.above (zbo I.lt)
def Inv.zX (I:Inv X pins σ H s)(h:s.heap.objs.size<=a):a∉X.fs:=λ hb=>by
 obtain⟨_,o,ho,_⟩:=I.ok.Lp.mem hb;exact absurd (zam (zai ho) (zc0 I.sz h)) (Nat.lt_irrefl _)
def Inv.pJ (I:Inv X pins σ H s):∀x c,X.env.cells.lookup x=some c->c≠X.env.locals:=λ x c e z=>by
 obtain⟨v,o,ho,hd⟩:=I.cell x c e;obtain⟨m,⟨o',es,ep,aH,bh,_⟩,_⟩:=I.loc;rw[z,aH] at ho;cases ho;rw[bh] at hd;cases hd
def Inv.Lp (I:Inv X pins σ H s):s.heap.FunFrames X.base X.outer:=by
 have all:∀(l:List Env),(∀b∈Zb l,b∈X.fs)->X.s₀.heap.FunFrames X.base l->s.heap.FunFrames X.base l:=by
  intro l;induction l with
  |nil=>intro _ _;trivial
  |cons env r ih =>
   intro hs hl;obtain⟨hk,⟨L,o,hf,hn,ho,hd⟩,hr⟩:=hl;have hL:L∈X.fs:=hs L (by unfold Zb;rw[zc5,hf];exact za3);obtain⟨sl,e⟩:=I.base.slot L o ho (I.ok.pI L hL) hL λ z=>I.ok.Zm L z hL;exact⟨hk,⟨L,_,hf,hn,e,hd⟩,ih (λ b hb=>hs b (by unfold Zb;rw[zc5,hf];exact za4 _ hb)) hr⟩
 exact all X.outer (λ _ hb=>hb) I.ok.Lp
def Inv.stack (I:Inv X pins σ H s):s.heap.FunFrames X.base X.stack:=by
 rcases I.ok.yU with e|⟨e,hf⟩
 ·rw[e];exact I.Lp
 ·rw[e];obtain⟨m,hn,_⟩:=I.loc;refine .cons (by rw[I.ok.kind];decide) hf hn ?_ I.Lp;exact Heap.get?_none_of_le (zc0 I.ok.nI I.ok.above)
def Inv.V5 (I:Inv X pins σ H s):∀b∈Zb X.stack,b∈X.env.locals::X.fs:=λ b hb=>by
 rcases I.ok.yU with e|⟨e,hf⟩
 ·rw[e] at hb;exact za4 _ hb
 ·rw[e] at hb;unfold Zb at hb;rw[zc5,hf] at hb;exact hb
def Inv.Wo (I:Inv X pins σ H s):∀b∈Zb X.stack,H b=none:=λ b hb=>by
 rcases zab.mp (I.V5 b hb) with e|hb
 ·rw[e];exact I.free
 ·obtain⟨_,o,ho,_⟩:=I.ok.Lp.mem hb;exact I.base.free b o ho (I.ok.pI b hb) λ z=>I.ok.Zm b z hb
def Inv.step {ch:List Addr}(I:Inv X pins σ H s)(aY:∀b∈ch,(b∈X.ex\/X.s₀.heap.objs.size<=b)/\b≠X.env.locals/\(∀x c,X.env.cells.lookup x=some c->c≠b)/\∀p∈X.pn++pins,p.1≠b)(keep:∀b o,b≠X.env.locals->b∉X.fs->b∉ch->s.heap.get? b=some o->H b=none->h'.get? b=some o)(slot:∀b o,b≠X.env.locals->b∈X.fs->b∉ch->s.heap.get? b=some o->H b=none->∃sl,h'.get? b=some {o with slots:=sl})(free:∀b o,b∉ch->s.heap.get? b=some o->H b=none->H' b=none)(there:∀b o,b∉ch->s.heap.get? b=some o->∃o',h'.get? b=some o')(Qd:∀b xs,H b=some (.tup xs)->H' b=some (.tup xs))(MQ:∀b o u,H b=some (.GW o u)->H' b=some (.GW o u))(Qe:∀b ps,H b=some (.pG ps)->∃more,H' b=some (.pG (ps++more)))(ns:∀m,s.heap.Ns X.env.locals m->h'.Ns X.env.locals m)(AF:GX X.prog X.w H' h')(hg:AllBare g'):
 Inv X pins σ H' {s with heap:=h',gens:=g',drawn:=d',toks:=t' }:=by
 have t5:∀b o,X.s₀.heap.get? b=some o->b≠X.env.locals:=λ b o e=>zax (zam (zai e) I.ok.above);have h8:∀b o,X.s₀.heap.get? b=some o->b∉X.ex->b∉ch:=λ b o e hx hb=>by
  rcases (aY b hb).1 with z|z
  ·exact hx z
  ·exact absurd (zam (zai e) z) (Nat.lt_irrefl _)
 have cellK:∀x c,X.env.cells.lookup x=some c->∀v,s.heap.IsCell c v->h'.IsCell c v:=λ x c e v ⟨o,ho,hd⟩=>by
  have ir:c∉ch:=λ z=>(aY c z).2.2.1 x c e rfl;by_cases hc:c∈X.fs
  ·obtain⟨sl,q⟩:=slot c o (I.pJ x c e) hc ir ho (I.FG x c e);exact⟨_,q,hd⟩
  ·exact⟨o,keep c o (I.pJ x c e) hc ir ho (I.FG x c e),hd⟩
 refine⟨I.ok,I.os,hg,⟨λ b o e n hb hx=>?_,λ b o e n hb hx=>?_,λ b o e n hx=>?_,λ b o e hx=>?_,λ b xs e=>Qd b xs (I.base.Qd b xs e),λ b o xs e=>MQ b o xs (I.base.MQ b o xs e),λ b ps e=>?_⟩,?_,λ x c e=>?_,?_,λ x c e=>?_,λ p hp=>?_,AF,I.len⟩
 ·exact keep b o (t5 b o e) hb (h8 b o e hx) (I.base.keep b o e n hb hx) (I.base.free b o e n hx)
 ·obtain⟨sl,e1⟩:=I.base.slot b o e n hb hx;obtain⟨v5,e2⟩:=slot b _ (t5 b o e) hb (h8 b o e hx) e1 (I.base.free b o e n hx);exact⟨v5,e2⟩
 ·obtain⟨o',e1⟩:=I.base.there b o e hx;exact free b o' (h8 b o e hx) e1 (I.base.free b o e n hx)
 ·obtain⟨o',e1⟩:=I.base.there b o e hx;exact there b o' (h8 b o e hx) e1
 ·obtain⟨m1,e1⟩:=I.base.Qe b ps e;obtain⟨m2,e2⟩:=Qe b _ e1;exact⟨m1++m2,by rw[e2,Array.append_assoc]⟩
 ·obtain⟨m,hn,hl⟩:=I.loc;refine⟨m,ns m hn,λ i x v e1 e2 e3=>?_⟩;obtain⟨u,r,l⟩:=hl i x v e1 e2 e3;refine⟨u,r,?_⟩;rcases l with l|⟨k,c,e,z⟩
  ·exact .inl l
  ·exact .inr ⟨k,c,e,cellK x c e _ z⟩
 ·obtain⟨v,z⟩:=I.cell x c e;exact⟨v,cellK x c e v z⟩
 ·obtain⟨m,⟨o,_,_,ho,_⟩,_⟩:=I.loc;exact free _ o (λ z=>(aY _ z).2.1 rfl) ho I.free
 ·obtain⟨v,o,ho,hd⟩:=I.cell x c e;exact free c o (λ z=>(aY c z).2.2.1 x c e rfl) ho (I.FG x c e)
 ·obtain⟨e,n,ne,nf,d⟩:=I.pin p hp;have ir:p.1∉ch:=λ z=>(aY p.1 z).2.2.2 p hp rfl;exact⟨keep p.1 p.2 ne nf ir e n,free p.1 p.2 ir e n,ne,nf,d⟩
def Inv.un (I:Inv X pins σ H s)(u:Un X.fs [] H H' s.heap h')(AF:GX X.prog X.w H' h'):Inv X pins σ H' {s with heap:=h',toks:=t' }:=by
 obtain⟨m,⟨o,es,ep,ho,r⟩,_⟩:=id I.loc;obtain⟨sl,hL⟩:=u.any ho I.free (by simp);exact I.step (g':=s.gens) (d':=s.drawn) (ch:=[]) (λ _ z=>nomatch z) (λ b o _ hb _ e n=>u.keep b o e n hb (by simp)) (λ b o _ hb _ e n=>u.slot b o e n hb (by simp)) (λ b o _ e n=>u.free b o e n (by simp)) (λ b o _ e=>u.there b o e (by simp)) u.Qd u.MQ u.Qe (λ m' hm=>by
  obtain⟨o',nc,ng,aH,r'⟩:=hm;rw[ho] at aH;cases aH;exact⟨_,nc,ng,hL,r'⟩) AF I.bare
def Inv.call (I:Inv X pins σ H s)(u:Un (Zb X.stack) ch H H' s.heap h')(AF:GX X.prog X.w H' h')(hg:AllBare g')(aY:∀b∈ch,(b∈X.ex\/X.s₀.heap.objs.size<=b)/\b≠X.env.locals/\(∀x c,X.env.cells.lookup x=some c->c≠b)/\∀p∈X.pn++pins,p.1≠b):
 Inv X pins σ H' {s with heap:=h',gens:=g',drawn:=d',toks:=t' }:=by
 obtain⟨m,⟨o,es,ep,ho,r⟩,_⟩:=id I.loc;obtain⟨sl,hL⟩:=u.any ho I.free λ z=>(aY _ z).2.1 rfl;exact I.step (ch:=ch) aY (λ b o hL hb hc e n=>u.keep b o e n (λ z=>(zab.mp (I.V5 b z)).elim hL hb) hc) (λ b o _ _ hc e n=>u.any e n hc) (λ b o hc e n=>u.free b o e n hc) (λ b o hc e=>u.there b o e hc) u.Qd u.MQ u.Qe (λ m' hm=>by
  obtain⟨o',nc,ng,aH,r'⟩:=hm;rw[ho] at aH;cases aH;exact⟨_,nc,ng,hL,r'⟩) AF hg
def Inv.turned (I:Inv X pins σ H s)(k:∀b o,b≠it->s.heap.get? b=some o->h'.get? b=some o)(hn:H it=none)(hL:it≠X.env.locals)(h1:it∈X.ex\/X.s₀.heap.objs.size<=it)(h2:∀x c,X.env.cells.lookup x=some c->c≠it)(h3:∀p∈X.pn++pins,p.1≠it):Inv X pins σ H {s with heap:=h',toks:=t' }:=by
 have t6:∀b u,H b=some u->b≠it:=λ b u e z=>by rw[z,hn] at e;cases e
 refine I.step (g':=s.gens) (d':=s.drawn) (ch:=[it]) (λ b hb=>?_) (λ b o _ _ hc e _=>k b o (λ z=>hc (by simp[z])) e) (λ b o _ _ hc e _=>⟨o.slots,k b o (λ z=>hc (by simp[z])) e⟩) (λ _ _ _ _ n=>n)
  (λ b o hc e=>⟨o,k b o (λ z=>hc (by simp[z])) e⟩) (λ _ _ e=>e) (λ _ _ _ e=>e) (λ b ps e=>⟨#[],by rw[e];simp⟩) (λ m hm=>?_) (λ b u e=>?_) I.bare
 ·have e:b=it:=by simpa using hb
  subst e;exact⟨h1,hL,h2,h3⟩
 ·obtain⟨o,es,ep,ho,r⟩:=hm;exact⟨o,es,ep,k _ o (zbl hL) ho,r⟩
 ·refine (I.AF b u e).Qc (λ c v hc q=>k c v ?_ q) (λ _ q=>q) λ _ _ q=>q;rcases hc with z|z
  ·rw[z];exact t6 b u e
  ·exact t6 c _ z
def Inv.tok (I:Inv X pins σ H s)(t:Nat):Inv X pins σ H {s with toks:=t}:=I.un (h':=s.heap) (t':=t) Un.refl I.AF
def Inv.kept (I:Inv X pins σ H s)(k:∀b u,s.heap.get? b=some u->h'.get? b=some u):Inv X pins σ H {s with heap:=h',toks:=t' }:=I.un (Un.kept k) (I.AF.kept k)
def Inv.laid (I:Inv X pins σ H s)(k:∀b u,s.heap.get? b=some u->h'.get? b=some u)(hp:s.heap.objs.size<=a)(new:Bk X.prog X.w (upd H a o) h' a o):
 Inv X pins σ (upd H a o) {s with heap:=h',toks:=t' }:=I.un (Un.laid k hp (I.AF.fresh hp)) (I.AF.laid k hp new)
def Inv.write {e}(I:Inv X pins σ H s)(mu:uT (H x))(he:e=x\/H e=some (.own x))(k:∀b u,b≠e->s.heap.get? b=some u->h'.get? b=some u)(dq:∃u,h'.get? e=some u)(new:Bk X.prog X.w (upd H x o) h' x o):Inv X pins σ (upd H x o) {s with heap:=h',toks:=t' }:=I.un (Un.write mu he k dq) (I.AF.write mu he k dq new)
def Inv.weak (I:Inv X pins σ H s)(hl:σ'.length=σ.length)(w:∀(i:Nat) v,σ'[i]?=some (some v)->σ[i]?=some (some v)):Inv X pins σ' H s:=
 ⟨I.ok,I.os,I.bare,I.base,let ⟨m,hn,iu⟩:=I.loc;⟨m,hn,λ i x v e1 e2 e3=>iu i x v e1 (w i v e2) e3⟩,I.cell,I.free,I.FG,I.pin,I.AF,hl.trans I.len⟩
def Inv.K9 (I:Inv X pins σ H s)(h:∀p∈dr,s.heap.get? p.1=some p.2/\H p.1=none/\p.1≠X.env.locals/\p.1∉X.fs/\∀v,p.2.data≠.cell v):Inv X dr σ H s:=
 ⟨I.ok,I.os,I.bare,I.base,I.loc,I.cell,I.free,I.FG,λ p hp=>(zal.mp hp).elim (λ z=>I.pin p (zb2 _ z)) (h p),I.AF,I.len⟩
def SW {N:List Str}(hN:N.Nodup){i:Nat}(a:N[i]?=some x)(b:N[j]?=some x):i=j:=by
 obtain⟨h1,e1⟩:=zae.mp a;obtain⟨h2,e2⟩:=zae.mp b;exact (List.getElem_inj hN).mp (e1.trans e2.symm)
def QE (I:Inv X pins σ H s)(hN:X.N.Nodup)(hi:X.N[i]?=some x)(hx:Loc X.env.scope x)(r:RelV v u)(h:∀s',Inv X pins (σ.set i (some v)) H s'->(∃a,zcv a s.heap s'.heap/\(a=X.env.locals\/X.env.cells.lookup x=some a))->Q () s')(hf:X.fn x=true\/X.env.scope.names.lookup x=some .local:=by first|exact .inl rfl|exact .inr rfl|assumption):wpAny M A (storeName X.env x u) Q E s:=by
 obtain⟨m,hn,hl⟩:=id I.loc;have nh:(X.env.scope.kind==.class||(X.env.scope.kind==.module&&X.env.locals != X.env.globals))=false:=by rw[I.ok.kind];rfl
 have hiσ:i<σ.length:=by rw[I.len];exact (zae.mp hi).1
 have pJ:=I.pJ;have tracked:∀ {a:Addr} {h':Heap},(∃o,s.heap.get? a=some o/\H a=none)->zcv a s.heap h'->GX X.prog X.w H h':=fun {a h'} ha hs b ob e=>by
  obtain⟨_,_,du⟩:=ha;refine (I.AF b ob e).Qc (λ c w' hc q=>(hs.2 c ?_).trans q) (λ _ q=>q) λ _ _ q=>q;rintro rfl;rcases hc with rfl|hc
  ·rw[du] at e;cases e
  ·rw[du] at hc;cases hc
 rcases hx with hk|hk
 ·refine wpAny_storeName_local hk hn (λ h' aR hs=>?_) nh;obtain⟨oL,_,_,v6,_⟩:=id hn;refine h _ ⟨I.ok,I.os,I.bare,⟨λ b o e n hb hx=>?_,λ b o e n hb hx=>?_,I.base.free,λ b o e hx=>?_,I.base.Qd,I.base.MQ,I.base.Qe⟩,⟨_,aR,λ j y v' e1 e2 e3=>?_⟩,λ y c e=>?_,I.free,I.FG,λ p hp=>?_,tracked ⟨oL,v6,I.free⟩ hs,by simpa using I.len⟩ ⟨_,hs,.inl rfl⟩
  ·exact (hs.2 b (zax (zam (zai e) I.ok.above))).trans (I.base.keep b o e n hb hx)
  ·obtain⟨sl,e1⟩:=I.base.slot b o e n hb hx;exact⟨sl,(hs.2 b (zax (zam (zai e) I.ok.above))).trans e1⟩
  ·obtain⟨o',e1⟩:=I.base.there b o e hx;exact⟨o',(hs.2 b (zax (zam (zai e) I.ok.above))).trans e1⟩
  ·by_cases hj:j=i
   ·subst hj;rw[hi] at e1;cases e1;rw[zb3 hiσ] at e2;cases e2;exact⟨u,r,.inl ⟨hk,by simp⟩⟩
   ·rw[zbs (zbl hj)] at e2;obtain⟨u',r',q⟩:=hl j y v' e1 e2 e3;refine⟨u',r',?_⟩;rcases q with ⟨k,e⟩|⟨k,c,e,z⟩
    ·refine .inl ⟨k,?_⟩;have:y≠x:=λ e=>hj (SW hN e1 (e▸hi));simp[this,e]
    ·exact .inr ⟨k,c,e,z.sameBut hs (pJ y c e)⟩
  ·obtain⟨w',z⟩:=I.cell y c e;exact⟨w',z.sameBut hs (pJ y c e)⟩
  ·obtain⟨e,n,ne,nf,d⟩:=I.pin p hp;exact⟨(hs.2 p.1 ne).trans e,n,ne,nf,d⟩
 ·have ni:X.fn x=true:=by
   rcases hf with z|z
   ·exact z
   ·rw[z] at hk;cases hk
  obtain⟨c,hc⟩:=I.ok.has x (.inl hk);obtain⟨w',z⟩:=I.cell x c hc;refine wpAny_storeName_cell I.ok.kind hk hc z (λ h' cx hs=>?_);obtain⟨oc,t7,nj⟩:=id z;refine h {s with heap:=h' } ⟨I.ok,I.os,I.bare,⟨λ b o e n hb hx=>?_,λ b o e n hb hx=>?_,I.base.free,λ b o e hx=>?_,I.base.Qd,I.base.MQ,I.base.Qe⟩,⟨m,hn.sameBut hs (zbl (pJ x c hc)),λ j y v' e1 e2 e3=>?_⟩,λ y c' e=>?_,I.free,I.FG,λ p hp=>?_,tracked ⟨oc,t7,I.FG x c hc⟩ hs,by simpa using I.len⟩ ⟨c,hs,.inr hc⟩
  ·exact (hs.2 b (zax (zam (zai e) (I.ok.uU x c ni hc)))).trans (I.base.keep b o e n hb hx)
  ·obtain⟨sl,e1⟩:=I.base.slot b o e n hb hx;exact⟨sl,(hs.2 b (zax (zam (zai e) (I.ok.uU x c ni hc)))).trans e1⟩
  ·obtain⟨o',e1⟩:=I.base.there b o e hx;exact⟨o',(hs.2 b (zax (zam (zai e) (I.ok.uU x c ni hc)))).trans e1⟩
  ·by_cases hj:j=i
   ·subst hj;rw[hi] at e1;cases e1;rw[zb3 hiσ] at e2;cases e2;exact⟨u,r,.inr ⟨.inl hk,c,hc,cx⟩⟩
   ·rw[zbs (zbl hj)] at e2;obtain⟨u',r',q⟩:=hl j y v' e1 e2 e3;refine⟨u',r',?_⟩;rcases q with q|⟨k,c',e,z'⟩
    ·exact .inl q
    ·refine .inr ⟨k,c',e,z'.sameBut hs ?_⟩;rintro rfl;exact hj (SW hN e1 (I.ok.inj _ _ _ e hc▸hi))
  ·by_cases t8:c'=c
   ·subst t8;exact⟨_,cx⟩
   ·obtain⟨w2,z2⟩:=I.cell y c' e;exact⟨w2,z2.sameBut hs t8⟩
  ·obtain⟨e,n,ne,nf,d⟩:=I.pin p hp;refine⟨(hs.2 p.1 ?_).trans e,n,ne,nf,d⟩;intro q;rw[q,t7] at e;have q':oc=p.2:=zau e;exact d w' (by rw[<-q'];exact nj)
def SX (I:Inv X pins σ H s)(hN:X.N.Nodup)(hi:X.N[i]?=some x)(hx:Loc X.env.scope x)(r:RelV v u)(h:∀s',Inv X pins (σ.set i (some v)) H s'->Q () s')(hf:X.fn x=true\/X.env.scope.names.lookup x=some .local:=by first|exact .inl rfl|exact .inr rfl|assumption):wpAny M A (storeName X.env x u) Q E s:=
 QE I hN hi hx r (λ s' I' _=>h s' I') hf
def Inv.uV (I:Inv X pins σ H s)(ho:s'.os=s.os)(u:Un (Zb X.stack) ch H H' s.heap s'.heap)(AF:GX X.prog X.w H' s'.heap)(hg:AllBare s'.gens)(aY:∀b∈ch,(b∈X.ex\/X.s₀.heap.objs.size<=b)/\b≠X.env.locals/\(∀x c,X.env.cells.lookup x=some c->c≠b)/\∀p∈X.pn++pins,p.1≠b):Inv X pins σ H' s':=by
 obtain⟨h',g',d',t',o'⟩:=s';have e:o'=s.os:=ho;subst e;exact I.call (g':=g') (t':=t') (d':=d') u AF hg aY
end
noncomputable abbrev XK:=Value->Option Addr->Hp->Prop
noncomputable abbrev St:=List (Option V)
variable {σ:St}
noncomputable abbrev VK:=V->Hp->Prop
noncomputable abbrev TE:=St->Hp->VK->Prop
variable {ta te:TE}
noncomputable abbrev TT:=St->Hp->(Bool->Hp->Prop)->Prop
noncomputable abbrev TA:=St->Hp->(List V->Hp->Prop)->Prop
structure Ends where
 nx:St->Hp->Prop
 rt:VK
 bk:St->Hp->Prop:=λ _ _=>False
 ct:St->Hp->Prop:=λ _ _=>False
noncomputable abbrev TS:=Ends->St->Hp->Prop
abbrev EP (X:Cx)(pins:List (Addr×Obj))(σ:St)(Q:VK)(u:Value)(s':Shared):Prop:=∃v H',Inv X pins σ H' s'/\RelV v u/\Q v H'
abbrev TP (X:Cx)(pins:List (Addr×Obj))(σ:St)(Q:Bool->Hp->Prop)(b:Bool)(s':Shared):Prop:=∃H',Inv X pins σ H' s'/\Q b H'
abbrev AP (X:Cx)(pins:List (Addr×Obj))(σ:St)(Q:List V->Hp->Prop)(us:List Value)(s':Shared):Prop:=∃vs H',Inv X pins σ H' s'/\Vals vs us/\Q vs H'
abbrev SP (X:Cx)(pins:List (Addr×Obj))(D:Ends)(f:Flow)(s':Shared):Prop:=
 match f with
 | .next=>∃σ' H',Inv X pins σ' H' s'/\D.nx σ' H'
 | .brk=>∃σ' H',Inv X pins σ' H' s'/\D.bk σ' H'
 | .cont=>∃σ' H',Inv X pins σ' H' s'/\D.ct σ' H'
 | .ret u=>∃v σ' H',Inv X pins σ' H' s'/\RelV v u/\D.rt v H'
abbrev PE (X:Cx)(e:Expr)(t:TE):Prop:=
 ∀(pins:List (Addr×Obj)) (s:Shared) (σ:St) (H:Hp) (Q:VK),Inv X pins σ H s->t σ H Q->wpAny (model X.prog X.w) X.A (eval e X.env) (EP X pins σ Q) X.xe s
abbrev PT (X:Cx)(e:Expr)(t:TT):Prop:=
 ∀(pins:List (Addr×Obj)) (s:Shared) (σ:St) (H:Hp) (Q:Bool->Hp->Prop),Inv X pins σ H s->t σ H Q->wpAny (model X.prog X.w) X.A (isTrue e X.env (eval e X.env)) (TP X pins σ Q) X.xe s
abbrev PW (X:Cx)(e:Expr)(t:TT):Prop:=
 ∀(whole:Sem Value) (pins:List (Addr×Obj)) (s:Shared) (σ:St) (H:Hp) (Q:Bool->Hp->Prop),Inv X pins σ H s->t σ H Q->wpAny (model X.prog X.w) X.A (isTrue e X.env whole) (TP X pins σ Q) X.xe s
def PW.pt (h:PW X e t):PT X e t:=h _
abbrev PA (X:Cx)(es:List Expr)(t:TA):Prop:=
 ∀(pos:Pos) (pins:List (Addr×Obj)) (s:Shared) (σ:St) (H:Hp) (Q:List V->Hp->Prop),Inv X pins σ H s->t σ H Q->wpAny (model X.prog X.w) X.A (spliced (backTo pos (starEach es X.env))) (AP X pins σ Q) X.xe s
abbrev PS (X:Cx)(st:Stmt)(t:TS):Prop:=
 ∀(pins:List (Addr×Obj)) (s:Shared) (σ:St) (H:Hp) (D:Ends),Inv X pins σ H s->t D σ H->wpAny (model X.prog X.w) X.A (exec st X.env) (SP X pins D) X.xe s
abbrev Wq (X:Cx)(st:List Stmt)(t:TS):Prop:=
 ∀(pins:List (Addr×Obj)) (s:Shared) (σ:St) (H:Hp) (D:Ends),Inv X pins σ H s->t D σ H->wpAny (model X.prog X.w) X.A (execs st X.env) (SP X pins D) X.xe s
def B9 {α:Type}{t:Sem α}{Q Q'}(h:wpAny M A t Q E s)(hQ:∀a s,Q a s->Q' a s):wpAny M A t Q' E s:=wpAny_mono h hQ λ _ _ x=>x
section
abbrev Qf (i:Nat):TE:=λ σ H Q=>∃v,σ[i]?=some (some v)/\Q v H
abbrev tC (v:V):TE:=λ _ H Q=>Q v H
def pK (hN:X.N[i]?=some x)(hv:zV X.env.scope x)(hd:(x==("__debug__" : Str))=false:=by decide)(aO:(x==("__classdict__" : Str))=false:=by decide):PE X (.Name x pos) (Qf i):=by
 intro pins s σ H Q I h;obtain⟨v,e,h⟩:=h;obtain⟨m,hn,hl⟩:=I.loc;obtain⟨u,r,l⟩:=hl i x v hN e hv;have fin:EP X pins σ Q u s:=⟨v,H,I,r,h⟩;rcases l with ⟨hk,hm⟩|⟨hk,c,hc,dw⟩
 ·exact wpAny_Name (wpAny_loadName_local I.ok.kind hk hn hm fin) hd
 ·rcases hk with hk|hk
  ·exact wpAny_Name (wpAny_loadName_cell I.ok.kind hk hc dw fin) hd
  ·exact wpAny_Name (wpAny_loadName_free I.ok.kind hk hc dw fin aO) hd
def pL {i j pos}:PE X (.Constant (.int i) j pos) (tC (.int i)):=λ _ _ _ H _ I h=>wpAny_Constant_int ⟨.int i,H,I.tok _,⟨_,rfl⟩,h⟩
def uW {b j pos}:PE X (.Constant (.bool b) j pos) (tC (.bl b)):=λ _ _ _ H _ I h=>Constant_bool ⟨.bl b,H,I,rfl,h⟩
def pM {j pos}:PE X (.Constant .none j pos) (tC .Ax):=λ _ _ _ H _ I h=>Constant_none ⟨.Ax,H,I,rfl,h⟩
abbrev Gl (X:Cx)(x:Str):Prop:=X.env.kindOf x=some .globalImplicit
def RH (I:Inv X pins σ H s)(hg:Gl X x)(hm:X.mg x=some u)(h:Q u s)(hd:(x==("__debug__" : Str))=false:=by decide):wpAny (model X.prog X.w) X.A (eval (.Name x pos) X.env) Q E s:=
 Calls.Name_function_global I.ok.kind hg (Calls.loadGlobal_global (by rw[I.ok.glob];exact I.mod.glob.keeps I.bk) hm h) hd
def DY (I:Inv X pins σ H s)(hg:Gl X x)(hm:X.mg x=none)(hv:bootBuiltins x=some u)(h:Q u s)(hn:x ≠ "__name__" := by decide)(hd:(x==("__debug__" : Str))=false:=by decide):wpAny (model X.prog X.w) X.A (eval (.Name x pos) X.env) Q E s:=by
 obtain⟨mb,h1,h2⟩:=I.mod.blt;exact Calls.Name_function_global I.ok.kind hg (Calls.loadGlobal_builtin (by rw[I.ok.glob];exact I.mod.glob.keeps I.bk) hm (by rw[I.ok.blt];exact h1.keeps I.bk) ((h2 x hn).trans hv) h) hd
def iM (hg:Gl X x)(hm:X.mg x=none)(hv:bootBuiltins x=some u)(r:RelV v u)(hn:x ≠ "__name__" := by decide)(hd:(x==("__debug__" : Str))=false:=by decide):PE X (.Name x pos) (tC v):=
 λ _ _ _ H _ I h=>DY I hg hm hv ⟨v,H,I,r,h⟩ hn hd
variable {a b:Expr}{tb:TE}
abbrev PC (X:Cx)(op:CmpOp)(a b:Expr)(t:TE):Prop:=
 ∀(pins:List (Addr×Obj)) (s:Shared) (σ:St) (H:Hp) (Q:VK),Inv X pins σ H s->t σ H Q->
  wpAny (model X.prog X.w) X.A (eval a X.env) (λ v s₁=>wpAny (model X.prog X.w) X.A (eval b X.env) (λ u s₂=>wpAny (model X.prog X.w) X.A (compareOp op v u) (EP X pins σ Q) X.xe s₂) X.xe s₁) X.xe s
def SY (b:Expr)(h:op≠.In)(h2:op≠.NotIn):behindInMarks op b=false:=by
 have e1:(op==CmpOp.In)=false:=by cases op<;>first|rfl|exact absurd rfl h
 have e2:(op==CmpOp.NotIn)=false:=by cases op<;>first|rfl|exact absurd rfl h2
 cases b<;>simp[behindInMarks,e1,e2]
abbrev zY (ta:TE):TE:=λ σ H Q=>ta σ H λ x H1=>Q (.bl (decide (x=.Ax))) H1
abbrev uX (ta:TE):TE:=λ σ H Q=>ta σ H λ x H1=>Q (.bl (!decide (x=.Ax))) H1
def RelV.T4 (r:RelV x v):(v==Value.none)=decide (x=.Ax):=by
 cases x with
 |Ax|bl _=>cases r;rfl
 |int _|str _|pF _|uR _=>obtain⟨t,rfl⟩:=r;rfl
 |ref _|ty _=>cases r;rfl
def Zn {j pos'}(ha:PE X a ta):PC X .Is a (.Constant .none j pos') (zY ta):=by
 intro pins s σ H Q I h;refine B9 (ha pins s σ H _ I h) λ v s1 zz=>?_;obtain⟨x,H1,I1,r1,q1⟩:=zz;exact Constant_none (is_none_gen ⟨.bl _,H1,I1,by rw[r1.T4];rfl,q1⟩)
def Wr {j pos'}(ha:PE X a ta):PC X .IsNot a (.Constant .none j pos') (uX ta):=by
 intro pins s σ H Q I h;refine B9 (ha pins s σ H _ I h) λ v s1 zz=>?_;obtain⟨x,H1,I1,r1,q1⟩:=zz;exact Constant_none (isnot_none_gen ⟨.bl _,H1,I1,by rw[r1.T4];rfl,q1⟩)
abbrev tB (t:TE):TT:=λ σ H Q=>t σ H λ x H1=>∃c,x=.bl c/\Q c H1
def Zo (h:PC X op a b t)(h1:behindInMarks op b=false:=by first | exact SY _ (by decide) (by decide) | rfl):PE X (.Compare a [op] [b] pos) t:=λ pins s σ H Q I hw=>wpAny_Compare1 (h pins s σ H Q I hw) h1
def Zp (h:PC X op a b t)(h1:behindInMarks op b=false:=by first | exact SY _ (by decide) (by decide) | rfl):PT X (.Compare a [op] [b] pos) (tB t):=by
 intro pins s σ H Q I hw;refine wpAny_isTrue_Compare1 (B9 (h pins s σ H _ I hw) λ v s1 h1=>B9 h1 λ u s2 h2=>B9 h2 λ c s3 zz=>?_) h1;obtain⟨x,H1,I1,r1,q1⟩:=zz;obtain⟨d,rfl,q⟩:=q1;cases r1;exact wpAny_truthy_bool ⟨H1,I1,q⟩
variable {tA lr:TT}{rest:List Expr}
abbrev zZ (t u:TT):TT:=λ σ H Q=>t σ H λ c H1=>if c=true then u σ H1 Q else Q false H1
abbrev tOr (t u:TT):TT:=λ σ H Q=>t σ H λ c H1=>if c=true then Q true H1 else u σ H1 Q
abbrev aaa (t:TT):TT:=λ σ H Q=>t σ H λ c H1=>Q (!c) H1
def pw_and1 (ha:PT X a tA):PW X (.BoolOp .And [a] pos) tA:=by
 intro wh pins s σ H Q I h;refine isTrue_and (B9 (ha pins s σ H Q I h) λ c s1 e=>?_);cases c with
 |true=>exact isTrue_and_nil e
 |false=>exact e
def pw_or1 (ha:PT X a tA):PW X (.BoolOp .Or [a] pos) tA:=by
 intro wh pins s σ H Q I h;refine isTrue_or (B9 (ha pins s σ H Q I h) λ c s1 e=>?_);cases c with
 |false=>exact isTrue_or_nil e
 |true=>exact e
def pw_and (ha:PT X a tA)(hb:PW X (.BoolOp .And (b::rest) pos) lr):PW X (.BoolOp .And (a::b::rest) pos) (zZ tA lr):=by
 intro wh pins s σ H Q I h;refine isTrue_and (B9 (ha pins s σ H _ I h) λ c s1 zz=>?_);obtain⟨H1,I1,q1⟩:=zz;cases c with
 |true=>exact hb wh pins s1 σ H1 Q I1 q1
 |false=>exact⟨H1,I1,q1⟩
def pw_or (ha:PT X a tA)(hb:PW X (.BoolOp .Or (b::rest) pos) lr):PW X (.BoolOp .Or (a::b::rest) pos) (tOr tA lr):=by
 intro wh pins s σ H Q I h;refine isTrue_or (B9 (ha pins s σ H _ I h) λ c s1 zz=>?_);obtain⟨H1,I1,q1⟩:=zz;cases c with
 |true=>exact⟨H1,I1,q1⟩
 |false=>exact hb wh pins s1 σ H1 Q I1 q1
def pN (ha:PT X a tA):PT X (.UnaryOp .Not a pos) (aaa tA):=by
 intro pins s σ H Q I h;exact isTrue_not (ha pins s σ H (λ c H1=>Q (!c) H1) I h)
abbrev uY (ta tb:TE):TE:=λ σ H Q=>ta σ H λ x H1=>∃c,x=.bl c/\if c=true then tb σ H1 Q else Q (.bl false) H1
abbrev aab (ta tb:TE):TE:=λ σ H Q=>ta σ H λ x H1=>∃c,x=.bl c/\if c=true then Q (.bl true) H1 else tb σ H1 Q
abbrev uZ (ta:TE):TE:=λ σ H Q=>ta σ H λ x H1=>∃c,x=.bl c/\Q (.bl (!c)) H1
def pO {op}(h:PE X a t):PE X (.BoolOp op [a] pos) t:=λ pins s σ H Q I hw=>BoolOp_one (h pins s σ H Q I hw)
def pQ (ha:PE X a ta)(hb:PE X (.BoolOp .And (b::rest) pos) tb):PE X (.BoolOp .And (a::b::rest) pos) (uY ta tb):=by
 intro pins s σ H Q I h;refine BoolOp_and (B9 (ha pins s σ H _ I h) λ v s1 zz=>?_);obtain⟨x,H1,I1,r1,q1⟩:=zz;obtain⟨c,rfl,q1⟩:=q1;cases r1;refine wpAny_truthy_bool ?_;cases c with
 |true=>exact hb pins s1 σ H1 Q I1 q1
 |false=>exact⟨.bl false,H1,I1,rfl,q1⟩
def vA (ha:PE X a ta)(hb:PE X (.BoolOp .Or (b::rest) pos) tb):PE X (.BoolOp .Or (a::b::rest) pos) (aab ta tb):=by
 intro pins s σ H Q I h;refine BoolOp_or (B9 (ha pins s σ H _ I h) λ v s1 zz=>?_);obtain⟨x,H1,I1,r1,q1⟩:=zz;obtain⟨c,rfl,q1⟩:=q1;cases r1;refine wpAny_truthy_bool ?_;cases c with
 |false=>exact hb pins s1 σ H1 Q I1 q1
 |true=>exact⟨.bl true,H1,I1,rfl,q1⟩
def pR (ha:PE X a ta):PE X (.UnaryOp .Not a pos) (uZ ta):=by
 intro pins s σ H Q I h;refine UnaryOp_ (B9 (ha pins s σ H _ I h) λ v s1 zz=>?_);obtain⟨x,H1,I1,r1,q1⟩:=zz;obtain⟨c,rfl,q1⟩:=q1;cases r1;exact not_of (wpAny_truthy_bool ⟨.bl (!c),H1,I1,rfl,q1⟩)
end
abbrev DB (K:za1)(H:Hp)(a:Addr)(xs:List V):Prop:=
 Rd H a (.lst xs) \/
  ∃(o:Obj) (aa:Array Value) (n:Nat),K.lookup a=some o/\o.cls=.type "list" /\ o.dict=none/\o.data=.seq aa n/\aa.size<=sizeLine/\Vals xs aa.toList
abbrev Fq (K:za1)(H:Hp)(a:Addr)(xs:List V):Prop:=
 Rd H a (.tup xs) \/
  ∃(o:Obj) (aa:Array Value) (n:Nat),K.lookup a=some o/\o.cls=.type "tuple" /\ o.data=.seq aa n/\aa.size<=sizeLine/\Vals xs aa.toList
abbrev aac:Value->Option V
 | .none=>some .Ax
 | .bool b=>some (.bl b)
 | .int i _=>some (.int i)
 | .str x _=>some (.str x)
 | .bytes b _=>some (.pF b)
 | .float b _=>some (.uR b)
 | .ref a=>some (.ref a)
 | .type n=>some (.ty n)
 |_=>none
def RelV.abs (r:RelV x u):aac u=some x:=by
 cases x with
 |Ax|bl _=>cases r;rfl
 |int _|str _|pF _|uR _=>obtain⟨t,rfl⟩:=r;rfl
 |ref _|ty _=>cases r;rfl
def RelV.inj (r:RelV x u)(q:RelV y u):x=y:=zau (r.abs.symm.trans q.abs)
def Vals.inj:∀ {xs ys:List V}{us:List Value},Vals xs us->Vals ys us->xs=ys
 |_,_,_,.nil,.nil=>rfl
 |_,_,_,.cons r t,.cons r' t'=>by rw[r.inj r',Vals.inj t t']
section
variable {xs ys:List V}
def DB.of {K}(h:H a=some (.lst xs)):DB K H a xs:=.inl (.inl h)
def Fq.of {K}(h:H a=some (.tup xs)):Fq K H a xs:=.inl (.inl h)
def Inv.list (I:Inv X pins σ H s)(h:DB X.K H a xs):∃aa:List Value,Vals xs aa/\PlainL s.heap a aa.toArray/\xs.length<=sizeLine:=by
 rcases h with h|⟨o,aa,n,hk,hc,hd,hs,hz,r⟩
 ·obtain⟨z,aa,n,r,e⟩:=h.ok I.AF;exact⟨aa,r,⟨_,n,e,rfl,rfl,rfl⟩,z⟩
 ·refine⟨aa.toList,r,⟨o,n,I.Mh a o hk,hc,hd,by simpa using hs⟩,?_⟩;have e:=r.length;simp only[zdb] at e;omega
def Inv.tuple (I:Inv X pins σ H s)(h:Fq X.K H a xs):∃aa:List Value,Vals xs aa/\IsTup s.heap a aa.toArray/\xs.length<=sizeLine:=by
 rcases h with h|⟨o,aa,n,hk,hc,hs,hz,r⟩
 ·obtain⟨z,aa,r,p⟩:=h.ok I.AF;exact⟨aa,r,p,z⟩
 ·refine⟨aa.toList,r,⟨o,I.Mh a o hk,hc,n,by simpa using hs⟩,?_⟩;have e:=r.length;simp only[zdb] at e;omega
def Inv.Hw (I:Inv X pins σ H s)(h:DB X.K H a xs)(h':DB X.K H a ys):xs=ys:=by
 obtain⟨aa,r,⟨o,n,e,_,_,d⟩,_⟩:=I.list h;obtain⟨its',r',⟨o',n',e',_,_,d'⟩,_⟩:=I.list h';rw[e] at e';cases e';rw[d] at d';injection d' with d1 _
 have:aa=its':=by simpa using congrArg Array.toList d1
 subst this;exact r.inj r'
def Inv.J1 (I:Inv X pins σ H s)(h:Fq X.K H a xs)(h':Fq X.K H a ys):xs=ys:=by
 obtain⟨aa,r,⟨o,e,_,n,d⟩,_⟩:=I.tuple h;obtain⟨its',r',⟨o',e',_,n',d'⟩,_⟩:=I.tuple h';rw[e] at e';cases e';rw[d] at d';injection d' with d1 _
 have:aa=its':=by simpa using congrArg Array.toList d1
 subst this;exact r.inj r'
end
noncomputable abbrev Cx.Qg (X:Cx)(E:Value->Shared->Prop):Cx:={X with xe:=E}
noncomputable abbrev Cx.vB (X:Cx):Cx:=X.Qg λ _ _=>False
def Cx.Ok.Qg (ok:X.Ok)(E:Value->Shared->Prop):(X.Qg E).Ok:=
 ⟨ok.mod,ok.kind,ok.glob,ok.blt,ok.above,ok.inj,ok.has,ok.uU,ok.hd,ok.frames,ok.yU,ok.yV,ok.bs,ok.nI,ok.Zl,ok.Zm,ok.Lp,ok.pI⟩
def Cx.Ok.Hx (ok:(X.Qg E).Ok):X.Ok:=
 ⟨ok.mod,ok.kind,ok.glob,ok.blt,ok.above,ok.inj,ok.has,ok.uU,ok.hd,ok.frames,ok.yU,ok.yV,ok.bs,ok.nI,ok.Zl,ok.Zm,ok.Lp,ok.pI⟩
def Inv.Qg (I:Inv X pins σ H s)(E:Value->Shared->Prop):Inv (X.Qg E) pins σ H s:=⟨I.ok.Qg E,I.os,I.bare,I.base,I.loc,I.cell,I.free,I.FG,I.pin,I.AF,I.len⟩
def Inv.Hx (I:Inv (X.Qg E) pins σ H s):Inv X pins σ H s:=⟨I.ok.Hx,I.os,I.bare,I.base,I.loc,I.cell,I.free,I.FG,I.pin,I.AF,I.len⟩
def SP.Hx (h:SP (X.Qg E) pins D f s'):SP X pins D f s':=by
 cases f with
 |next|brk|cont=>obtain⟨σ',H',I,q⟩:=h;exact⟨σ',H',I.Hx,q⟩
 |ret u=>obtain⟨v,σ',H',I,r,q⟩:=h;exact⟨v,σ',H',I.Hx,r,q⟩
def Wq.vB {st}(h:Wq X.vB st t):Wq X st t:=λ pins s σ H D I hw =>
 wpAny_mono (h pins s σ H D (I.Qg _) hw) (λ _ _ q=>q.Hx) λ _ _ z=>zc8 z
section
variable {st:Stmt}{rest:List Stmt}{t u:TS}
abbrev vC:TS:=λ D σ H=>D.nx σ H
abbrev aad (t u:TS):TS:=λ D σ H=>t {D with nx:=u D} σ H
def iN:Wq X [] vC:=λ _ _ σ H _ I h=>wpAny_execs_nil ⟨σ,H,I,h⟩
def Zq (h1:PS X st t)(h2:Wq X rest u):Wq X (st::rest) (aad t u):=by
 intro pins s σ H D I h;refine wpAny_execs_cons (B9 (h1 pins s σ H {D with nx:=u D} I h) λ f s1 q=>?_);cases f with
 |next =>
  obtain⟨σ',H',I',q⟩:=q;exact h2 pins s1 σ' H' D I' q
 |ret v|brk|cont=>exact q
def iO (h1:PS X st t):Wq X [st] t:=by
 intro pins s σ H D I h;refine wpAny_execs_cons (B9 (h1 pins s σ H D I h) λ f s1 q=>?_);cases f with
 |next=>exact wpAny_execs_nil q
 |ret v|brk|cont=>exact q
def Inv.quiet (I:Inv X pins σ H s):interactive X.env=false:=by simp[interactive,I.ok.kind]
abbrev vD (te:TE):TS:=λ D σ H=>te σ H λ _ H1=>D.nx σ H1
def Gd (he:PE X e te)(hs: ~~~(swapsWith e none pos.line X.env=pure false)):PS X (.Expr e pos) (vD te):=by
 intro pins s σ H D I h;exact wpAny_Expr_any (B9 (he pins s σ H _ I h) λ v s1 ⟨x,H1,I1,r1,q1⟩=>⟨σ,H1,I1,q1⟩) I.quiet hs
abbrev aae (te:TE):TS:=λ D σ H=>te σ H D.rt
def RI (he:PE X e te):PS X (.Return (some e) pos) (aae te):=by
 intro pins s σ H D I h;exact wpAny_Return_some (B9 (he pins s σ H _ I h) λ v s1 ⟨x,H1,I1,r1,q1⟩=>⟨x,σ,H1,I1,r1,q1⟩)
abbrev aaf (c:TT)(t u:TS):TS:=λ D σ H=>c σ H λ b H1=>if b=true then t D σ H1 else u D σ H1
def vE {a}(hc:PT X c tc)(ha:Wq X a t)(hb:Wq X b u):PS X (.If c a b pos) (aaf tc t u):=by
 intro pins s σ H D I h;refine wpAny_If (B9 (hc pins s σ H _ I h) λ d s1 zz=>?_);obtain⟨H1,I1,q1⟩:=zz;cases d with
 |true=>exact ha pins s1 σ H1 D I1 q1
 |false=>exact hb pins s1 σ H1 D I1 q1
end
noncomputable abbrev TG:=V->St->Hp->(St->Hp->Prop)->Prop
noncomputable abbrev Zc:=List V->St->Hp->(St->Hp->Prop)->Prop
abbrev PG (X:Cx)(target:Expr)(t:TG):Prop:=
 ∀(pins:List (Addr×Obj)) (s:Shared) (σ:St) (H:Hp) (v:V) (u:Value) (Q:St->Hp->Prop),Inv X pins σ H s->RelV v u->t v σ H Q->
  wpAny (model X.prog X.w) X.A (assign target X.env u) (λ _ s'=>∃σ' H',Inv X pins σ' H' s'/\Q σ' H') X.xe s
abbrev uG (X:Cx)(ts:List Expr)(t:Zc):Prop:=
 ∀(pins:List (Addr×Obj)) (s:Shared) (σ:St) (H:Hp) (vs:List V) (us:List Value) (Q:St->Hp->Prop),Inv X pins σ H s->Vals vs us->t vs σ H Q->
  wpAny (model X.prog X.w) X.A (assignInOrder ((assignEach ts X.env).map (·.2)) us) (λ _ s'=>∃σ' H',Inv X pins σ' H' s'/\Q σ' H') X.xe s
noncomputable abbrev pS:=V->V->V->Hp->(Hp->Prop)->Prop
abbrev vF (X:Cx)(t:pS):Prop:=
 ∀(pins:List (Addr×Obj)) (s:Shared) (σ:St) (H:Hp) (o i v:V) (ov iv u:Value) (Q:Hp->Prop),Inv X pins σ H s->RelV o ov->RelV i iv->RelV v u->t o i v H Q->
  wpAny (model X.prog X.w) X.A (setItem ov iv u) (λ _ s'=>∃H',Inv X pins σ H' s'/\Q H') X.xe s
abbrev QF (i:Nat):TG:=λ v σ H Q=>Q (σ.set i (some v)) H
def RJ (hN:X.N.Nodup)(hi:X.N[i]?=some x)(hx:Loc X.env.scope x)(hf:X.fn x=true\/X.env.scope.names.lookup x=some .local:=by first | exact .inl rfl | exact .inr rfl | assumption):PG X (.Name x pos) (QF i):=by
 intro pins s σ H v u Q I r h;exact wpAny_assign_Name (SX I hN hi hx r (λ s' I'=>⟨_,H,I',h⟩) hf)
abbrev pT:Zc:=λ vs σ H Q=>vs=[]/\Q σ H
abbrev Zr (t:TG)(u:Zc):Zc:=λ vs σ H Q=>∃v r,vs=v::r/\t v σ H λ σ' H'=>u r σ' H' Q
def Ws:uG X [] pT:=by
 intro pins s σ H vs us Q I r h;obtain⟨e,h⟩:=h;subst e;cases r;exact assignInOrder_nil ⟨σ,H,I,h⟩
def T5 (h1:PG X e t)(h2:uG X es u)(hs: ~~~((assignEach (e::es) X.env).map (·.2)=assign e X.env::(assignEach es X.env).map (·.2))):uG X (e::es) (Zr t u):=by
 intro pins s σ H vs us Q I r h;obtain⟨v,vr,e1,h⟩:=h;subst e1;cases r with
 |cons r rr =>
  rw[hs];refine assignInOrder_cons (B9 (h1 pins s σ H _ _ _ I r h) λ _ s1 zz=>?_);obtain⟨σ1,H1,I1,q1⟩:=zz;exact h2 pins s1 σ1 H1 _ _ Q I1 rr q1
abbrev pU (K:za1)(n:Nat)(t:Zc):TG:=λ v σ H Q=>∃a xs,v=.ref a/\Fq K H a xs/\xs.length=n/\t xs σ H Q
def Zs (hc:X.calm=true)(h:uG X es t)(hn: ~~~((assignEach es X.env).length=n))(a7: ~~~((assignEach es X.env).findIdx? (·.1)=none)):PG X (.Tuple es k pos) (pU X.K n t):=by
 intro pins s σ H v u Q I r hw;obtain⟨a,xs,e1,hq,hl,hw⟩:=hw;subst e1;cases r;obtain⟨aa,rv,ht,hz⟩:=I.tuple hq;refine assign_Tuple_tuple (I.ok.hd hc) ht (by simp[hn,<-hl,rv.length]) a7 λ h' hx=>?_;have I1:Inv X pins σ H {s with heap:=h' }:=I.kept (t':=s.toks) λ b o e=>hx b o (zax (zai e)) e;exact h pins _ σ H xs _ Q I1 (by simpa using rv) hw
abbrev aag (to ti:TE)(t:pS):TG:=λ v σ H Q=>to σ H λ o H1=>ti σ H1 λ i H2=>t o i v H2 λ H3=>Q σ H3
def pV (ho:PE X o to)(hi:PE X i ti)(hs:vF X t)(ha:∀v,assign (.Subscript o i pos) X.env v=(do
  let ov <-holding [v] (eval o X.env);let iv <-holding [v,ov] (eval i X.env)
  standAt pos
  holding [v,ov,iv] (setItem ov iv v)
  release [v,ov,iv] []):=by intro _;rfl):PG X (.Subscript o i pos) (aag to ti t):=by
 intro pins s σ H v u Q I r h;rw[ha];refine wpAny_bind (wpAny_holding (B9 (ho pins s σ H _ I h) λ ov s1 zz=>?_));obtain⟨x,H1,I1,r1,q1⟩:=zz;refine wpAny_bind (wpAny_holding (B9 (hi pins s1 σ H1 _ I1 q1) λ iv s2 zz=>?_));obtain⟨y,H2,I2,r2,q2⟩:=zz;refine wpAny_bind (wpAny_standAt (wpAny_bind (wpAny_holding (B9 (hs pins s2 σ H2 x y v ov iv u _ I2 r1 r2 r q2) λ _ s3 zz=>?_))));obtain⟨H3,I3,q3⟩:=zz;exact wpAny_release ⟨σ,H3,I3,q3⟩
abbrev vG (te:TE)(g:TG):TS:=λ D σ H=>te σ H λ x H1=>g x σ H1 D.nx
def Zt (he:PE X e te)(hg:PG X tg g)(hs: ~~~(swapsWithSole [tg] e pos.line X.env=pure false))(hw: ~~~(swappedStores [tg] e X.env=pure none))(h1: ~~~((assignEach [tg] X.env).map (·.2)=[assign tg X.env])):PS X (.Assign [tg] e pos) (vG te g):=by
 intro pins s σ H D I h;refine wpAny_Assign_stores (B9 (he pins s σ H _ I h) λ v s1 zz=>?_) hs hw;obtain⟨x,H1,I1,r1,q1⟩:=zz;rw[h1];exact B9 (hg pins s1 σ H1 x v _ I1 r1 q1) λ _ s2 q=>q
def V6 (hN:X.N.Nodup)(hi:X.N[i]?=some x)(hx:Loc X.env.scope x)(he:PE X e te)(hs: ~~~(swapsWith e (some (.Name x pos')) pos.line X.env=pure false))(hf:X.fn x=true\/X.env.scope.names.lookup x=some .local:=by first | exact .inl rfl | exact .inr rfl | assumption):
 PS X (.Assign [.Name x pos'] e pos) (vG te (QF i)):=by
 intro pins s σ H D I h;refine wpAny_Assign_Name (B9 (he pins s σ H _ I h) λ v s1 zz=>?_) hs;obtain⟨y,H1,I1,r1,q1⟩:=zz;exact SX I1 hN hi hx r1 (λ s2 I2=>⟨_,H1,I2,q1⟩) hf
abbrev pW (c:TT)(tb:TS):TS:=λ D σ H=>∃W:Nat->St->Hp->Prop,(∃m,W m σ H)/\∀m σ H,W m σ H->
 c σ H λ b H1=>if b=true then ∃N:St->Hp->Prop,(∀σ' H',N σ' H'->∃m',m'<m/\W m' σ' H')/\tb {D with nx:=N,ct:=N,bk:=D.nx} σ H1 else D.nx σ H1
def Zu (hp:PassesOwn (model X.prog X.w) X.A X.env X.xe)(hc:PT X c tc)(hb:Wq X body tb):PS X (.While c body [] pos) (pW tc tb):=by
 intro pins s σ H D I h;obtain⟨W,⟨m0,w0⟩,turn⟩:=h;refine wpAny_While (codeAny_whileLoop (λ n s'=>∃σ' H',Inv X pins σ' H' s'/\W n σ' H') ?_ m0 ⟨σ,H,I,w0⟩);rintro n s1 ⟨σ1,H1,I1,w1⟩;refine wpAny_passesOwn hp (B9 (hc pins s1 σ1 H1 _ I1 (turn n σ1 H1 w1)) λ b s2 zz=>?_);obtain⟨H2,I2,q2⟩:=zz;cases b with
 |true =>
  obtain⟨N,hN,q2⟩:=q2;rw[if_pos rfl];refine wpAny_passesOwn hp (B9 (hb pins s2 σ1 H2 _ I2 q2) λ f s3 q3=>?_);cases f with
  |next =>
   obtain⟨σ3,H3,I3,n3⟩:=q3;obtain⟨m',hm,w3⟩:=hN σ3 H3 n3;exact⟨m',hm,σ3,H3,I3,w3⟩
  |cont =>
   obtain⟨σ3,H3,I3,n3⟩:=q3;obtain⟨m',hm,w3⟩:=hN σ3 H3 n3;exact⟨m',hm,σ3,H3,I3,w3⟩
  |brk|ret v=>exact q3
 |false =>
  rw[if_neg zaq];exact wpAny_execs_nil ⟨σ1,H2,I2,q2⟩
structure It where
 go:Nat->Hp->Prop
 iP:Nat->Hp->V->Hp->Prop
 stop:Nat->Hp->Prop
abbrev MR (X:Cx)(pins:List (Addr×Obj))(H:Hp)(b:Addr):Prop:=
 H b=none/\b≠X.env.locals/\b∉X.fs/\(b∈X.ex\/X.s₀.heap.objs.size<=b)/\(∀x c,X.env.cells.lookup x=some c->c≠b)/\∀p∈X.pn++pins,p.1≠b
def Inv.V7 (I:Inv X pins σ H s)(hb:s.heap.objs.size<=b)(hn:H' b=none):MR X pins H' b:=by
 refine⟨hn,Nat.ne_of_gt (zam I.lt hb),I.zX hb,.inr (zc0 I.sz hb),λ x c e z=>?_,λ p hp z=>?_⟩
 ·obtain⟨v,q⟩:=I.cell x c e;exact absurd (zam q.lt (by rw[z];exact hb)) (Nat.lt_irrefl _)
 ·exact absurd (zam (zai (I.pin p hp).1) (by rw[z];exact hb)) (Nat.lt_irrefl _)
structure Turn (P:Program)(w:World)(K:za1)(tg:Expr)(J:It)(fp:List Addr)(it:Addr)(tn:Nat->Heap->Prop):Prop where
 mem:it∈fp
 obj:∀i h,tn i h->∀b∈fp,∃o,h.get? b=some o/\∀v,o.data≠.cell v
 keep:∀i h h',tn i h->(∀b∈fp,∀o,h.get? b=some o->h'.get? b=some o)->tn i h'
 item:∀(X:Cx),X.prog=P->X.w=w->X.K=K->X.calm=true->∀(i:Nat) (pins:List (Addr×Obj)) (s:Shared) (σ:St) (H:Hp) (E:Value->Shared->Prop),Inv X pins σ H s->(∀b∈fp,MR X pins H b)->tn i s.heap->J.go i H->
  wpAny (model P w) X.A (pyNext (.ref it)) (λ r s1=>∃u,r=some u/\
   wpAny (model P w) X.A (letOwnedTupleGo tg (.ref it) u) (λ _ s2=>∃x H',Inv X pins σ H' s2/\RelV x u/\J.iP i H x H'/\tn (i+1) s2.heap/\∀b∈fp,H' b=none) E s1) E s
 done:∀(X:Cx),X.prog=P->X.w=w->X.K=K->X.calm=true->∀(i:Nat) (pins:List (Addr×Obj)) (s:Shared) (σ:St) (H:Hp) (E:Value->Shared->Prop),Inv X pins σ H s->(∀b∈fp,MR X pins H b)->tn i s.heap->J.stop i H->
  wpAny (model P w) X.A (pyNext (.ref it)) (λ r s1=>r=none/\Inv X pins σ H s1) E s
 self:∀(A:Around) (i:Nat) (s:Shared) (Q:Value->Shared->Prop) (E:Value->Shared->Prop),tn i s.heap->Q (.ref it) s->wpAny (model P w) A (pyIter (.ref it)) Q E s
noncomputable abbrev TI:=St->Hp->(It->Hp->Prop)->Prop
abbrev PIE (X:Cx)(pins:List (Addr×Obj))(σ:St)(tg:Expr)(R:It->Hp->Prop)(ls:Value)(s2:Shared):Prop:=
 ∃(it:Addr) (fp:List Addr) (tn:Nat->Heap->Prop) (J:It) (H':Hp),ls=.ref it/\Inv X pins σ H' s2/\Turn X.prog X.w X.K tg J fp it tn/\tn 0 s2.heap/\(∀b∈fp,MR X pins H' b)/\R J H'
abbrev PI (X:Cx)(tg iter:Expr)(wi:TI):Prop:=
 ∀(pins:List (Addr×Obj)) (s:Shared) (σ:St) (H:Hp) (R:It->Hp->Prop),Inv X pins σ H s->wi σ H R->
  wpAny (model X.prog X.w) X.A (eval iter X.env) (λ v s1=>wpAny (model X.prog X.w) X.A (pyIter v) (PIE X pins σ tg R) X.xe s1) X.xe s
def T6 (ho:s.heap.get? it=some o)(hc:o.cls=.type n)(hd:o.data=.fields vs)(hn:["enumerate","zip","dict_itemiterator","dict_reverseitemiterator","odict_iterator","itertools.zip_longest","itertools.pairwise"].contains n=false)(hQ:Q () s):wpAny M A (letOwnedTupleGo tg (.ref it) u) Q E s:=by
 unfold letOwnedTupleGo;cases tg<;>first
  |exact wpAny_pure hQ
  |(cases u<;>first
   |exact wpAny_pure hQ
   |(
    refine wpAny_bind (wpAny_load ho ?_);rw[hc,hd];show wpAny M A (if (["enumerate","zip","dict_itemiterator","dict_reverseitemiterator","odict_iterator","itertools.zip_longest","itertools.pairwise"].contains n&&vs[0]?== some (rawInt _))=true then _ else _) Q E s;rw[if_neg (by intro h;rw[hn,Bool.false_and] at h;cases h)];exact wpAny_pure hQ))
abbrev Itl (K:za1)(a:Addr):It:=
 ⟨λ i H=>∃xs x,DB K H a xs/\xs[i]?=some x,λ i H x H'=>H'=H/\∀xs,DB K H a xs->xs[i]?=some x,λ i H=>∃xs,DB K H a xs/\xs.length<=i⟩
abbrev Itt (K:za1)(a:Addr):It:=
 ⟨λ i H=>∃xs x,Fq K H a xs/\xs[i]?=some x,λ i H x H'=>H'=H/\∀xs,Fq K H a xs->xs[i]?=some x,λ i H=>∃xs,Fq K H a xs/\xs.length<=i⟩
abbrev yW (lo:Int)(n:Nat):It:=⟨λ i _=>i<n,λ i H x H'=>H'=H/\x=.int (lo+i),λ i _=>n<=i⟩
def Xy {K}(a it:Addr):Turn P w K tg (Itl K a) [it] it (λ i h=>h.IsListIter it a i) where
 mem:=by simp
 obj:=λ i h st b hb=>by
  have e:b=it:=by simpa using hb
  subst e;obtain⟨o,e,c,d⟩:=st;exact⟨o,e,λ v z=>by rw[d] at z;cases z⟩
 keep:=λ i h h' st k=>st.at λ o e=>k it (by simp) o e
 item:=by
  intro X hP hw hK hc i pins s σ H E I hf st hg;subst hP hw hK;obtain⟨xs,x,hq,hx⟩:=hg;obtain⟨aa,rv,p,hz⟩:=I.list hq;obtain⟨u,hu,ru⟩:=rv.get hx;obtain⟨f0,f1,f2,f3,f4,f5⟩:=hf it (by simp);refine wpAny_pyNext_list_item st p.isList (x:=u) (by simpa using hu) λ h' aZ sb=>?_;have I1:Inv X pins σ H {s with heap:=h' }:=I.turned (t':=s.toks) (λ b o hb e=>(sb.2 b hb).trans e) f0 f1 f3 f4 f5;obtain⟨o,e,c,d⟩:=id aZ;exact⟨u,rfl,T6 (s:={s with heap:=h' }) e c d (by decide) ⟨x,H,I1,ru,⟨rfl,λ ys hy=>by rw[I.Hw hy hq];exact hx⟩,aZ,λ b hb=>(hf b hb).1⟩⟩
 done:=by
  intro X hP hw hK hc i pins s σ H E I hf st hg;subst hP hw hK;obtain⟨xs,hq,hx⟩:=hg;obtain⟨aa,rv,p,hz⟩:=I.list hq;obtain⟨f0,f1,f2,f3,f4,f5⟩:=hf it (by simp);have hl:=rv.length;exact wpAny_pyNext_list_end (I.ok.hd hc) st p.isList (by simp;omega) λ h' eb=>⟨rfl,I.turned (t':=s.toks) (λ b o hb e=>eb b o hb e) f0 f1 f3 f4 f5⟩
 self:=λ _ _ _ _ _ st h=>wpAny_pyIter_listiter st h
def V8 {K}(a it:Addr):Turn P w K tg (Itt K a) [it] it (λ i h=>h.IsTupleIter it a i) where
 mem:=by simp
 obj:=λ i h st b hb=>by
  have e:b=it:=by simpa using hb
  subst e;obtain⟨o,e,c,d⟩:=st;exact⟨o,e,λ v z=>by rw[d] at z;cases z⟩
 keep:=λ i h h' st k=>st.at λ o e=>k it (by simp) o e
 item:=by
  intro X hP hw hK hc i pins s σ H E I hf st hg;subst hP hw hK;obtain⟨xs,x,hq,hx⟩:=hg;obtain⟨aa,rv,p,hz⟩:=I.tuple hq;obtain⟨u,hu,ru⟩:=rv.get hx;obtain⟨f0,f1,f2,f3,f4,f5⟩:=hf it (by simp);refine wpAny_pyNext_tuple_item st (show s.heap.IsTuple a aa.toArray from p) (x:=u) (by simpa using hu) λ h' aZ sb=>?_;have I1:Inv X pins σ H {s with heap:=h' }:=I.turned (t':=s.toks) (λ b o hb e=>(sb.2 b hb).trans e) f0 f1 f3 f4 f5;obtain⟨o,e,c,d⟩:=id aZ;exact⟨u,rfl,T6 (s:={s with heap:=h' }) e c d (by decide) ⟨x,H,I1,ru,⟨rfl,λ ys hy=>by rw[I.J1 hy hq];exact hx⟩,aZ,λ b hb=>(hf b hb).1⟩⟩
 done:=by
  intro X hP hw hK hc i pins s σ H E I hf st hg;subst hP hw hK;obtain⟨xs,hq,hx⟩:=hg;obtain⟨aa,rv,p,hz⟩:=I.tuple hq;obtain⟨f0,f1,f2,f3,f4,f5⟩:=hf it (by simp);have hl:=rv.length;exact wpAny_pyNext_tuple_end (I.ok.hd hc) st (show s.heap.IsTuple a aa.toArray from p) (by simp;omega) λ h' eb=>⟨rfl,I.turned (t':=s.toks) (λ b o hb e=>eb b o hb e) f0 f1 f3 f4 f5⟩
 self:=λ _ _ _ _ _ st h=>wpAny_pyIter_tupleiter st h
def V9 {K}(it:Addr)(lo:Int)(n:Nat):Turn P w K tg (yW lo n) [it] it (λ i h=>IsRangeIter h it (lo+(i:Nat)*1) ((n:Int)-(i:Nat)) 1) where
 mem:=by simp
 obj:=λ i h st b hb=>by
  have e:b=it:=by simpa using hb
  subst e;exact⟨_,st,λ v z=>by
   have z':Data.fields _=Data.cell v:=z;cases z'⟩
 keep:=λ i h h' st k=>k it (by simp) _ st
 item:=by
  intro X hP hw hK hc i pins s σ H E I hf st hg;subst hP hw hK;obtain⟨f0,f1,f2,f3,f4,f5⟩:=hf it (by simp);have W:=Walks.range (prog:=X.prog) (w:=X.w) (I.ok.hd hc) it lo 1 n;refine W.item i s _ _ hg st λ v h' tk hv aZ kk=>?_;obtain⟨t,rfl⟩:=hv;have I1:Inv X pins σ H {s with heap:=h',toks:=tk}:=I.turned (λ b o hb e=>kk b o (by simpa using hb) e) f0 f1 f3 f4 f5;refine⟨_,rfl,T6 (s:={s with heap:=h',toks:=tk}) (n := "range_iterator") aZ rfl rfl (by decide) ⟨.int (lo+i),H,I1,⟨t,?_⟩,⟨rfl,rfl⟩,aZ,λ b hb=>(hf b hb).1⟩⟩;rw[Int.mul_one]
 done:=by
  intro X hP hw hK hc i pins s σ H E I hf st hg;subst hP hw hK;obtain⟨f0,f1,f2,f3,f4,f5⟩:=hf it (by simp);exact wpAny_pyNext_range_end (I.ok.hd hc) st (by have:n<=i:=hg;omega) λ h' eb=>⟨rfl,I.turned (t':=s.toks) (λ b o hb e=>eb b o hb e) f0 f1 f3 f4 f5⟩
 self:=λ _ _ _ _ _ st h=>wpAny_pyIter_rangeiter st h
section
variable {tg:Expr}
abbrev vH (K:za1)(tl:TE):TI:=λ σ H R=>tl σ H λ x H1=>∃a,x=.ref a/\(∃xs,DB K H1 a xs)/\R (Itl K a) H1
abbrev aai (K:za1)(tl:TE):TI:=λ σ H R=>tl σ H λ x H1=>∃a,x=.ref a/\(∃xs,Fq K H1 a xs)/\R (Itt K a) H1
def iQ (hl:PE X l tl):PI X tg l (vH X.K tl):=by
 intro pins s σ H R I h;refine B9 (hl pins s σ H _ I h) λ v s1 zz=>?_;obtain⟨x,H1,I1,r1,q1⟩:=zz;obtain⟨a,e,⟨xs,hq⟩,q⟩:=q1;subst e;cases r1;obtain⟨aa,rv,p,hz⟩:=I1.list hq;refine wpAny_pyIter_list p.isList ?_;refine⟨s1.heap.objs.size,[s1.heap.objs.size],_,_,H1,rfl,I1.kept (t':=s1.toks) λ b o e=>zad _ e,Xy a _,⟨_,zap _ rfl,rfl,rfl⟩,λ b hb=>?_,q⟩;have e:b=s1.heap.objs.size:=by simpa using hb
 subst e;exact I1.V7 (zaf _) (I1.AF.fresh (zaf _))
def pX (hl:PE X l tl):PI X tg l (aai X.K tl):=by
 intro pins s σ H R I h;refine B9 (hl pins s σ H _ I h) λ v s1 zz=>?_;obtain⟨x,H1,I1,r1,q1⟩:=zz;obtain⟨a,e,⟨xs,hq⟩,q⟩:=q1;subst e;cases r1;obtain⟨aa,rv,p,hz⟩:=I1.tuple hq;refine wpAny_pyIter_tuple (show s1.heap.IsTuple a aa.toArray from p) ?_;refine⟨s1.heap.objs.size,[s1.heap.objs.size],_,_,H1,rfl,I1.kept (t':=s1.toks) λ b o e=>zad _ e,V8 a _,⟨_,zap _ rfl,rfl,rfl⟩,λ b hb=>?_,q⟩;have e:b=s1.heap.objs.size:=by simpa using hb
 subst e;exact I1.V7 (zaf _) (I1.AF.fresh (zaf _))
def Zv {lo}(I:Inv X pins σ H s)(h1 : -(2^62)<=lo)(h2:lo<2^62)(h3 : -(2^62)<=hi)(h4:hi<2^62)(q:R (yW lo (hi-lo).toNat) H):wpAny (model X.prog X.w) X.A (pyIter (.ref s.heap.objs.size)) (PIE X pins σ tg R) E {s with heap:=s.heap.push {cls:=.type "range",data:=.fields #[.int lo t,.int hi u,.int 1 v]},toks:=tk}:=by
 refine wpAny_pyIter_range (IsRange.new ..) (small_one h1 h2 h3 h4) ?_;have I1:Inv X pins σ H {s with heap:=s.heap.push {cls:=.type "range",data:=.fields #[.int lo t,.int hi u,.int 1 v]},toks:=tk}:=I.kept λ b o e=>zad _ e;refine⟨(s.heap.push {cls:=.type "range",data:=.fields #[.int lo t,.int hi u,.int 1 v]}).objs.size,[(s.heap.push {cls:=.type "range",data:=.fields #[.int lo t,.int hi u,.int 1 v]}).objs.size],_,_,H,rfl,
  I1.kept (t':=tk) λ b o e=>zad _ e,V9 _ lo (hi-lo).toNat,?_,λ b hb=>?_,q⟩
 ·have e1:lo+((0:Nat):Int)*1=lo:=by simp
  have e2:(((hi-lo).toNat:Nat):Int)-((0:Nat):Int)=Builtin.Range.rangeSize lo hi 1:=by rw[rangeSize_one];split<;>omega
  show IsRangeIter _ _ (lo+((0:Nat):Int)*1) ((((hi-lo).toNat:Nat):Int)-((0:Nat):Int)) 1;rw[e1,e2];exact zap _ rfl
 ·have e:b=(s.heap.push {cls:=.type "range",data:=.fields #[.int lo t,.int hi u,.int 1 v]}).objs.size:=by simpa using hb
  subst e;exact I1.V7 (zaf _) (I1.AF.fresh (zaf _))
abbrev vI (ta:TA):TI:=λ σ H R=>ta σ H λ vs H1=>∃j:Int,vs=[.int j]/\-(2^62)<=j/\j<2^62/\R (yW 0 j.toNat) H1
def Xz {a}{ta}(hg:Gl X "range")(hm:X.mg "range" = none)(ha:PA X [a] ta)(hs: ~~~(starEach [a] X.env=[(false,eval a X.env)])):PI X tg (.Call (.Name "range" p) [a] [] pos) (vI ta):=by
 intro pins s σ H R I h;refine Call_ (DY I hg hm boot_range (zbj (B9 (ha pos pins s σ H _ I h) λ us s1 zz=>?_) hs rfl));obtain⟨vs,H1,I1,r1,q1⟩:=zz;obtain⟨j,e,q1,q2,q⟩:=q1;subst e;cases r1 with
 |cons r rr =>
  cases rr;obtain⟨t,rfl⟩:=r;exact call_range_1 (Zv I1 (by omega) (by omega) q1 q2 (by simpa using q))
abbrev aaj (wi:TI)(g:TG)(tb:TS):TS:=λ D σ H=>wi σ H λ J H1=>∃W:Nat->Nat->St->Hp->Prop,(∃m,W 0 m σ H1)/\∀i m σ H,W i m σ H->
 (J.stop i H/\D.nx σ H)\/(J.go i H/\∃N:St->Hp->Prop,(∀σ' H',N σ' H'->∃m',m'<m/\W (i+1) m' σ' H')/\∀x H',J.iP i H x H'->g x σ H' λ σ2 H2=>tb {D with nx:=N,ct:=N,bk:=D.nx} σ2 H2)
abbrev JK (fp:List Addr)(h:Heap):List (Addr×Obj):=fp.filterMap λ b=>(h.get? b).map λ o=>(b,o)
def Ge (hb:b∈fp)(e:h.get? b=some o):(b,o)∈JK fp h:=List.mem_filterMap.mpr ⟨b,hb,by rw[e];rfl⟩
def QG (hp:p∈JK fp h):p.1∈fp/\h.get? p.1=some p.2:=by
 obtain⟨b,hb,e⟩:=List.mem_filterMap.mp hp;cases q:h.get? b with
 |none=>rw[q] at e;cases e
 |some o =>
  rw[q] at e;have e':(b,o)=p:=zau e;subst e';exact⟨hb,q⟩
def Inv.pinned (I:Inv X pins σ H s)(hf:∀b∈fp,MR X pins H b)(ho:∀b∈fp,∃o,s.heap.get? b=some o/\∀v,o.data≠.cell v):Inv X (pins++JK fp s.heap) σ H s:=
 I.K9 λ p hp=>(zal.mp hp).elim (λ z=>I.pin p (zaa _ z)) λ z=>by
  obtain⟨hb,e⟩:=QG z;obtain⟨f0,f1,f2,_⟩:=hf p.1 hb;obtain⟨o,e',d⟩:=ho p.1 hb;rw[e] at e';cases e';exact⟨e,f0,f1,f2,d⟩
def Inv.Ka (I:Inv X (pins++pl) σ H s):Inv X pins σ H s:=I.K9 λ p hp=>I.pin p (zaa _ (zb2 _ hp))
def pY (hp:PassesOwn (model X.prog X.w) X.A X.env X.xe)(hc:X.calm=true)(hi:PI X tg iter wi)(hg:PG X tg g)(hb:Wq X body tb)(hs:∀x,foldedSetIterable iter X.env x=pure x:=by intro _;rfl):PS X (.For tg iter body [] pos) (aaj wi g tb):=by
 intro pins s σ H D I h;refine wpAny_For (B9 (hi pins s σ H _ I h) λ v s1 h1=>B9 h1 λ ls s2 h2=>?_) hs;obtain⟨it,fp,tn,J,H2,e,I2,T,c4,f2,W,⟨m0,w0⟩,turn⟩:=h2;subst e;have bi:∀ {H':Hp},(∀b∈fp,H' b=none)->∀b∈fp,MR X pins H' b:=λ hn b hb=>⟨hn b hb,(f2 b hb).2⟩;refine codeAny_forLoop_any (λ n s'=>∃i σ' H',Inv X pins σ' H' s'/\tn i s'.heap/\(∀b∈fp,H' b=none)/\W i n σ' H') ?_ m0 ⟨0,σ,H2,I2,c4,λ b hb=>(f2 b hb).1,w0⟩;rintro n s3 ⟨i,σ3,H3,I3,iw,ix,w3⟩;rcases turn i n σ3 H3 w3 with ⟨stop,qn⟩|⟨go,N,hN,step⟩
 ·refine wpAny_passesOwn hp (B9 (T.done X rfl rfl rfl hc i pins s3 σ3 H3 X.xe I3 (bi ix) iw stop) λ r s4 zz=>?_);obtain⟨hr,I4⟩:=zz;subst hr;exact wpAny_execs_nil ⟨σ3,H3,I4,qn⟩
 ·refine wpAny_passesOwn hp (B9 (T.item X rfl rfl rfl hc i pins s3 σ3 H3 X.xe I3 (bi ix) iw go) λ r s4 zz=>?_);obtain⟨u,hr,h4⟩:=zz;subst hr;refine wpAny_passesOwn hp (B9 h4 λ _ s5 zz=>?_);obtain⟨x,H5,I5,r5,y5,em,nk⟩:=zz;have np:=I5.pinned (bi nk) (T.obj _ _ em);refine wpAny_passesOwn hp (B9 (hg _ s5 σ3 H5 x u _ np r5 (step x H5 y5)) λ _ s6 zz=>?_);obtain⟨σ6,H6,I6,q6⟩:=zz;refine wpAny_passesOwn hp (B9 (hb _ s6 σ6 H6 _ I6 q6) λ f s7 q7=>?_);have again:∀ {σ7:St} {H7:Hp},Inv X (pins++JK fp s5.heap) σ7 H7 s7->N σ7 H7->∃m,m<n/\∃i σ' H',Inv X pins σ' H' s7/\tn i s7.heap/\(∀b∈fp,H' b=none)/\W i m σ' H':=fun {σ7 H7} I7 n7=>by
   obtain⟨m',hm,w7⟩:=hN σ7 H7 n7;refine⟨m',hm,i+1,σ7,H7,I7.Ka,T.keep _ _ _ em λ b hb o e=>(I7.pin (b,o) (zaa _ (zaa _ (Ge hb e)))).1,λ b hb=>?_,w7⟩;obtain⟨o,e,d⟩:=T.obj _ _ em b hb;exact (I7.pin (b,o) (zaa _ (zaa _ (Ge hb e)))).2.1
  cases f with
  |next|cont=>obtain⟨σ7,H7,I7,n7⟩:=q7;exact again I7 n7
  |brk=>obtain⟨σ7,H7,I7,q7⟩:=q7;exact⟨σ7,H7,I7.Ka,q7⟩
  |ret v=>obtain⟨x7,σ7,H7,I7,r7,q7⟩:=q7;exact⟨x7,σ7,H7,I7.Ka,r7,q7⟩
end
noncomputable abbrev R2:=V->V->Hp->VK->Prop
abbrev Gf (X:Cx)(f:Value->Value->Sem Value)(r:R2):Prop:=
 ∀(pins:List (Addr×Obj)) (s:Shared) (σ:St) (H:Hp) (x y:V) (v u:Value) (Q:VK),Inv X pins σ H s->RelV x v->RelV y u->r x y H Q->
  wpAny (model X.prog X.w) X.A (f v u) (EP X pins σ Q) X.xe s
abbrev UnR (X:Cx)(f:Value->Sem Value)(r:V->Hp->VK->Prop):Prop:=
 ∀(pins:List (Addr×Obj)) (s:Shared) (σ:St) (H:Hp) (x:V) (v:Value) (Q:VK),Inv X pins σ H s->RelV x v->r x H Q->
  wpAny (model X.prog X.w) X.A (f v) (EP X pins σ Q) X.xe s
abbrev GY (X:Cx)(f:Value)(r:List V->Hp->VK->Prop):Prop:=
 ∀(pins:List (Addr×Obj)) (s:Shared) (σ:St) (H:Hp) (xs:List V) (us:List Value) (Q:VK),Inv X pins σ H s->Vals xs us->r xs H Q->
  wpAny (model X.prog X.w) X.A (call f us) (EP X pins σ Q) X.xe s
abbrev aal (X:Cx)(r:V->Hp->(Bool->Hp->Prop)->Prop):Prop:=
 ∀(pins:List (Addr×Obj)) (s:Shared) (σ:St) (H:Hp) (x:V) (v:Value) (Q:Bool->Hp->Prop),Inv X pins σ H s->RelV x v->r x H Q->
  wpAny (model X.prog X.w) X.A (truthy v) (TP X pins σ Q) X.xe s
abbrev uH (r:R2)(ta tb:TE):TE:=λ σ H Q=>ta σ H λ x H1=>tb σ H1 λ y H2=>r x y H2 Q
abbrev tUn (r:V->Hp->VK->Prop)(ta:TE):TE:=λ σ H Q=>ta σ H λ x H1=>r x H1 Q
abbrev rI (C:Int->Int->Prop)(g:Int->Int->V):R2:=λ x y H Q=>∃i j,x=.int i/\y=.int j/\C i j/\Q (g i j) H
abbrev Zd (g:Int->Int->V):R2:=λ x y H Q=>∃i j,x=.int i/\y=.int j/\Q (g i j) H
abbrev rU (g:Int->V):V->Hp->VK->Prop:=λ x H Q=>∃i,x=.int i/\Q (g i) H
section
variable {a b:Expr}{tb tc:TE}
def pZ (ha:PE X a ta)(hb:PE X b tb){R:V->V->Hp->Prop}(I:Inv X pins σ H s)(h:ta σ H λ x H1=>tb σ H1 λ y H2=>R x y H2){f:Value->Value->Sem Value}(hf:∀v u s2 x y H2,Inv X pins σ H2 s2->RelV x v->RelV y u->R x y H2->wpAny (model X.prog X.w) X.A (f v u) Q X.xe s2):
 wpAny (model X.prog X.w) X.A (eval a X.env) (λ v s₁=>wpAny (model X.prog X.w) X.A (eval b X.env) (λ u s₂=>wpAny (model X.prog X.w) X.A (f v u) Q X.xe s₂) X.xe s₁) X.xe s:=by
 refine B9 (ha pins s σ H _ I h) λ v s1 zz=>?_;obtain⟨x,H1,I1,r1,q1⟩:=zz;refine B9 (hb pins s1 σ H1 _ I1 q1) λ u s2 zz=>?_;obtain⟨y,H2,I2,r2,q2⟩:=zz;exact hf v u s2 x y H2 I2 r1 r2 q2
def Zw (ho:Gf X (binaryOp op) r)(ha:PE X a ta)(hb:PE X b tb):PE X (.BinOp a op b pos) (uH r ta tb):=by
 intro pins s σ H Q I h;exact wpAny_BinOp (pZ ha hb I h λ v u s2 x y H2 I2 rx ry q=>ho pins s2 σ H2 x y v u Q I2 rx ry q)
def vJ (ho:UnR X (unaryOp op) r)(ha:PE X a ta):PE X (.UnaryOp op a pos) (tUn r ta):=by
 intro pins s σ H Q I h;exact UnaryOp_ (B9 (ha pins s σ H _ I h) λ v s1 ⟨x,H1,I1,r1,q1⟩=>ho pins s1 σ H1 x v Q I1 r1 q1)
def yX {C}{g:Int->Int->Int}(rule:∀(i j:Int) (t u:Tok) (s:Shared) (Q:Value->Shared->Prop) (E:Value->Shared->Prop),C i j->Q (.int (g i j) s.toks) {s with toks:=s.toks+1}->wpAny (model X.prog X.w) X.A (f (.int i t) (.int j u)) Q E s):
 Gf X f (rI C λ i j=>.int (g i j)):=by
 intro pins s σ H x y v u Q I rx ry h;obtain⟨i,j,rfl,rfl,hc,q⟩:=h;obtain⟨t,rfl⟩:=rx;obtain⟨t',rfl⟩:=ry;exact rule i j t t' s _ _ hc ⟨.int (g i j),H,I.tok _,⟨_,rfl⟩,q⟩
def vK {g:Int->Int->Int}(rule:∀(i j:Int) (t u:Tok) (s:Shared) (Q:Value->Shared->Prop) (E:Value->Shared->Prop),Q (.int (g i j) s.toks) {s with toks:=s.toks+1}->wpAny (model X.prog X.w) X.A (f (.int i t) (.int j u)) Q E s):
 Gf X f (Zd λ i j=>.int (g i j)):=by
 intro pins s σ H x y v u Q I rx ry h;obtain⟨i,j,rfl,rfl,q⟩:=h;obtain⟨t,rfl⟩:=rx;obtain⟨t',rfl⟩:=ry;exact rule i j t t' s _ _ ⟨.int (g i j),H,I.tok _,⟨_,rfl⟩,q⟩
def qA {g:Int->Int->Bool}(rule:∀(i j:Int) (t u:Tok) (s:Shared) (Q:Value->Shared->Prop) (E:Value->Shared->Prop),Q (.bool (g i j)) s->wpAny (model X.prog X.w) X.A (f (.int i t) (.int j u)) Q E s):
 Gf X f (Zd λ i j=>.bl (g i j)):=by
 intro pins s σ H x y v u Q I rx ry h;obtain⟨i,j,rfl,rfl,q⟩:=h;obtain⟨t,rfl⟩:=rx;obtain⟨t',rfl⟩:=ry;exact rule i j t t' s _ _ ⟨.bl (g i j),H,I,rfl,q⟩
abbrev Zx (i j:Int):Prop:=0<j/\j<1073741824
abbrev iR (i j:Int):Prop:=0<=j/\j<=1000000/\i.natAbs<2^64
abbrev Zy (i j:Int):Prop:=(-(2^64)<i/\i<2^64)\/(-(2^64)<j/\j<2^64)
def Zy.ok (h:Zy i j):IntMulOk i j:=by
 rcases h with ⟨h1,h2⟩|⟨h1,h2⟩
 ·exact .of_left (intBits_le_64 h1 h2)
 ·exact .of_right (intBits_le_64 h1 h2)
def qB:Gf X (binaryOp .Add) (Zd λ i j=>.int (i+j)):=vK λ _ _ _ _ _ _ _ q=>add_int q
def qC:Gf X (binaryOp .Sub) (Zd λ i j=>.int (i-j)):=vK λ _ _ _ _ _ _ _ q=>sub_int q
def iS:Gf X (binaryOp .FloorDiv) (rI Zx λ i j=>.int (i / j)):=yX λ i j _ _ _ _ _ hc q=>by
 have h1:(0:Int)<j:=hc.1;have h2:j<1073741824:=hc.2;exact floordiv_int (by omega) (by rw[Int.fdiv_eq_ediv_of_nonneg i (by omega)];exact q) (.inl (PyProof.noPylong_small (by omega)))
def qD:Gf X (binaryOp .Mod) (rI (λ _ j=>0<j) λ i j=>.int (i%j)):=yX λ i j _ _ _ _ _ hc q=>by
 have h1:(0:Int)<j:=hc;exact mod_int' (by omega) (by rw[Int.fmod_eq_emod_of_nonneg i (by omega)];exact q)
def qE:Gf X (binaryOp .Pow) (rI iR λ i j=>.int (i^j.toNat)):=yX λ _ _ _ _ _ _ _ hc q=>pow_int_small hc.1 hc.2.1 hc.2.2 q
def unI {g:Int->Int}(rule:∀(i:Int) (t:Tok) (s:Shared) (Q:Value->Shared->Prop) (E:Value->Shared->Prop),Q (.int (g i) s.toks) {s with toks:=s.toks+1}->wpAny (model X.prog X.w) X.A (f (.int i t)) Q E s):
 UnR X f (rU λ i=>.int (g i)):=by
 intro pins s σ H x v Q I rx h;obtain⟨i,rfl,q⟩:=h;obtain⟨t,rfl⟩:=rx;exact rule i t s _ _ ⟨.int (g i),H,I.tok _,⟨_,rfl⟩,q⟩
def qG:UnR X (unaryOp .USub) (rU λ i=>.int (-i)):=unI λ _ _ _ _ _ q=>neg_int q
end
section
variable {a b:Expr}{tb tc:TE}
def Zz:Gf X (compareOp .Lt) (Zd λ i j=>.bl (decide (i<j))):=qA λ _ _ _ _ _ _ _ q=>lt_int q
def nJ:Gf X (compareOp .LtE) (Zd λ i j=>.bl (decide (i<=j))):=qA λ _ _ _ _ _ _ _ q=>le_int q
def vL:Gf X (compareOp .Gt) (Zd λ i j=>.bl (decide (j<i))):=qA λ _ _ _ _ _ _ _ q=>gt_int q
def Gf.or (h:Gf X f r)(h':Gf X f r'):Gf X f (λ x y H Q=>r x y H Q\/r' x y H Q):=by
 intro pins s σ H x y v u Q I rx ry q;rcases q with q|q
 ·exact h pins s σ H x y v u Q I rx ry q
 ·exact h' pins s σ H x y v u Q I rx ry q
def JL (b:Expr)(h:op≠.In:=by decide)(h2:op≠.NotIn:=by decide):behindInMarks op b=false:=by
 have e1:(op==CmpOp.In)=false:=by cases op<;>first|rfl|exact absurd rfl h
 have e2:(op==CmpOp.NotIn)=false:=by cases op<;>first|rfl|exact absurd rfl h2
 cases b<;>simp[behindInMarks,e1,e2]
def iT (ho:Gf X (compareOp op) r)(ha:PE X a ta)(hb:PE X b tb)(hm:behindInMarks op b=false):PE X (.Compare a [op] [b] pos) (uH r ta tb):=by
 intro pins s σ H Q I h;exact wpAny_Compare1 (pZ ha hb I h λ v u s2 x y H2 I2 rx ry q=>ho pins s2 σ H2 x y v u Q I2 rx ry q) hm
abbrev ZA (t:TE):TT:=λ σ H Q=>t σ H λ x H'=>∃k,x=.bl k/\Q k H'
def iU (ho:Gf X (compareOp op) r)(ha:PE X a ta)(hb:PE X b tb)(hm:behindInMarks op b=false):PT X (.Compare a [op] [b] pos) (ZA (uH r ta tb)):=by
 intro pins s σ H Q I h;refine wpAny_isTrue_Compare1 (B9 (ha pins s σ H _ I h) λ v s1 ⟨x,H1,I1,r1,q1⟩=>B9 (hb pins s1 σ H1 _ I1 q1) λ u s2 ⟨y,H2,I2,r2,q2⟩ =>
  B9 (ho pins s2 σ H2 x y v u _ I2 r1 r2 q2) λ c s3 ⟨z,H3,I3,r3,k,e,q3⟩=>?_) hm
 subst e;cases r3;exact wpAny_truthy_bool ⟨H3,I3,q3⟩
abbrev ZC (r r':R2)(ta tb tc:TE):TE:=λ σ H Q=>ta σ H λ x H1=>tb σ H1 λ y H2=>r x y H2 λ z H3=>∃k,z=.bl k/\
 (if k=true then tc σ H3 λ w' H4=>r' y w' H4 Q else Q (.bl false) H3)
def ZD (ho:Gf X (compareOp op) r)(aH:Gf X (compareOp bj) r')(ha:PE X a ta)(hb:PE X b tb)(hc:PE X c tc)(hm:lastMarks [op,bj] [b,c]=false:=by with_unfolding_all rfl):PE X (.Compare a [op,bj] [b,c] pos) (ZC r r' ta tb tc):=by
 intro pins s σ H Q I h;refine Compare_chain (B9 (ha pins s σ H _ I h) λ v s1 ⟨x,H1,I1,r1,q1⟩=>chain_link (B9 (hb pins s1 σ H1 _ I1 q1) λ u s2 ⟨y,H2,I2,r2,q2⟩ =>
  B9 (ho pins s2 σ H2 x y v u _ I2 r1 r2 q2) λ d s3 ⟨z,H3,I3,r3,k,e,q3⟩=>?_)) hm
 subst e;cases r3;refine wpAny_truthy_bool ?_;cases k with
 |false=>exact ite_ff ⟨.bl false,H3,I3,rfl,q3⟩
 |true=>exact ite_tt (chain_last (B9 (hc pins s3 σ H3 _ I3 q3) λ w' s4 ⟨z',H4,I4,r4,q4⟩=>aH pins s4 σ H4 y z' u w' Q I4 r2 r4 q4))
def ZE (ho:Gf X (compareOp op) r)(aH:Gf X (compareOp bj) r')(ha:PE X a ta)(hb:PE X b tb)(hc:PE X c tc)(hm:lastMarks [op,bj] [b,c]=false:=by with_unfolding_all rfl):PT X (.Compare a [op,bj] [b,c] pos) (ZA (ZC r r' ta tb tc)):=by
 intro pins s σ H Q I h;refine isTrue_chain (B9 (ha pins s σ H _ I h) λ v s1 ⟨x,H1,I1,r1,q1⟩=>test_link (B9 (hb pins s1 σ H1 _ I1 q1) λ u s2 ⟨y,H2,I2,r2,q2⟩ =>
  B9 (ho pins s2 σ H2 x y v u _ I2 r1 r2 q2) λ d s3 ⟨z,H3,I3,r3,k,e,q3⟩=>?_)) hm
 subst e;cases r3;refine wpAny_truthy_bool ?_;cases k with
 |false =>
  obtain⟨k',e',q'⟩:=q3;cases e';exact ite_ff ⟨H3,I3,q'⟩
 |true =>
  refine ite_tt (test_last (B9 (hc pins s3 σ H3 _ I3 q3) λ w' s4 ⟨z',H4,I4,r4,q4⟩=>B9 (aH pins s4 σ H4 y z' u w' _ I4 r2 r4 q4) λ d' s5 zz=>?_));obtain⟨z2,H5,I5,r5,k2,e2,q5⟩:=zz;subst e2;cases r5;exact wpAny_truthy_bool ⟨H5,I5,q5⟩
abbrev vM (K:za1)(x:V)(H:Hp)(k:Bool):Prop:=
 match x with
 | .Ax=>k=false
 | .bl b=>k=b
 | .int i=>k=(i != 0)
 | .str y=>y.length<=sizeLine/\k=((y.length:Int) != 0)
 | .pF y=>y.size<=sizeLine/\k=((y.size:Int) != 0)
 | .ref p=>(∃xs,DB K H p xs/\k = !xs.isEmpty)\/(∃xs,Fq K H p xs/\k = !xs.isEmpty)\/∃kvs,H p=some (.dK kvs)/\k = !kvs.isEmpty
 |_=>False
def Va {κ:Type}{kvs:List (κ×V)}{vs}(r:KV kvs vs):(!vs.isEmpty) = !kvs.isEmpty:=by
 cases r<;>rfl
def NO (r:Vals xs aa):(!aa.toArray.isEmpty) = !xs.isEmpty:=by
 cases r<;>simp
def Lq:(sizeLine:Nat)<2^63:=by rw[sizeLine_eq];decide
def qH:aal X (λ x H Q=>∃k,vM X.K x H k/\Q k H):=by
 intro pins s σ H x v Q I rx h;obtain⟨k,e,q⟩:=h;have hl:=Lq;have hs:sizeLine=16777216:=sizeLine_eq;cases x with
 |Ax =>
  cases rx;have e':k=false:=e;subst e';exact truthy_none ⟨H,I,q⟩
 |bl b =>
  cases rx;have e':k=b:=e;subst e';exact wpAny_truthy_bool ⟨H,I,q⟩
 |int i =>
  obtain⟨t,rfl⟩:=rx;have e':k=(i != 0):=e;subst e';exact PySem.P.truthy_int ⟨H,I,q⟩
 |str y =>
  obtain⟨t,rfl⟩:=rx;obtain⟨hy,e'⟩:y.length<=sizeLine/\k=((y.length:Int) != 0):=e;subst e';exact PySem.P.truthy_str (by omega) ⟨H,I.tok _,q⟩
 |pF y =>
  obtain⟨t,rfl⟩:=rx;obtain⟨hy,e'⟩:y.size<=sizeLine/\k=((y.size:Int) != 0):=e;subst e';exact PySem.W.truthy_bytes (by omega) ⟨H,I.tok _,q⟩
 |ref p =>
  cases rx;have e':(∃xs,DB X.K H p xs/\k = !xs.isEmpty)\/(∃xs,Fq X.K H p xs/\k = !xs.isEmpty)\/∃kvs,H p=some (.dK kvs)/\k = !kvs.isEmpty:=e;rcases e' with ⟨xs,hx,e'⟩|⟨xs,hx,e'⟩|⟨kvs,hx,e'⟩
  ·subst e';obtain⟨aa,r,pl,hz⟩:=I.list hx;have hlen:=r.length;exact wpAny_truthy_list pl.isList (by simp only[zac];omega) ⟨H,I.tok _,by rw[NO r];exact q⟩
  ·subst e';obtain⟨aa,r,pl,hz⟩:=I.tuple hx;have hlen:=r.length;exact truthy_tuple pl (by simp only[zac];omega) ⟨H,I.tok _,by rw[NO r];exact q⟩
  ·subst e';obtain⟨hz,hS,vs,r,m⟩:kvs.length<=sizeLine/\(p==sysModules)=false/\∃vs,KV kvs vs/\s.heap.DictOf (AL X.prog X.w) p vs:=I.AF p _ hx;have hlen:kvs.length=vs.length:=zct r;exact wpAny_truthy_dict hS m (by omega) ⟨H,I.tok _,by rw[Va r];exact q⟩
 |_=>exact (show False from e).elim
def ZF (ha:PE X a ta)(he:∀whole,isTrue a X.env whole=(do let v <-whole;standAt a.pos;holding [v] (truthy v))):
 PT X a (λ σ H Q=>ta σ H λ x H'=>∃k,vM X.K x H' k/\Q k H'):=by
 intro pins s σ H Q I h;exact isTrue_plain (B9 (ha pins s σ H _ I h) λ v s1 ⟨x,H1,I1,r1,q1⟩=>qH pins s1 σ H1 x v Q I1 r1 q1) (he _)
def vals1 (r:Vals [x] us):∃u,us=[u]/\RelV x u:=by
 cases r with
 |cons r1 r2=>cases r2;exact⟨_,rfl,r1⟩
def vals2 (r:Vals [x,y] us):∃u w',us=[u,w']/\RelV x u/\RelV y w':=by
 cases r with
 |cons r1 r2 =>
  cases r2 with
  |cons r3 r4=>cases r4;exact⟨_,_,rfl,r1,r3⟩
def XA (hc:X.calm=true):GY X (.builtin "min") (λ xs H Q=>∃i j,xs=[.int i,.int j]/\Q (.int (if j<i then j else i)) H):=by
 intro pins s σ H xs us Q I r h;obtain⟨i,j,rfl,q⟩:=h;obtain⟨u,w',rfl,⟨t,rfl⟩,⟨t',rfl⟩⟩:=vals2 r;refine min_two_ints (I.ok.hd hc) λ h' tk k=>⟨_,H,I.kept k,?_,q⟩;by_cases hj:j<i
 ·rw[if_pos hj,if_pos hj];exact⟨_,rfl⟩
 ·rw[if_neg hj,if_neg hj];exact⟨_,rfl⟩
def XB:GY X (.type "int") (λ xs H Q=>(∃i,xs=[.int i]/\Q (.int i) H)\/∃k,xs=[.bl k]/\Q (.int (if k then 1 else 0)) H):=by
 intro pins s σ H xs us Q I r h;rcases h with ⟨i,rfl,q⟩|⟨k,rfl,q⟩
 ·obtain⟨u,rfl,t,rfl⟩:=vals1 r;exact call_int_int ⟨.int i,H,I,⟨_,rfl⟩,q⟩
 ·obtain⟨u,rfl,r1⟩:=vals1 r;cases r1;exact call_int_bool ⟨.int (if k then 1 else 0),H,I.tok _,⟨_,rfl⟩,q⟩
end
structure Vb (h:Heap)(x dx C:Addr)(mA:Str->Option Value):Prop where
 obj:h.get? x=some (zcl C dx)
 ns:h.Ns1 dx mA
 ne:dx≠x
def XC {mA}(n:h.Ns1 dx mA):∃od,h.get? dx=some od/\∀name,PySem.W.lookIn name od=some (mA name):=by
 obtain⟨o,es,ep,ho,hd,hk,_,hm⟩:=n;refine⟨o,ho,λ name=>?_⟩;have e:=hm name;unfold nsFind findBy at e;rw[<-Array.find?_toList] at e;unfold PySem.W.lookIn;rw[hd];dsimp only;split
 ·rename_i y q;rw[q] at e;exact congrArg some e
 ·rename_i q;rw[q] at e;have a:es.toList.any (·.refKey)=false:=by
   rw[List.any_eq_false];intro y hy;obtain⟨z,t,nq⟩:=hk y (Array.mem_toList_iff.mp hy);simp[DictEntry.refKey,nq]
  have a':¬ es.toList.any (·.refKey)=true:=by rw[a];exact zaq
  rw[if_neg a'];exact congrArg some e
def Vb.look {mA}(I:Vb h x dx C mA):∃od,PySem.W.InstAt h x (zcl C dx) C (some od)/\∀name,PySem.W.lookIn name od=some (mA name):=
 let ⟨od,ho,hl⟩:=XC I.ns
 ⟨od,⟨I.obj,rfl,rfl,ho⟩,hl⟩
section
variable {prog:Program}{K:za1}{x f:Addr}{mA:Str->Option Value}{name:Str}{v:Value}
def get_map (X:K.In s.heap)(I:Vb s.heap x dx C mA)(hg:zd4 K C name=true)(hh:PySem.W.hasDictIn K C=true)(ha:zb1 K (.ref C) name=some none)(hv:mA name=some v)(iy:PySem.W.handedIn v=true)(h:Q v {s with toks:=s.toks+1}):
 wpAny (model prog w) A (getAttr (.ref x) name expr) Q E s:=by
 obtain⟨od,J,hl⟩:=I.look;exact PySem.W.get_value X J (PySem.W.plainGet_of hg).1 (PySem.W.findObj_own hh ha rfl (by rw[hl,hv])) iy h
def ZG (X:K.In s.heap)(I:Vb s.heap x dx C mA)(hg:zd4 K C name=true)(hf:zb1 K (.ref C) name=some (some (.ref f)))(ht:PySem.W.isFn K (.ref f)=true)(hv:mA name=none)(h:Q (.ref f,[.ref x]) s):
 wpAny (model prog w) A (getMethod (.ref x) name pl) Q E s:=by
 obtain⟨od,J,hl⟩:=I.look;exact PySem.W.method_fn X J (PySem.W.plainGet_of hg).1 (PySem.W.plainGet_of hg).2 hf (beq_iff_eq.mp ht) (by show (PySem.W.lookIn name od).map (·.isSome)=some false;rw[hl,hv];rfl) h
def iV (X:K.In s.heap)(I:Vb s.heap x dx C mA)(hs:zb1 K (.ref C) "__setattr__" = some (some (.builtin "object.__setattr__")))(hp:PySem.W.plainOver K C=true)(ht:PySem.W.takerIn K C name=some none)(hh:PySem.W.hasDictIn K C=true)(hw:PySem.Within mA ns)(hsz:ns.length<=sizeLine)(h:∀h',Vb h' x dx C (λ y=>if y=name then some v else mA y)->zcv dx s.heap h'->Q () {s with heap:=h',toks:=s.toks+2}):
 wpAny (model prog w) A (setAttr (.ref x) name v) Q E s:=by
 obtain⟨od,J,hl⟩:=I.look;refine PySem.W.set_plain X J hs (PySem.W.osa_open (s:={s with toks:=s.toks+1}) (r:=none) X J hp ht λ b=>?_);obtain⟨cd,hc,bh⟩:=PySem.W.any_some hh;have hx:s.heap.get? x=some ⟨.ref C,some dx,.plain,#[]⟩:=I.obj;refine wpAny_bind (wpAny_pure (wpAny_bind (wpAny_bind (wpAny_loadPart hx (wpAny_bind (PySem.W.Looks.here (s:={s with toks:=s.toks+1}) (PySem.W.looks_clsIn X hc) ?_))))));rw[bh];refine wpAny_pure (a:=some dx) (wpAny_bind (wpAny_pure (wpAny_bind ?_)));refine wpAny_nsSet1 (s:={s with toks:=s.toks+1}) I.ns λ h' a6 a9=>?_;obtain⟨oD,esD,epD,v7,v8,v9⟩:=a6.count (PySem.Within.cons name v hw);refine wpAny_bind (wpAny_lookBehind v7 (by rw[v8];exact pastItsLine_dict (zc0 v9 (by rw[za8];omega))) ?_);exact wpAny_pure (h _ ⟨(a9.2 _ (zbl I.ne)).trans I.obj,a6,I.ne⟩ a9)
def ZH (X:K.In s.heap)(hm:PySem.W.makesIn K C=true)(hi:zb1 K (.ref C) "__init__" = some (some (.ref f)))(hf:PySem.W.typeIn K (.ref f)=some (.type "function"))(h:codeAny (model prog w) (A.under (.builtin "type.__call__" ⟨.ref C::vs,kw⟩)) (.call (.ref f) ⟨.ref (s.heap.objs.size+1)::vs,kw⟩) (PySem.W.InitBack (s.heap.objs.size+1) R)
  {s with heap:=(s.heap.push zc1).push (zcl C s.heap.objs.size)}):
 codeAny (model prog w) A (.call (.ref C) ⟨vs,kw⟩) R s:=by
 obtain⟨hh,g,d,t,os⟩:=s;exact PySem.W.make_core (PySem.W.makes_of X hm) (PySem.W.looks_findIn X hi) (λ self=>PySem.W.bind_fn X self hf) (.inl rfl) h
end
abbrev EB (f:Str)(v:V):List (Str×V)->List (Str×V)
 |[]=>[(f,v)]
 |(g,x)::r=>if g=f then (g,v)::r else (g,x)::EB f v r
def Mi (f g:Str)(v:V):∀fs:List (Str×V),(EB f v fs).lookup g=if g=f then some v else fs.lookup g
 |[]=>by
  show List.lookup g [(f,v)]=_;by_cases h:g=f
  ·have hb:(g==f)=true:=beq_iff_eq.mpr h;simp only[List.lookup,hb,if_pos h]
  ·have hb:(g==f)=false:=beq_eq_false_iff_ne.mpr h;simp only[List.lookup,hb,if_neg h]
 |(k,x)::r=>by
  have ih:=Mi f g v r;rw[show EB f v ((k,x)::r)=(if k=f then (k,v)::r else (k,x)::EB f v r) from rfl];by_cases hk:k=f
  ·rw[if_pos hk];by_cases h:g=k
   ·have hb:(g==k)=true:=beq_iff_eq.mpr h;simp only[List.lookup,hb,if_pos (h.trans hk)]
   ·have hb:(g==k)=false:=beq_eq_false_iff_ne.mpr h;simp only[List.lookup,hb,if_neg (λ e:g=f=>h (e.trans hk.symm))]
  ·rw[if_neg hk];by_cases h:g=k
   ·have hb:(g==k)=true:=beq_iff_eq.mpr h;simp only[List.lookup,hb,if_neg (λ e:g=f=>hk (h.symm.trans e))]
   ·have hb:(g==k)=false:=beq_eq_false_iff_ne.mpr h;simp only[List.lookup,hb];exact ih
def Lr (f:Str)(v:V):∀fs:List (Str×V),f∈(EB f v fs).map (·.1)/\∀g,g∈fs.map (·.1)->g∈(EB f v fs).map (·.1)
 |[]=>⟨by simp[EB],λ g h=>by simp at h⟩
 |(k,x)::r=>by
  obtain⟨i1,i2⟩:=Lr f v r;rw[show EB f v ((k,x)::r)=(if k=f then (k,v)::r else (k,x)::EB f v r) from rfl];by_cases hk:k=f
  ·rw[if_pos hk];subst hk;exact⟨by simp,λ g h=>by simpa using h⟩
  ·rw[if_neg hk];refine⟨?_,λ g h=>?_⟩
   ·rw[za6];exact za4 _ i1
   ·rw[za6] at h ⊢;rcases zab.mp h with e|e
    ·exact zab.mpr (.inl e)
    ·exact za4 _ (i2 g e)
def Mj (f:Str)(v:V):∀fs:List (Str×V),(EB f v fs).length<=fs.length+1
 |[]=>by simp[EB]
 |(k,x)::r=>by
  have ih:=Mj f v r;rw[show EB f v ((k,x)::r)=(if k=f then (k,v)::r else (k,x)::EB f v r) from rfl];by_cases hk:k=f
  ·rw[if_pos hk,za8,za8];omega
  ·rw[if_neg hk,za8,za8];omega
def Hn.some_of (r:Hn (some v) o):∃u,o=some u/\RelV v u:=by
 cases o with
 |none=>exact (show False from r).elim
 |some u=>exact⟨u,rfl,r⟩
def Hn.none_of (r:Hn none o):o=none:=by
 cases o with
 |none=>rfl
 |some u=>exact (show False from r).elim
def XD (r:RelV v u):PySem.W.handedIn u=true:=by
 cases v with
 |Ax=>cases (show u=Value.none from r);rfl
 |bl b=>cases (show u=Value.bool b from r);rfl
 |int i=>obtain⟨t,e⟩:=(show ∃t,u=Value.int i t from r);cases e;rfl
 |str x=>obtain⟨t,e⟩:=(show ∃t,u=Value.str x t from r);cases e;rfl
 |pF b=>obtain⟨t,e⟩:=(show ∃t,u=Value.bytes b t from r);cases e;rfl
 |uR b=>obtain⟨t,e⟩:=(show ∃t,u=Value.float b t from r);cases e;rfl
 |ref a=>cases (show u=zb7 a from r);rfl
 |ty n=>cases (show u=Value.type n from r);rfl
section
variable {P:Program}{fs bA:List (Str×V)}
def RK (AF:GX P w H h)(e:H a=some (.ins C dx fs)):∃mA,Vb h a dx C mA/\(∀f,Hn (fs.lookup f) (mA f))/\PySem.Within mA (fs.map (·.1))/\fs.length<=1000/\H dx=some (.own a):=by
 obtain⟨d,z,ne,ob,mA,n,r,q⟩:=(show Bk P w H h a (.ins C dx fs) from AF a _ e);exact⟨mA,⟨ob,n,ne⟩,r,q,z,d⟩
end
structure SM (K:za1)(C:Addr):Prop where
 pg:zd4 K C Str.empty=true
 hd:PySem.W.hasDictIn K C=true
 po:PySem.W.plainOver K C=true
 sa:zb1 K (.ref C) "__setattr__" = some (some (.builtin "object.__setattr__"))
def SM.get {K}(c:SM K C)(f:Str):zd4 K C f=true:=c.pg
abbrev JM (K:za1)(C:Addr)(f:Str):Prop:=zb1 K (.ref C) f=some none
def JM.vN {K}(n:JM K C f):PySem.W.takerIn K C f=some none:=by
 unfold PySem.W.takerIn;rw[show zb1 K (.ref C) f=some none from n];rfl
structure Meth (K:za1)(C:Addr)(m:Str)(f:Addr):Prop where
 at_:zb1 K (.ref C) m=some (some (.ref f))
 fn:PySem.W.isFn K (.ref f)=true
 kp:zbd K (.ref f)=true
section
variable {fs:List (Str×V)}{f:Str}{v:V}
def Vc (I:Inv X pins σ H s)(e:H a=some (.ins C dx fs))(c:SM X.K C)(n:JM X.K C f)(l:fs.lookup f=some v)(h:∀u s',Inv X pins σ H s'->RelV v u->Q u s'):wpAny (model X.prog X.w) A (getAttr (.ref a) f b) Q E s:=by
 obtain⟨mA,O,r,_,_,_⟩:=RK I.AF e;obtain⟨u,hu,ru⟩:=Hn.some_of (v:=v) (o:=mA f) (by rw[<-l];exact r f);exact get_map I.Mh O (c.get f) c.hd n hu (XD ru) (h u _ (I.tok _) ru)
def Gg (I:Inv X pins σ H s)(e:H a=some (.ins C dx fs))(c:SM X.K C)(k:Meth X.K C m g)(l:fs.lookup m=none)(h:Q (.ref g,[.ref a]) s):wpAny (model X.prog X.w) A (getMethod (.ref a) m pl) Q E s:=by
 obtain⟨mA,O,r,_,_,_⟩:=RK I.AF e;have hn:mA m=none:=Hn.none_of (by rw[<-l];exact r m);exact ZG I.Mh O (c.get m) k.at_ k.fn hn h
def Vd (I:Inv X pins σ H s)(e:H a=some (.ins C dx fs))(c:SM X.K C)(n:JM X.K C f)(hl:fs.length<1000)(ry:RelV y u)(h:∀s',Inv X pins σ (upd H a (.ins C dx (EB f y fs))) s'->Q () s'):wpAny (model X.prog X.w) A (setAttr (.ref a) f u) Q E s:=by
 obtain⟨mA,O,r,wi,_,ho⟩:=RK I.AF e;have hz:(fs.map (·.1)).length<=sizeLine:=by rw[za2,sizeLine_eq];omega
 refine iV I.Mh O c.sa c.po n.vN c.hd wi hz λ h' O' sb=>h _ ?_;have hd:∃o,h'.get? dx=some o:=let ⟨o,_,_,e',_⟩:=O'.ns;⟨o,e'⟩;refine I.write (x:=a) (e:=dx) (by rw[e];exact zcp) (.inr ho) (λ b q hb z=>(sb.2 b hb).trans z) hd ?_;refine⟨by rw[Ai O.ne];exact ho,?_,O.ne,O'.obj,_,O'.ns,λ g=>?_,λ g hg=>?_⟩
 ·have:=Mj f y fs;omega
 ·show Hn ((EB f y fs).lookup g) (if g=f then some u else mA g);rw[Mi];by_cases q:g=f
  ·rw[if_pos q,if_pos q];exact ry
  ·rw[if_neg q,if_neg q];exact r g
 ·by_cases q:g=f
  ·rw[q];exact (Lr f y fs).1
  ·refine (Lr f y fs).2 g (wi g λ z=>hg ?_);show (if g=f then some u else mA g)=none;rw[if_neg q];exact z
def Inv.made (I:Inv X pins σ H s):Inv X pins σ (upd (upd H s.heap.objs.size (.own (s.heap.objs.size+1))) (s.heap.objs.size+1) (.ins C s.heap.objs.size []))
 {s with heap:=(s.heap.push zc1).push (zcl C s.heap.objs.size)}:=by
 have e1:(s.heap.push zc1).get? s.heap.objs.size=some zc1:=zap s.heap rfl;have e2:((s.heap.push zc1).push (zcl C s.heap.objs.size)).get? (s.heap.objs.size+1)=some (zcl C s.heap.objs.size):=by
  have:=zap (s.heap.push zc1) (o:=zcl C s.heap.objs.size) rfl;rwa[Heap.size_push] at this
 have e3:(s.heap.push zc1).Ns s.heap.objs.size (λ _=>none):=⟨zc1,#[],_,e1,rfl,(λ e he=>absurd he (by simp)),λ _=>rfl⟩;have I1:=I.laid (a:=s.heap.objs.size) (o:=.own (s.heap.objs.size+1)) (h':=s.heap.push zc1) (t':=s.toks) (λ b u q=>zad _ q) (zaf _) ⟨_,e1⟩;refine I1.laid (a:=s.heap.objs.size+1) (o:=.ins C s.heap.objs.size []) (t':=s.toks) (λ b u q=>zad _ q) (Nat.le_of_eq (Heap.size_push _ _)) ?_;have ne:s.heap.objs.size≠s.heap.objs.size+1:=zax (Nat.lt_succ_self _);refine⟨by rw[Ai ne,An],zba _,ne,e2,λ _=>none,(Heap.Ns1.of_empty e3).at λ o q=>zad _ q,λ _=>zcp,λ y hy=>absurd rfl hy⟩
def iW (hb:attributeBase e f env (eval e env)=eval e env)(h:wpAny (model prog w) A (eval e env) (λ o s₁=>wpAny (model prog w) A (getAttr o f true) Q E s₁) E s):wpAny (model prog w) A (eval (.Attribute e f pos) env) Q E s:=
 Attribute_any_ h (by rw[arm_eval_Attribute,hb])
end
abbrev aam (K:za1)(ta:TE)(f:Str):TE:=λ σ H Q=>ta σ H λ x H1=>∃a C dx fs v,x=.ref a/\H1 a=some (.ins C dx fs)/\SM K C/\JM K C f/\fs.lookup f=some v/\Q v H1
abbrev aan (K:za1)(ta tv:TE)(f:Str):TS:=λ D σ H=>tv σ H λ y H1=>ta σ H1 λ x H2=>∃a C dx fs,x=.ref a/\H2 a=some (.ins C dx fs)/\SM K C/\JM K C f/\fs.length<1000/\
 D.nx σ (upd H2 a (.ins C dx (EB f y fs)))
section
variable {o value:Expr}{f:Str}{pos' aS:Pos}{tv:TE}
def qI (he:PE X e ta)(hb:attributeBase e f X.env (eval e X.env)=eval e X.env):PE X (.Attribute e f pos) (aam X.K ta f):=by
 intro pins s σ H Q I h;refine iW hb (B9 (he pins s σ H _ I h) λ u s1 zz=>?_);obtain⟨x,H1,I1,rx,a,C,dx,fs,v,ex,ea,c,n,l,q⟩:=zz;subst ex;obtain rfl:u=zb7 a:=rx;exact Vc I1 ea c n l λ u' s2 I2 ru=>⟨v,H1,I2,ru,q⟩
def qJ (ha:PE X o ta)(hv:PE X value tv)(hs:swapsWith value (some (.Attribute o f pos')) pos.line X.env=pure false):PS X (.Assign [.Attribute o f pos'] value pos) (aan X.K ta tv f):=by
 intro pins s σ H D I h;refine plainObj_wpAny_Assign_Attribute (B9 (hv pins s σ H _ I h) λ u s1 ⟨y,H1,I1,ry,q⟩=>B9 (ha pins s1 σ H1 _ I1 q) λ ov s2 zz=>?_) hs;obtain⟨x,H2,I2,rx,a,C,dx,fs,ex,ea,c,n,l,q2⟩:=zz;subst ex;obtain rfl:ov=zb7 a:=rx;exact Vd I2 ea c n l ry λ s3 I3=>⟨σ,_,I3,q2⟩
end
structure Bm (k:Nat)(A:Around):Prop where
 hd:A.handled=none
 dp:A.depth+3*k+5<recursionLimit
 un:A.units+16*k+200<cLine
def Bm.mono (r:Bm k A)(h:j<=k):Bm j A:=⟨r.hd,by have:=r.dp;omega,by have:=r.un;omega⟩
def Bm.deeper (r:Bm (k+1) A)(env:Env):Bm k (A.deeper env):=
 ⟨r.hd,by have:=r.dp;show A.depth+1+3*k+5<_;omega,by have:=r.un;show A.units+3+16*k+200<_;omega⟩
def Ve:(A.under (.builtin "type.__call__" ⟨.ref C::us,kw⟩)).depth=A.depth+1:=by
 first|rfl|simp[Around.under,Code.weight,Code.isCreation,Code.isGuard,Code.isCaller,Code.frames,Code.isFrame,guardIds]
def Vf:(A.under (.builtin "type.__call__" ⟨.ref C::us,kw⟩)).units=A.units+1:=by
 first|rfl|simp[Around.under,Code.cUnits,Code.frames,Code.isFrame]
def Bm.make (r:Bm (k+1) A)(C:Addr)(us:List Value)(kw:List (Str×Value)):Bm k (A.under (.builtin "type.__call__" ⟨.ref C::us,kw⟩)):=
 ⟨r.hd,by have:=r.dp;rw[Ve];omega,by have:=r.un;rw[Vf];omega⟩
def Bm.depth (r:Bm k A):A.depth<recursionLimit:=by have:=r.dp;omega
def Bm.units (r:Bm k A):A.units+64<cLine:=by have:=r.un;omega
abbrev qK:TA:=λ _ H Q=>Q [] H
abbrev nK (ta:TE)(tr:TA):TA:=λ σ H Q=>ta σ H λ x H1=>tr σ H1 λ xs H2=>Q (x::xs) H2
section
variable {t:TA}
def Cd:PA X [] qK:=λ _ _ _ _ H Q I h=>zcc ⟨[],H,I,.nil,h⟩
def Bc (ha:PE X e te)(hr:PA X es t)(hs: ~~~(starEach (e::es) X.env=(false,eval e X.env)::starEach es X.env)):PA X (e::es) (nK te t):=by
 intro pos pins s σ H Q I h;rw[hs];show wpAny _ _ (spliced ((false,eval e X.env)::backTo pos (starEach es X.env))) _ _ s;refine zby (B9 (ha pins s σ H _ I h) λ u s1 zz=>?_);obtain⟨x,H1,I1,r1,q1⟩:=zz;exact B9 (hr pos pins s1 σ H1 _ I1 q1) λ us s2 ⟨xs,H2,I2,r2,q2⟩=>⟨x::xs,H2,I2,.cons r1 r2,q2⟩
abbrev aao (t:TA):TE:=λ σ H Q=>t σ H λ xs H1=>xs.length<=sizeLine/\∀p,H1 p=none->Q (.ref p) (upd H1 p (.tup xs))
abbrev aap (t:TA):TE:=λ σ H Q=>t σ H λ xs H1=>xs.length<=sizeLine/\∀p,H1 p=none->Q (.ref p) (upd H1 p (.lst xs))
def Vg {x1}(h:PA X es t):PE X (.Tuple es x1 pos) (aao t):=by
 intro pins s σ H Q I hq;refine wpAny_Tuple_spliced (B9 (h pos pins s σ H _ I hq) λ us s1 ⟨xs,H1,I1,r,z,q⟩=>⟨by rw[<-r.length];exact z,?_⟩);have hf:H1 s1.heap.objs.size=none:=I1.AF.fresh (zaf _);refine⟨.ref s1.heap.objs.size,upd H1 s1.heap.objs.size (.tup xs),I1.laid (t':=s1.toks) (λ b u e=>zad _ e) (zaf _) ?_,rfl,q _ hf⟩;exact⟨z,us,r,⟨_,zap _ rfl,rfl,_,rfl⟩⟩
def Vh (h:PA X es t):PE X (.List es pos) (aap t):=by
 intro pins s σ H Q I hq;refine wpAny_List_spliced (B9 (h pos pins s σ H _ I hq) λ us s1 ⟨xs,H1,I1,r,z,q⟩=>⟨by rw[<-r.length];exact z,?_⟩);have hf:H1 s1.heap.objs.size=none:=I1.AF.fresh (zaf _);refine⟨.ref s1.heap.objs.size,upd H1 s1.heap.objs.size (.lst xs),I1.laid (t':=s1.toks) (λ b u e=>zad _ e) (zaf _) ?_,rfl,q _ hf⟩;exact⟨z,us,0,r,zap _ rfl⟩
end
noncomputable abbrev Sp:=List V->Hp->VK->XK->Prop
variable {sp:Sp}
noncomputable abbrev Wt:=List Env->Hp->Shared->XK->Value->Shared->Prop
structure Vi (P:Program)(w:World)(K:za1)(mg:Str->Option Value)(base:Heap)(A:Around)(outer:List Env)(s:Shared)(H:Hp):Prop where
 frames:A.frames=some outer
 mod:Mod K mg base
 bs:∀b o,base.get? b=some o->s.heap.get? b=some o/\H b=none
 nI:base.objs.size<=s.heap.objs.size
 Lp:s.heap.FunFrames base outer
 pI:∀b∈Zb outer,H b=none
 AF:GX P w H s.heap
 bare:AllBare s.gens
variable {CX:Wt}
abbrev CE (outer:List Env)(P:Program)(w:World)(H:Hp)(s:Shared)(Q:VK)(u:Value)(s':Shared):Prop:=
 ∃v H',s'.os=s.os/\AllBare s'.gens/\Un (Zb outer) [] H H' s.heap s'.heap/\GX P w H' s'.heap/\RelV v u/\Q v H'
abbrev CR (CX:Wt)(outer:List Env)(P:Program)(w:World)(H:Hp)(s:Shared)(Q:VK)(E:XK)(r:Result)(s':Shared):Prop:=
 match r with
 | .ok (.ret u)=>CE outer P w H s Q u s'
 | .ok _=>False
 | .error e=>CX outer H s E e s'
structure Cw (P:Program)(w:World)(K:za1)(mg:Str->Option Value)(base:Heap)(CX:Wt)(k:Nat)(f:Addr)(fd:FuncData)(ps:List Str)(sp:Sp):Prop where
 len:∀vs H Q E,sp vs H Q E->vs.length=ps.length
 run:∀(A:Around) (outer:List Env) (s:Shared) (H:Hp) (args:Args) (us:List Value) (vs:List V) (Q:VK) (E:XK),Bm k A->Vi P w K mg base A outer s H->BindsTo s fd args (ps.zip us)->Vals vs us->sp vs H Q E->
  codeAny (model P w) A (.call (.ref f) args) (CR CX outer P w H s Q E) s
def Vi.make {K}(e:Vi P w K mg base A outer s H)(C:Addr)(us:List Value)(kw:List (Str×Value)):
 Vi P w K mg base (A.under (.builtin "type.__call__" ⟨.ref C::us,kw⟩)) outer s H:=⟨by first|exact e.frames|(simpa [Around.under,Code.envs,Code.isFrame,pushEnvs] using e.frames),e.mod,e.bs,e.nI,e.Lp,e.pI,e.AF,e.bare⟩
section
variable {s':Shared}
def Inv.qL (I:Inv X pins σ H s):Vi X.prog X.w X.K X.mg X.base X.A X.stack s H:=
 ⟨I.ok.frames,I.ok.mod,I.bs,zc0 I.ok.nI I.sz,I.stack,I.Wo,I.AF,I.bare⟩
def Inv.after (I:Inv X pins σ H s)(h:CE X.stack X.prog X.w H s Q u s'):EP X pins σ Q u s':=by
 obtain⟨v,H',os,bare,un,AF,r,q⟩:=h;obtain⟨hh,g,d,t,wa⟩:=s';obtain rfl:wa=s.os:=os;exact⟨v,H',I.call (h':=hh) (g':=g) (d':=d) (t':=t) (ch:=[]) un AF bare (λ b z=>absurd z (by simp)),r,q⟩
end
abbrev vP (sp:Sp)(bm:List V)(E:XK)(t:TA):TE:=λ σ H Q=>t σ H λ vs H1=>sp (vs++bm) H1 Q E
abbrev vQ (C:Addr)(sp:Sp)(bm:List V)(E:XK)(t:TA):TE:=λ σ H Q=>t σ H λ vs H1=>∀x dx,H1 x=none->H1 dx=none->dx≠x->
 sp (.ref x::(vs++bm)) (upd (upd H1 dx (.own x)) x (.ins C dx [])) (λ v H2=>v=.Ax/\Q (.ref x) H2) E
abbrev Binds (K:za1)(fd:FuncData)(ps:List Str)(ds:List Value):Prop:=
 ∀(s:Shared) (us:List Value),K.In s.heap->(us++ds).length=ps.length->BindsTo s fd ⟨us,[]⟩ (ps.zip (us++ds))
def Binds.all {K}(h:∀us:List Value,us.length=ps.length->bindArgs fd ⟨us,[]⟩=pure (ps.zip us)):Binds K fd ps []:=λ s us _ hl=>by
 rw[zbi] at hl ⊢;exact .of_eq (h us hl)
abbrev Fs (CX:Wt)(X:Cx)(E:XK):Prop:=∀(pins:List (Addr×Obj)) (σ:St) (H:Hp) (s:Shared) (e:Value) (s':Shared),Inv X pins σ H s->CX X.stack H s E e s'->X.xe e s'
section
variable {k:Nat}{f:Addr}{bm:List V}{ds:List Value}{E:XK}{x m:Str}{p:Pos}{o:Expr}{t:TA}
def Ls (F:Cw X.prog X.w X.K X.mg X.base CX k f fd ps sp)(hr:Bm k X.A)(hb:Binds X.K fd ps ds)(hd:Vals bm ds)(hx:Fs CX X E)(I:Inv X pins σ H s)(r:Vals vs us)(h:sp (vs++bm) H Q E):wpAny (model X.prog X.w) X.A (call (.ref f) us) (EP X pins σ Q) X.xe s:=by
 have r2:Vals (vs++bm) (us++ds):=r.append hd;have hl:(us++ds).length=ps.length:=by rw[<-r2.length];exact F.len _ _ _ _ h
 refine wpAny_call (codeAny_mono (F.run X.A X.stack s H ⟨us,[]⟩ (us++ds) (vs++bm) Q E hr I.qL (hb s us I.Mh hl) r2 h) λ r s' hq=>?_);cases r with
 |error e=>exact hx pins σ H s e s' I hq
 |ok fl =>
  cases fl with
  |ret u=>exact I.after hq
  |next|brk|cont=>exact zc8 hq
def Wu (F:Cw X.prog X.w X.K X.mg X.base CX k f fd ps sp)(hr:Bm k X.A)(hg:Gl X x)(hm:X.mg x=some (.ref f))(hk:zbd X.K (.ref f)=true)(hb:Binds X.K fd ps ds)(hd:Vals bm ds)(hx:Fs CX X E)(ha:PA X (e::es) t)(aI:(x==("__debug__" : Str))=false:=by decide)(he: ~~~(starEach (e::es) X.env=(false,eval e X.env)::starEach es X.env))(hpl: ~~~((backTo pos (starEach es X.env)).any (·.1)=false)):
 PE X (.Call (.Name x p) (e::es) [] pos) (vP sp bm E t):=by
 intro pins s σ H Q I h;refine wpAny_Call_Name_kw (RH I hg hm ?_ aI);refine PySem.W.callWith_K (h₀:=X.base) I.ok.mod.V1 hk (B9 (ha pos pins s σ H _ I h) λ us s1 ⟨vs,H1,I1,r,q⟩=>⟨I1.Mh,?_⟩) he hpl;exact Ls F hr hb hd hx I1 r q
structure Mk (K:za1)(C f:Addr):Prop where
 makes:PySem.W.makesIn K C=true
 init:zb1 K (.ref C) "__init__" = some (some (.ref f))
 fn:PySem.W.isFn K (.ref f)=true
 kp:zbd K (.ref C)=true
def ZI (M:Mk X.K C f)(F:Cw X.prog X.w X.K X.mg X.base CX k f fd ps sp)(hr:Bm (k+1) X.A)(hb:Binds X.K fd ps ds)(hd:Vals bm ds)(hx:Fs CX X E)(I:Inv X pins σ H s)(r:Vals vs us)(h:∀x dx,H x=none->H dx=none->dx≠x->sp (.ref x::(vs++bm)) (upd (upd H dx (.own x)) x (.ins C dx [])) (λ v H2=>v=.Ax/\Q (.ref x) H2) E):
 wpAny (model X.prog X.w) X.A (call (.ref C) us) (EP X pins σ Q) X.xe s:=by
 have hq:=h (s.heap.objs.size+1) s.heap.objs.size (I.AF.fresh (Nat.le_succ _)) (I.AF.fresh (zaf _)) (zax (Nat.lt_succ_self _));have I2:=Inv.made (C:=C) I;have r2:Vals (V.ref (s.heap.objs.size+1)::(vs++bm)) (zb7 (s.heap.objs.size+1)::(us++ds)):=.cons rfl (r.append hd);have hl:(zb7 (s.heap.objs.size+1)::us++ds).length=ps.length:=by
  have e:=r2.length;rw[F.len _ _ _ _ hq] at e;exact e.symm
 refine wpAny_call (ZH (f:=f) I.Mh M.makes M.init (beq_iff_eq.mp M.fn) (codeAny_mono (F.run _ X.stack _ _ ⟨zb7 (s.heap.objs.size+1)::us,[]⟩ (zb7 (s.heap.objs.size+1)::(us++ds)) _ _ E (hr.make C us [])
  (I2.qL.make C us []) (hb _ (zb7 (s.heap.objs.size+1)::us) I2.Mh hl) r2 hq) λ r s' e7=>?_))
 cases r with
 |error e=>exact hx pins σ _ _ e s' I2 e7
 |ok fl =>
  cases fl with
  |ret u =>
   obtain⟨v,H',I3,rv,ev,q3⟩:=I2.after e7;subst ev;exact⟨rv,⟨V.ref (s.heap.objs.size+1),H',I3,rfl,q3⟩⟩
  |next|brk|cont=>exact zc8 e7
def iX (M:Mk X.K C f)(F:Cw X.prog X.w X.K X.mg X.base CX k f fd ps sp)(hr:Bm (k+1) X.A)(hg:Gl X x)(hm:X.mg x=some (.ref C))(hb:Binds X.K fd ps ds)(hd:Vals bm ds)(hx:Fs CX X E)(ha:PA X (e::es) t)(aI:(x==("__debug__" : Str))=false:=by decide)(he: ~~~(starEach (e::es) X.env=(false,eval e X.env)::starEach es X.env))(hpl: ~~~((backTo pos (starEach es X.env)).any (·.1)=false)):
 PE X (.Call (.Name x p) (e::es) [] pos) (vQ C sp bm E t):=by
 intro pins s σ H Q I h;refine wpAny_Call_Name_kw (RH I hg hm ?_ aI);refine PySem.W.callWith_K (h₀:=X.base) I.ok.mod.V1 M.kp (B9 (ha pos pins s σ H _ I h) λ us s1 ⟨vs,H1,I1,r,q⟩=>⟨I1.Mh,?_⟩) he hpl;exact ZI M F hr hb hd hx I1 r q
end
abbrev PK (X:Cx)(iz:List Keyword)(t:TA):Prop:=
 ∀(pos:Pos) (pins:List (Addr×Obj)) (s:Shared) (σ:St) (H:Hp) (Q:List V->Hp->Prop),Inv X pins σ H s->t σ H Q->wpAny (model X.prog X.w) X.A (evalAll ((backToKw pos (keywordEach iz X.env)).map (·.2))) (AP X pins σ Q) X.xe s
section
variable {k:Nat}{f:Addr}{ks:List Str}{E:XK}{x m:Str}{p az:Pos}{o:Expr}{iz:List Keyword}{t tk:TA}{nm:Option Str}
def qM:PK X [] qK:=λ _ _ _ _ H Q I h=>wpAny_evalAll_nil ⟨[],H,I,.nil,h⟩
def iY (ha:PE X e te)(hr:PK X iz t):PK X (⟨nm,e,az⟩::iz) (nK te t):=by
 intro pos pins s σ H Q I h;show wpAny _ _ (evalAll ((do let v <-eval e X.env;standAt pos;pure v)::(backToKw pos (keywordEach iz X.env)).map (·.2))) _ _ s;refine wpAny_evalAll_cons (wpAny_bind (B9 (ha pins s σ H _ I h) λ u s1 ⟨x,H1,I1,r1,q1⟩=>wpAny_bind (wpAny_standAt (wpAny_pure ?_))));exact B9 (hr pos pins s1 σ H1 _ I1 q1) λ us s2 ⟨xs,H2,I2,r2,q2⟩=>⟨x::xs,H2,I2,.cons r1 r2,q2⟩
variable {g:List Value->List Value->List Value}{gV:List V->List V->List V}
end
structure Ac (N P:List Str)(sc:Scope):Prop where
 kind:sc.kind=.function
 co:sc.isCoroutine=false
 gen:sc.isGenerator=false
 nd:N.Nodup
 pre:N.take P.length=P
 par:∀x∈P,sc.names.lookup x=some .local\/sc.names.lookup x=some .cell
 qN:∀y∈sc.names,y.2≠.free
def QH {kindOf}:∀ {binds:List (Str×Value)}{m:Str->Option Value},(∀v,(x,v)∉binds)->bindL kindOf binds m x=m x
 |[],_,_=>rfl
 |(n,v)::r,m,h=>by
  unfold bindL;rw[QH λ w hw=>h w (za4 _ hw)];split
  ·have:x≠n:=by rintro rfl;exact h v za3
   simp[this]
  ·rfl
def QI {kindOf}:∀ {binds:List (Str×Value)}{m:Str->Option Value},(∀v,(x,v)∉binds)->bindC kindOf binds m x=m x
 |[],_,_=>rfl
 |(n,v)::r,m,h=>by
  unfold bindC;rw[QI λ w hw=>h w (za4 _ hw)];split
  ·rfl
  ·have:x≠n:=by rintro rfl;exact h v za3
   simp[this]
def QJ {kindOf:Str->Option NameKind}{x:Str}{v:Value}:∀ {P:List Str}{vs:List Value}{i:Nat}{m:Str->Option Value},P.Nodup->P[i]?=some x->vs[i]?=some v->kindOf x=some .local->
 bindL kindOf (P.zip vs) m x=some v
 |[],_,_,_,_,h,_,_|_::_,[],_,_,_,_,h,_=>by simp at h
 |p::P,w::vs,0,m,nd,h1,h2,hk=>by
  simp at h1 h2;subst h1;subst h2;show bindL kindOf ((p,w)::P.zip vs) m p=_;unfold bindL;rw[QH λ v hv=>(zbc.mp nd).1 (List.of_mem_zip hv).1,if_pos hk];simp
 |p::P,w::vs,i+1,m,nd,h1,h2,hk=>by
  show bindL kindOf ((p,w)::P.zip vs) m x=_;unfold bindL;exact QJ (i:=i) (zbc.mp nd).2 (by simpa using h1) (by simpa using h2) hk
def QK {kindOf:Str->Option NameKind}{x:Str}{v:Value}:∀ {P:List Str}{vs:List Value}{i:Nat}{m:Str->Option Value},P.Nodup->P[i]?=some x->vs[i]?=some v->kindOf x≠some .local->
 bindC kindOf (P.zip vs) m x=some v
 |[],_,_,_,_,h,_,_|_::_,[],_,_,_,_,h,_=>by simp at h
 |p::P,w::vs,0,m,nd,h1,h2,hk=>by
  simp at h1 h2;subst h1;subst h2;show bindC kindOf ((p,w)::P.zip vs) m p=_;unfold bindC;rw[QI λ v hv=>(zbc.mp nd).1 (List.of_mem_zip hv).1,if_neg hk];simp
 |p::P,w::vs,i+1,m,nd,h1,h2,hk=>by
  show bindC kindOf ((p,w)::P.zip vs) m x=_;unfold bindC;exact QK (i:=i) (zbc.mp nd).2 (by simpa using h1) (by simpa using h2) hk
abbrev start (N:List Str)(vs:List V):St:=vs.map some++zak (N.length-vs.length) none
abbrev T7 (CX:Wt)(P:Program)(w:World)(K:za1)(mg:Str->Option Value)(base:Heap)(N:List Str)(qual:Str)(scope:Scope)(f:Addr)(cd:Value)(A:Around)(outer:List Env)(s:Shared)(H:Hp)(E:XK):Cx where
 prog:=P
 w:=w
 K:=K
 mg:=mg
 base:=base
 A:=A.deeper (envOfC qual scope s.heap.objs.size f cd)
 N:=N
 s₀:=s
 H₀:=H
 env:=envOfC qual scope s.heap.objs.size f cd
 outer:=outer
 stack:=envOfC qual scope s.heap.objs.size f cd::outer
 ex:=[]
 calm:=true
 fn:=λ _=>true
 pn:=[]
 xe:=λ e s'=>wpAny (model P w) (A.deeper (envOfC qual scope s.heap.objs.size f cd)) (leaving (envOfC qual scope s.heap.objs.size f cd) e) (λ _ i4=>CX outer H s E e i4) (λ e' i4=>CX outer H s E e' i4) s'
def T8 {sc:Scope}(h:sc.names.lookup x=some .cell):∃c,(cellsFrom n sc.names []).lookup x=some c:=by
 have q:=PySem.W.cellsFrom_some sc.names n [] (.inl h);exact zbv.mp q
def XE {K}{E}(S:Ac N ps scope)(hd:A.handled=none)(e0:Vi P w K mg base A outer s H)(hl:vs.length=ps.length)(r:Vals vs us)(x:InCallC s s.heap.objs.size (bindL (envOfC qual scope s.heap.objs.size f cd).kindOf (ps.zip us) λ _=>none) (cellsFrom (s.heap.objs.size+1) scope.names []) (bindC (envOfC qual scope s.heap.objs.size f cd).kindOf (ps.zip us) λ _=>none) s1):
 Inv (T7 CX P w K mg base N qual scope f cd A outer s H E) [] (start N vs) H s1:=by
 have hpl:ps.length<=N.length:=by have:=congrArg List.length S.pre;rw[zbf] at this;omega
 obtain⟨h1,tk,rfl,hk⟩:=x.done;have i5:∀b:Addr,b∉(T7 CX P w K mg base N qual scope f cd A outer s H E).ex:=λ b z=>absurd (show b∈([]:List Addr) from z) (by simp);refine⟨⟨e0.mod,S.kind,rfl,rfl,zaf _,λ y z c h1 h2=>?_,λ y hy=>?_,λ y c _ h=>?_,λ _=>hd,Around.frames_deeper e0.frames,.inr ⟨rfl,rfl⟩,λ b z=>absurd z (i5 b),e0.bs,e0.nI,λ b _ _=>i5 b,λ b z=>absurd z (i5 b),e0.Lp,e0.pI⟩,
  rfl,e0.bare,Un.kept hk,⟨_,x.toInCall.ns,λ i y v h1 h2 h3=>?_⟩,λ y c h=>⟨_,x.cell y c h⟩,e0.AF.fresh (zaf _),λ y c h=>?_,λ p hp=>absurd (show p∈([]:List (Addr×Obj)) from hp) (by simp),e0.AF.kept hk,?_⟩
 ·exact name_of_addr x.apart (zd7 h1) (zd7 h2)
 ·have hy:scope.names.lookup y=some .cell\/scope.names.lookup y=some .free:=hy;rcases hy with hy|hy
  ·exact T8 hy
  ·exact absurd rfl (S.qN _ (zd7 hy))
 ·exact zbo (x.above y c (zd7 h))
 ·have hi:i<vs.length:=by
   unfold start at h2;by_cases hi:i<vs.length
   ·exact hi
   ·rw[zd2 (by simpa using hi)] at h2;rw[zcm] at h2;split at h2<;>cases h2
  have ha:vs[i]?=some v:=by
   unfold start at h2;rw[zc6 (by simpa using hi),zaw] at h2;cases e:vs[i]? with
   |none=>rw[e] at h2;cases h2
   |some a=>rw[e] at h2;cases h2;rfl
  obtain⟨u,hu,rv⟩:=r.get ha;have hp:ps[i]?=some y:=by
   rw[<-S.pre,List.getElem?_take_of_lt (by omega)];exact h1
  have t9:ps.Nodup:=by rw[<-S.pre];exact S.nd.sublist (List.take_sublist _ _)
  refine⟨u,rv,?_⟩;rcases S.par y (zao hp) with k|k
  ·exact .inl ⟨k,QJ t9 hp hu k⟩
  ·obtain⟨c,e⟩:=T8 (n:=s.heap.objs.size+1) k;refine .inr ⟨.inl k,c,e,?_⟩;have q:=x.cell y c e;rw[QK t9 hp hu (by show scope.names.lookup y≠_;rw[k];decide)] at q;exact q
 ·exact e0.AF.fresh (zbo (x.above y c (zd7 h)))
 ·unfold start;show _=N.length;rw[zah,za2,List.length_replicate];omega
def T9 {K}{kV}(lk:K.lookup f=some ⟨oc,od,.func (zb6 name qual params body scope dV kV doc pm an AX ct),Ta⟩)(aO:zc2 K AX qual=true)(S:Ac N ps scope)(len:∀vs H Q E,sp vs H Q E->vs.length=ps.length)(bB:∀(A:Around) (outer:List Env) (s:Shared) (H:Hp) (vs:List V) (Q:VK) (E:XK),Bm k (A.deeper (envOfC qual scope s.heap.objs.size f AX))->sp vs H Q E->
  ∃t,Wq (T7 CX P w K mg base N qual scope f AX A outer s H E) body t/\t {nx:=λ _ H'=>Q .Ax H',rt:=Q} (start N vs) H):
 Cw P w K mg base CX (k+1) f (zb6 name qual params body scope dV kV doc pm an AX ct) ps sp:=by
 refine⟨len,λ A outer s H args us vs Q E hr e0 hb r bx=>?_⟩;have hl:=len _ _ _ _ bx;have KX:K.In s.heap:=e0.mod.V1.keeps λ b o e=>(e0.bs b o e).1;have lim:s.heap.NoLimit:=e0.mod.nolimit.keeps λ b o e=>(e0.bs b o e).1;have i6:∀y∈ps.zip us,scope.names.lookup y.1=some .local\/(scope.names.lookup y.1=some .cell/\((cellsFrom (s.heap.objs.size+1) scope.names []).lookup y.1).isSome=true):=λ⟨n,v⟩ hy=>by
  rcases S.par n (List.of_mem_zip hy).1 with q|q
  ·exact .inl q
  ·exact .inr ⟨q,PySem.W.cellsFrom_some _ _ _ (.inl q)⟩
 refine codeAny_call_function hr.depth (KX _ _ lk) rfl S.co S.gen rfl (PySem.W.codeRec_of KX aO) (hb _ _ _ _ ?_);refine wpAny_newFunctionEnv_cells S.kind i6 λ env he s1 x=>?_;subst he;refine⟨lim.keeps x.toInCall.keep,codeAny_func ?_⟩;obtain⟨t,ht,hq⟩:=bB A outer s H vs Q E (hr.deeper _) bx;have I:Inv (T7 CX P w K mg base N qual scope f AX A outer s H E) [] (start N vs) H s1:=XE S hr.hd e0 hl r x;refine wpAny_mono (ht [] s1 (start N vs) H _ I hq) (λ fl s' hs=>?_) λ e s' hs=>hs;have fin:∀ {σ':St} {H':Hp} {v:V} {u:Value},Inv (T7 CX P w K mg base N qual scope f AX A outer s H E) [] σ' H' s'->RelV v u->Q v H'->CE outer P w H s Q u s':=
  fun {σ' H' v u} J rv q=>⟨v,H',J.os,J.bare,J.base,J.AF,rv,q⟩
 cases fl with
 |ret u =>
  obtain⟨v,σ',H',J,rv,q⟩:=hs;exact fin J rv q
 |next =>
  obtain⟨σ',H',J,q⟩:=hs;exact fin (v:=V.Ax) (u:=Value.none) J rfl q
 |brk =>
  obtain⟨_,_,_,q⟩:=hs;exact zc8 q
 |cont =>
  obtain⟨_,_,_,q⟩:=hs;exact zc8 q
section
variable {x:Str}{p:Pos}{t:TA}{id T:String}{r:List V->Hp->VK->Prop}
abbrev tCB (r:List V->Hp->VK->Prop)(t:TA):TE:=λ σ H Q=>t σ H λ vs H1=>r vs H1 Q
def Tb (hc:GY X (.builtin id) r)(hg:Gl X x)(hm:X.mg x=none)(hv:bootBuiltins x=some (.builtin id))(ha:PA X (e::es) t)(hn:x ≠ "__name__" := by decide)(aI:(x==("__debug__" : Str))=false:=by decide)(he: ~~~(starEach (e::es) X.env=(false,eval e X.env)::starEach es X.env))(hpl: ~~~((backTo pos (starEach es X.env)).any (·.1)=false)):PE X (.Call (.Name x p) (e::es) [] pos) (tCB r t):=by
 intro pins s σ H Q I h;refine wpAny_Call_Name_kw (DY I hg hm hv ?_ hn aI);exact PyProof.Rows.callWith_builtin1 (B9 (ha pos pins s σ H _ I h) λ us s1 ⟨vs,H1,I1,r1,q1⟩=>hc pins s1 σ H1 vs us Q I1 r1 q1) he hpl
def Lu (hc:GY X (.type T) r)(hg:Gl X x)(hm:X.mg x=none)(hv:bootBuiltins x=some (.type T))(ha:PA X (e::es) t)(hn:x ≠ "__name__" := by decide)(aI:(x==("__debug__" : Str))=false:=by decide)(he: ~~~(starEach (e::es) X.env=(false,eval e X.env)::starEach es X.env))(hpl: ~~~((backTo pos (starEach es X.env)).any (·.1)=false)):PE X (.Call (.Name x p) (e::es) [] pos) (tCB r t):=by
 intro pins s σ H Q I h;refine wpAny_Call_Name_kw (DY I hg hm hv ?_ hn aI);exact zbj (B9 (ha pos pins s σ H _ I h) λ us s1 ⟨vs,H1,I1,r1,q1⟩=>hc pins s1 σ H1 vs us Q I1 r1 q1) he hpl
end
end L2
namespace HT
open PySem PyProof.Rows
abbrev lexLt:List Int->List Int->Bool
 |[],[]=>false
 |[],_::_=>true
 |_::_,[]=>false
 |x::xs,y::ys=>if x=y then lexLt xs ys else decide (x<y)
def Gh (x y:Int)(xs ys:List Int):lexLt (x::xs) (y::ys)=if x=y then lexLt xs ys else decide (x<y):=rfl
def Ft:lexLt [] []=false:=rfl
def NP (y:Int)(ys:List Int):lexLt [] (y::ys)=true:=rfl
def NQ (x:Int)(xs:List Int):lexLt (x::xs) []=false:=rfl
def ZJ (A:Around)(s:Shared)(a:Int)(t:Tok)(c:Int)(u:Tok):∃e,SeqAt.EqAt A s (.int a t) (.int c u) e/\(e=true↔a=c):=
 ⟨(a==c),SeqAt.EqAt.int_int a t c u,by simp⟩
def ZK (A:Around)(s:Shared)(a:Int)(t:Tok)(c:Int)(u:Tok)(prog:Program)(w:World)(E:Value->Shared->Prop)(Q:Value->Shared->Prop)(h:Q (.bool (decide (a<c))) s):
 wpAny (model prog w) A (richCompare .Lt (.int a t) (.int c u)) Q E s:=
 (PyProof.Rows.lt_int h:wpAny (model prog w) A (compareOp .Lt (.int a t) (.int c u)) Q E s)
section
open PySem.SeqAt
open PySem.AutoSeq1 (wpAny_loadPart')
open PySem.MeetsSeq PySem.MeetsSeq2 PySem.MeetsSeq3
def Qh (l b:Addr)(items ao:Array Value)(n n2:Nat)(dd nr:Option Addr)(sl i7:Array (Option Value))(ns ms:List Int)(hi:IntsAre items.toList ns)(hj:IntsAre ao.toList ms):
 Meets (Builtin.«tuple.__lt__» ⟨[.ref l,.ref b],[]⟩)
  (λ _ R s=>s.heap.get? l=some {cls:=.type "tuple",dict:=dd,data:=.seq items n,slots:=sl}/\s.heap.get? b=some {cls:=.type "tuple",dict:=nr,data:=.seq ao n2,slots:=i7}/\
   R (.ok (.ret (.bool (lexLt ns ms)))) s):=
 .of_wp λ prog w A R s h=>by
  obtain⟨hp,g,d,tk,os⟩:=s;obtain⟨hl,hb,h⟩:=h;have f2:=AutoSeq1.sub_tuple_tuple;have z1:items.size=ns.length:=by rw[<-hi.length];simp
  have z2:ao.size=ms.length:=by rw[<-hj.length];simp
  wp_walk using wpAny_loadPart' hl,wpAny_loadPart' hb,wpAny_forIn_list _ (λ rest b s'=>b.1=none/\s'=⟨hp,g,d,tk,os⟩/\∃(vs ws:List Value) (c5 h9:List Int),rest=vs.zip ws/\
   IntsAre vs c5/\IntsAre ws h9/\c5.length+ao.size=h9.length+items.size/\R (.ok (.ret (.bool (lexLt c5 h9)))) ⟨hp,g,d,tk,os⟩) _
  case turn =>
   rintro ⟨y,x⟩ rest b s' ⟨aE,rfl,vs,ws,c5,h9,hz,nu,lu,hlen,hR⟩;cases nu with
   |nil=>rw[List.zip_nil_left] at hz;cases hz
   |cons a t nv =>
    cases lu with
    |nil=>rw[List.zip_nil_right] at hz;cases hz
    |cons c u ny =>
     rw[List.zip_cons_cons] at hz;injection hz with wb dz
     injection wb with hy hx
     subst hy hx;rw[Gh] at hR;simp only[za8] at hlen;obtain⟨e,he,i8⟩:=ZJ A.in1 ⟨hp,g,d,tk,os⟩ a t c u;refine wpAny_bind (he prog w _ _ ?_);cases e with
     |true =>
      rw[if_pos (i8.mp rfl)] at hR
      wp_walk
      exact⟨rfl,rfl,_,_,_,_,dz,nv,ny,by omega,hR⟩
     |false =>
      rw[if_neg (λ q=>absurd (i8.mpr q) zaq)] at hR;have wc:=ZK A.in1 ⟨hp,g,d,tk,os⟩ a t c u prog w
      wp_walk using wc
      exact⟨_,rfl,by simpa using hR⟩
  case fin =>
   rintro ⟨b1,b2⟩ s' ⟨aE,rfl,vs,ws,c5,h9,hz,nu,lu,hlen,hR⟩;simp only at aE;subst aE;have hv:lexLt c5 h9=decide (items.size<ao.size):=by
    cases nu with
    |nil =>
     cases lu with
     |nil =>
      simp only[List.length_nil] at hlen;rw[Ft];exact (decide_eq_false (by omega)).symm
     |cons c u hw =>
      simp only[List.length_nil,za8] at hlen;rw[NP];exact (decide_eq_true (by omega)).symm
    |cons a t hv =>
     cases lu with
     |nil =>
      simp only[List.length_nil,za8] at hlen;rw[NQ];exact (decide_eq_false (by omega)).symm
     |cons c u hw =>
      rw[List.zip_cons_cons] at hz;cases hz
   rw[hv] at hR
   wp_walk
   exact⟨_,rfl,by simpa [Builtin.Tuple.tupleCompareSizes] using hR⟩
  case h =>
   exact⟨rfl,rfl,items.toList,ao.toList,ns,ms,rfl,hi,hj,by omega,h⟩
end
section
variable {prog:Program}{w:World}{A:Around}{E:Value->Shared->Prop}{s:Shared}
def NR (hl:IsTup s.heap l items)(hb:IsTup s.heap b ao)(hi:IntsAre items.toList ns)(hj:IntsAre ao.toList ms)(hu:A.units<cLine)(h:Q (.bool (lexLt ns ms)) s):wpAny (model prog w) A (compareOp .Lt (.ref l) (.ref b)) Q E s:=by
 obtain⟨⟨cls,dd,data,sl⟩,ho,hc,n,hd⟩:=id hl;obtain⟨⟨we,nr,data2,i7⟩,ub,uc,n2,hd2⟩:=id hb;simp only at hc hd uc hd2;subst hc hd uc hd2;exact richCompare_meets_room (op:=.Lt) ⟨_,ho,rfl⟩ ⟨_,ub,rfl⟩ PySem.F.slot_tuple_lt PySem.F.entry_tuple_lt (PySem.F.args_tuple_lt_2 _ _) (Qh l b items ao n n2 dd nr sl i7 ns ms hi hj)
  ⟨ho,ub,show Value.bool (lexLt ns ms)≠Value.notImplemented/\Q (.bool (lexLt ns ms)) s from ⟨(λ x=>nomatch x),h⟩⟩ hu
abbrev NS (n d:Nat):Option Int->Nat
 |none=>d
 |some v=>if v<0 then (v+(n:Int)).toNat else min v.toNat n
def Tc (n d:Nat):NS n d none=d:=rfl
def Nt (n d k:Nat):NS n d (some (k:Int))=min k n:=by
 show (if (k:Int)<0 then ((k:Int)+(n:Int)).toNat else min (k:Int).toNat n)=min k n;rw[if_neg (by omega),zbg]
end
end HT
namespace L2
open PySem PySem.Spec PyProof.Rows
noncomputable abbrev TO:=St->Hp->(Option Int->Hp->Prop)->Prop
abbrev PO (X:Cx)(e:Option Expr)(t:TO):Prop:=
 ∀(pins:List (Addr×Obj)) (s:Shared) (σ:St) (H:Hp) (Q:Option Int->Hp->Prop),Inv X pins σ H s->t σ H Q->
  wpAny (model X.prog X.w) X.A (evalPart e X.env) (λ u s'=>∃o H',Inv X pins σ H' s'/\IsPart u o/\Q o H') X.xe s
abbrev iZ:TO:=λ _ H Q=>Q none H
abbrev vR (t:TE):TO:=λ σ H Q=>t σ H λ x H1=>∃i,x=.int i/\Q (some i) H1
def intsAre_of:∀ {us:List Value},Vals (ns.map V.int) us->IntsAre us ns:=by
 induction ns with
 |nil=>intro us r;rw[List.map_nil] at r;cases r;exact .nil
 |cons n ns ih =>
  intro us r;rw[za6] at r;cases r with
  |cons r1 r2 =>
   obtain⟨t,e⟩:=r1;subst e;exact .cons n t (ih r2)
section
variable {X:Cx}{e:Expr}{te:TE}{lo hi:Option Expr}{tl th:TO}{pos p2:Pos}
def jA:PO X none iZ:=by
 intro pins s σ H Q I h;rw[evalPart_none];exact wpAny_pure ⟨none,H,I,.none,h⟩
def jB (h:PE X e te):PO X (some e) (vR te):=by
 intro pins s σ H Q I hw;rw[evalPart_some];refine B9 (h pins s σ H _ I hw) λ u s1 zz=>?_;obtain⟨x,H1,I1,r1,q1⟩:=zz;obtain⟨i,rfl,q⟩:=q1;obtain⟨t,rfl⟩:=r1;exact⟨some i,H1,I1,.int i t,q⟩
abbrev SlR (X:Cx)(r:V->Option Int->Option Int->Hp->VK->Prop):Prop:=
 ∀(pins:List (Addr×Obj)) (s:Shared) (σ:St) (H:Hp) (x:V) (v vl vu:Value) (lo hi:Option Int) (sl:Addr) (Q:VK),Inv X pins σ H s->RelV x v->s.heap.IsSliceOf sl vl vu .none->IsPart vl lo->IsPart vu hi->r x lo hi H Q->
  ∃T id,typeLookup (.type T) "__getitem__" = pure (some (.builtin id))/\s.TypeIs v T/\wpAny (model X.prog X.w) X.A (getItem v (.ref sl)) (EP X pins σ Q) X.xe s
abbrev tSl (r:V->Option Int->Option Int->Hp->VK->Prop)(te:TE)(tl th:TO):TE:=λ σ H Q=>te σ H λ x H1=>tl σ H1 λ l H2=>th σ H2 λ u H3=>r x l u H3 Q
def ZL (hr:SlR X r)(he:PE X e te)(hl:PO X lo tl)(hu:PO X hi th):PE X (.Subscript e (.Slice lo hi none p2) pos) (tSl r te tl th):=by
 intro pins s σ H Q I h;refine Subscript_ (B9 (he pins s σ H _ I h) λ v s1 zz=>?_);obtain⟨x,H1,I1,r1,q1⟩:=zz;refine wpAny_Slice (B9 (hl pins s1 σ H1 _ I1 q1) λ vl s2 ⟨l,H2,I2,pl,q2⟩=>B9 (hu pins s2 σ H2 _ I2 q2) λ vu s3 zz=>?_);obtain⟨u,H3,I3,pu,q3⟩:=zz;rw[evalPart_none];refine wpAny_pure ?_;have I4:Inv X pins σ H3 {s3 with heap:=s3.heap.push {cls:=.type "slice",data:=.fields #[vl,vu,.none]} }:=I3.kept (t':=s3.toks) λ b ob q=>zad _ q;obtain⟨T,id,hT,ht,hg⟩:=hr pins {s3 with heap:=s3.heap.push {cls:=.type "slice",data:=.fields #[vl,vu,.none]} } σ H3 x v vl vu l u s3.heap.objs.size Q I4 r1 (Heap.IsSliceOf.new ..) pl pu q3;show wpAny (model X.prog X.w) X.A (subscriptTail e (.Slice lo hi none p2) v (.ref s3.heap.objs.size)) (EP X pins σ Q) X.xe {s3 with heap:=s3.heap.push {cls:=.type "slice",data:=.fields #[vl,vu,.none]} };exact tail_any (ops:=[.ref s3.heap.objs.size,v]) ht hT hg (by with_unfolding_all rfl)
abbrev ZM (xs:List V)(lo hi:Option Int):List V:=(xs.drop (HT.NS xs.length 0 lo)).take (HT.NS xs.length xs.length hi-HT.NS xs.length 0 lo)
def Td (xs:List V)(lo hi:Option Int):(ZM xs lo hi).length<=xs.length:=by
 unfold ZM;rw[zbf,zci];omega
abbrev vS (K:za1):R2:=λ x y H Q=>∃a b ns ms,x=.ref a/\y=.ref b/\Fq K H a (ns.map V.int)/\Fq K H b (ms.map V.int)/\Q (.bl (HT.lexLt ns ms)) H
def qO (hu:X.A.units<cLine):Gf X (compareOp .Lt) (vS X.K):=by
 intro pins s σ H x y v u Q I rx ry h;obtain⟨a,b,ns,ms,rfl,rfl,ha,hb,q⟩:=h;cases rx;cases ry;obtain⟨aa,r1,p1,_⟩:=I.tuple ha;obtain⟨aJ,r2,p2,_⟩:=I.tuple hb;have i1:IntsAre aa.toArray.toList ns:=intsAre_of r1;have i2:IntsAre aJ.toArray.toList ms:=intsAre_of r2;exact HT.NR p1 p2 i1 i2 hu ⟨.bl (HT.lexLt ns ms),H,I,rfl,q⟩
end
abbrev Wv (n:Nat)(i:Int):Option Nat:=if 0<=i then (if i<n then some i.toNat else none) else if -(n:Int)<=i then some (i+n).toNat else none
abbrev V2 {α:Type}(xs:List α)(i:Int):Option α:=(Wv xs.length i).bind λ j=>xs[j]?
def Ww (h:Wv n i=some j):seqIndex? i n=some j/\j<n/\-(n:Int)<=i/\i<n:=by
 unfold Wv at h;by_cases h0:0<=i
 ·rw[if_pos h0] at h;by_cases h1:i<n
  ·rw[if_pos h1] at h;have e:i.toNat=j:=zau h;exact⟨by rw[seqIndex_of h0 h1,e],by omega,by omega,h1⟩
  ·rw[if_neg h1] at h;cases h
 ·rw[if_neg h0] at h;by_cases h1 : -(n:Int)<=i
  ·rw[if_pos h1] at h;have e:(i+n).toNat=j:=zau h;exact⟨by rw[seqIndex_neg (by omega) h1,e],by omega,h1,by omega⟩
  ·rw[if_neg h1] at h;cases h
def Wx {α:Type}{xs}{v:α}(h:V2 xs i=some v):∃j,seqIndex? i xs.length=some j/\xs[j]?=some v/\j<xs.length/\-(xs.length:Int)<=i/\i<xs.length:=by
 unfold V2 at h;cases e:Wv xs.length i with
 |none=>rw[e] at h;cases h
 |some j =>
  rw[e] at h;obtain⟨h1,h2,h3,h4⟩:=Ww e;exact⟨j,h1,h,h2,h3,h4⟩
abbrev Nu (b:Expr):Prop:=∀o i,subscripted b false o i=operate [o,i] (getItem o i)
abbrev jC (X:Cx)(r:R2):Prop:=
 ∀(value slice:Expr) (pins:List (Addr×Obj)) (s:Shared) (σ:St) (H:Hp) (x y:V) (v u:Value) (Q:VK),Inv X pins σ H s->RelV x v->RelV y u->r x y H Q->
  subscripted slice false v u=operate [v,u] (getItem v u)->wpAny (model X.prog X.w) X.A (subscriptTail value slice v u) (EP X pins σ Q) X.xe s
abbrev MtR (X:Cx)(id:String)(r:V->List V->Hp->VK->Prop):Prop:=
 ∀(pins:List (Addr×Obj)) (s:Shared) (σ:St) (H:Hp) (x:V) (xs:List V) (v:Value) (us:List Value) (Q:VK),Inv X pins σ H s->RelV x v->Vals xs us->r x xs H Q->
  wpAny (model X.prog X.w) X.A (call (.builtin id) (v::us)) (EP X pins σ Q) X.xe s
section
variable {X:Cx}{a b:Expr}{ta tb:TE}{pos:Pos}
def jC.or (h:jC X r)(h':jC X r'):jC X (λ x y H Q=>r x y H Q\/r' x y H Q):=by
 intro value slice pins s σ H x y v u Q I rx ry q hs;rcases q with q|q
 ·exact h value slice pins s σ H x y v u Q I rx ry q hs
 ·exact h' value slice pins s σ H x y v u Q I rx ry q hs
def nL (hr:jC X r)(ha:PE X a ta)(hb:PE X b tb)(hs:Nu b):PE X (.Subscript a b pos) (uH r ta tb):=by
 intro pins s σ H Q I h;exact Subscript_ (pZ ha hb I h λ v u s2 x y H2 I2 rx ry q=>hr a b pins s2 σ H2 x y v u Q I2 rx ry q (hs _ _))
abbrev qP (K:za1):R2:=λ x y H Q=>∃p xs i v,x=.ref p/\y=.int i/\DB K H p xs/\V2 xs i=some v/\Q v H
abbrev qQ (K:za1):R2:=λ x y H Q=>∃p xs i v,x=.ref p/\y=.int i/\Fq K H p xs/\V2 xs i=some v/\Q v H
def Wy:jC X (qP X.K):=by
 intro value slice pins s σ H x y v u Q I rx ry h hs;obtain⟨p,xs,i,z,rfl,rfl,hq,he,q⟩:=h;cases rx;obtain⟨t,rfl⟩:=ry;obtain⟨aa,r,pl,hz⟩:=I.list hq;obtain⟨j,h1,h2,h3,h4,h5⟩:=Wx he;obtain⟨w,ew,ba⟩:=r.get h2;have hl:=r.length;have hn:=Lq;have fin:EP X pins σ Q w s:=⟨z,H,I,ba,q⟩;by_cases h0:0<=i
 ·have hj:i.toNat=j:=by
   rw[seqIndex_of h0 h5] at h1;exact zau h1
  exact item_listR pl.isList h0 (by omega) (by rw[hj];simpa using ew) fin hs
 ·have hj:(i+(aa.toArray.size:Int)).toNat=j:=by
   rw[seqIndex_neg (by omega) h4] at h1;rw[zac,<-hl];exact zau h1
  exact subscriptTail_builtinR (x:=w) pl.isList.typeIs slot_list_getitem.lookup
   (wpAny_getItem_list_neg (Q:=λ r s'=>r=w/\EP X pins σ Q r s') pl.isList (by omega) (by rw[zac]<;>omega) (by omega) (by rw[hj];simpa using ew) ⟨rfl,fin⟩) hs
def ZN:jC X (qQ X.K):=by
 intro value slice pins s σ H x y v u Q I rx ry h hs;obtain⟨p,xs,i,z,rfl,rfl,hq,he,q⟩:=h;cases rx;obtain⟨t,rfl⟩:=ry;obtain⟨aa,r,pl,hz⟩:=I.tuple hq;obtain⟨j,h1,h2,h3,h4,h5⟩:=Wx he;obtain⟨w,ew,ba⟩:=r.get h2;have hl:=r.length;have hn:=Lq;have fin:EP X pins σ Q w s:=⟨z,H,I,ba,q⟩;exact subscriptTail_builtinR (x:=w) pl.typeIs slot_tuple_getitem.lookup
  (getItem_tuple (j:=j) (Q:=λ r s'=>r=w/\EP X pins σ Q r s') pl (by omega) (by omega) (by rw[zac,<-hl];exact h1) (by simpa using ew) ⟨rfl,fin⟩) hs
def Vj (aa:List Value)(n j:Nat)(u:Value):Obj.mapSeq (·.setIfInBounds j u) {cls:=.type "list",data:=.seq aa.toArray n}={cls:=.type "list",data:=.seq (aa.set j u).toArray n}:=by
 simp[Obj.mapSeq]
def Inv.lst (I:Inv X pins σ H s)(h:H p=some (.lst xs)):
 ∃(aa:List Value) (n:Nat),Vals xs aa/\s.heap.get? p=some {cls:=.type "list",data:=.seq aa.toArray n}/\xs.length<=sizeLine:=by
 obtain⟨z,aa,n,r,e⟩:=I.AF p _ h;exact⟨aa,n,r,e,z⟩
def Inv.qR {aa:List Value}(I:Inv X pins σ H s)(h:H p=some (.lst xs))(ho:s.heap.get? p=some {cls:=.type "list",data:=.seq aa.toArray n})(hf:f {cls:=.type "list",data:=.seq aa.toArray n}={cls:=.type "list",data:=.seq its'.toArray n' })(r:Vals ys its')(hz:ys.length<=sizeLine)(t:Nat):
 Inv X pins σ (upd H p (.lst ys)) {s with heap:=s.heap.update p f,toks:=t}:=by
 have e:(s.heap.update p f).get? p=some {cls:=.type "list",data:=.seq its'.toArray n' }:=by
  rw[Heap.get?_update_self f ho (by rw[hf]<;>rfl),hf]
 refine I.write (x:=p) (e:=p) (by rw[h];trivial) (.inl rfl) (λ b u hb q=>(Heap.get?_update_other _ _ (zbl hb)).trans q) ⟨_,e⟩ ?_;exact⟨hz,its',n',r,e⟩
abbrev vT:V->V->V->Hp->(Hp->Prop)->Prop:=λ o i v H Q=>∃p xs k j,o=.ref p/\i=.int k/\H p=some (.lst xs)/\Wv xs.length k=some j/\Q (upd H p (.lst (xs.set j v)))
def set_list:vF X vT:=by
 intro pins s σ H o i v ov iv u Q I ro ri rv h;obtain⟨p,xs,k,j,rfl,rfl,hp,hj,q⟩:=h;cases ro;obtain⟨t,rfl⟩:=ri;obtain⟨aa,n,r,ho,hz⟩:=I.lst hp;obtain⟨h1,h2,h3,h4⟩:=Ww hj;have hl:=r.length;have hn:=Lq;have I':Inv X pins σ (upd H p (.lst (xs.set j v))) {s with heap:=s.heap.update p (Obj.mapSeq (·.setIfInBounds j u))}:=
  I.qR hp ho (Vj aa n j u) (r.set rv j) (by rw[zc7];exact hz) s.toks
 by_cases h0:0<=k
 ·have hk:k.toNat=j:=by
   rw[seqIndex_of h0 h4] at h1;exact zau h1
  exact PySem.W.ki_setAt ho h0 (by omega) (by rw[zac,<-hl];exact h4) (by rw[hk];exact⟨_,I',q⟩)
 ·have hk:(k+(aa.toArray.size:Int)).toNat=j:=by
   rw[seqIndex_neg (by omega) h3] at h1;rw[zac,<-hl];exact zau h1
  exact PySem.W.ki_setBack ho (by omega) (by rw[zac,<-hl];exact h3) (by omega) (by rw[hk];exact⟨_,I',q⟩)
def RL (lo hi:Option Int)(n:Nat):(sliceBounds lo hi none n).1=((HT.NS n 0 lo:Nat):Int)/\(sliceBounds lo hi none n).2.1=((HT.NS n n hi:Nat):Int)/\(sliceBounds lo hi none n).2.2=1:=by
 refine⟨?_,?_,rfl⟩
 ·cases lo with
  |none=>simp[sliceBounds,HT.NS]
  |some i =>
   simp only[sliceBounds,HT.NS,Option.getD_none,show (1:Int) > 0 by decide,if_true];by_cases h:i<0
   ·simp only[h,if_true]<;>omega
   ·simp only[h,if_false]<;>omega
 ·cases hi with
  |none=>simp[sliceBounds,HT.NS]
  |some i =>
   simp only[sliceBounds,HT.NS,Option.getD_none,show (1:Int) > 0 by decide,if_true];by_cases h:i<0
   ·simp only[h,if_true]<;>omega
   ·simp only[h,if_false]<;>omega
def Qi (aa:List Value)(lo hi:Option Int):slicePick aa.toArray lo hi none=((aa.drop (HT.NS aa.length 0 lo)).take (HT.NS aa.length aa.length hi-HT.NS aa.length 0 lo)).toArray:=by
 obtain⟨h1,h2,h3⟩:=RL lo hi aa.toArray.size;unfold slicePick;rw[h1,h2,h3];simp only[sliceRange_one,pick_run,zac]<;>rfl
abbrev aar (K:za1):V->Option Int->Option Int->Hp->VK->Prop:=λ x lo hi H Q=>∃a xs,x=.ref a/\DB K H a xs/\∀p,H p=none->Q (.ref p) (upd H p (.lst (ZM xs lo hi)))
def jD:SlR X (aar X.K):=by
 intro pins s σ H x v vl vu lo hi sl Q I rx hs pl pu h;obtain⟨a,xs,rfl,hx,q⟩:=h;cases rx;obtain⟨aa,r,ht,hz⟩:=I.list hx;have hlen:=r.length;refine⟨"list",_,slot_list_getitem.lookup,ht.isList.typeIs,?_⟩;refine wpAny_getItem_list_slice ht.isList hs pl pu .none (by simp) ?_ (by rw[zac]<;>omega);rw[Qi,<-hlen];refine⟨.ref s.heap.objs.size,_,I.laid (t':=s.toks) (o:=.lst (ZM xs lo hi)) (λ b ob q=>zad _ q) (zaf _) ?_,rfl,q _ (I.AF.fresh (zaf _))⟩;exact⟨zc0 (Td xs lo hi) hz,_,0,(r.drop (HT.NS xs.length 0 lo)).take (HT.NS xs.length xs.length hi-HT.NS xs.length 0 lo),zap _ rfl⟩
abbrev Kb:V->Bool
 | .Ax| .bl _| .int _| .str _=>true
 |_=>false
abbrev nM:V->V->Bool
 | .Ax,.Ax=>true
 | .bl a,.bl b=>a==b
 | .bl a,.int b=>(if a then 1 else 0)==b
 | .int a,.bl b=>a==(if b then 1 else 0)
 | .int a,.int b| .str a,.str b=>a==b
 |_,_=>false
def qS (ry:RelV y u)(rx:RelV x v)(fy:Kb y=true)(fx:Kb x=true):SeqAt.EqAt A s u v (nM y x):=by
 cases y with
 |Ax =>
  cases ry;cases x with
  |Ax=>cases rx;exact SeqAt.EqAt.same _
  |bl b=>cases rx;exact SeqAt.EqAt.none_bool b
  |int b=>obtain⟨t,rfl⟩:=rx;exact SeqAt.EqAt.none_int b t
  |str b=>obtain⟨t,rfl⟩:=rx;exact SeqAt.EqAt.none_str b t
  |_=>exact absurd (show false=true from fx) zaq
 |bl a =>
  cases ry;cases x with
  |Ax=>cases rx;exact SeqAt.EqAt.bool_none a
  |bl b=>cases rx;exact SeqAt.EqAt.bool_bool a b
  |int b=>obtain⟨t,rfl⟩:=rx;exact SeqAt.EqAt.bool_int a b t
  |str b=>obtain⟨t,rfl⟩:=rx;exact SeqAt.EqAt.bool_str a b t
  |_=>exact absurd (show false=true from fx) zaq
 |int a =>
  obtain⟨t',rfl⟩:=ry;cases x with
  |Ax=>cases rx;exact SeqAt.EqAt.int_none a t'
  |bl b=>cases rx;exact SeqAt.EqAt.int_bool a t' b
  |int b=>obtain⟨t,rfl⟩:=rx;exact SeqAt.EqAt.int_int a t' b t
  |str b=>obtain⟨t,rfl⟩:=rx;exact SeqAt.EqAt.int_str a t' b t
  |_=>exact absurd (show false=true from fx) zaq
 |str a =>
  obtain⟨t',rfl⟩:=ry;cases x with
  |Ax=>cases rx;exact SeqAt.EqAt.str_none a t'
  |bl b=>cases rx;exact SeqAt.EqAt.str_bool a t' b
  |int b=>obtain⟨t,rfl⟩:=rx;exact SeqAt.EqAt.str_int a t' b t
  |str b=>obtain⟨t,rfl⟩:=rx;exact SeqAt.EqAt.str_str a t' b t
  |_=>exact absurd (show false=true from fx) zaq
 |_=>exact absurd (show false=true from fy) zaq
abbrev Vk (x:V)(u:Value):Bool:=match u with
 | .none=>nM .Ax x
 | .bool b=>nM (.bl b) x
 | .int i _=>nM (.int i) x
 | .str z _=>nM (.str z) x
 |_=>false
def ZO (r:RelV y u)(f:Kb y=true):Vk x u=nM y x:=by
 cases y with
 |Ax|bl b=>cases r;rfl
 |int i|str z=>obtain⟨t,rfl⟩:=r;rfl
 |_=>exact absurd (show false=true from f) zaq
def Kc {x:V}:∀ {xs:List V}{us:List Value},Vals xs us->xs.all Kb=true->us.any (Vk x)=xs.any λ y=>nM y x
 |_,_,.nil,_=>rfl
 |y::xs,u::us,.cons r t,f=>by
  rw[List.all_cons,zb4] at f;rw[zd1,zd1,ZO r f.1,Kc t f.2]
def Hy {A:Around}{s:Shared}{x:V}{v:Value}(rx:RelV x v)(fx:Kb x=true):∀ {xs:List V}{us:List Value},Vals xs us->xs.all Kb=true->∀u∈us,SeqAt.EqAt A s u v (Vk x u)
 |_,_,.nil,_=>λ u hu=>by cases hu
 |y::xs,u::us,.cons r t,f=>λ u' hu=>by
  rw[List.all_cons,zb4] at f;rcases zab.mp hu with rfl|hu
  ·rw[ZO r f.1];exact qS r rx f.1 fx
  ·exact Hy rx fx t f.2 u' hu
abbrev yY (x:V)(xs:List V):Bool:=xs.any λ y=>nM y x
abbrev yZ (K:za1)(neg:Bool):R2:=λ x y H Q=>∃p xs,y=.ref p/\(DB K H p xs\/Fq K H p xs)/\Kb x=true/\xs.all Kb=true/\Q (.bl (if neg then !yY x xs else yY x xs)) H
def XF:Gf X (compareOp .In) (yZ X.K false):=by
 intro pins s σ H x y v u Q I rx ry h;obtain⟨p,xs,rfl,hq,fx,fs,q⟩:=h;cases ry;rcases hq with hq|hq
 ·obtain⟨aa,r,pl,hz⟩:=I.list hq;refine SeqAt.in_listAt (Vk x) pl.isList (λ w hw=>Hy rx fx r fs w (by simpa using hw)) ⟨.bl _,H,I,rfl,?_⟩;rw[show aa.toArray.any (Vk x)=aa.any (Vk x) by simp,Kc r fs];exact q
 ·obtain⟨aa,r,pl,hz⟩:=I.tuple hq;refine SeqAt.in_tupleAt (Vk x) pl (λ w hw=>Hy rx fx r fs w (by simpa using hw)) ⟨.bl _,H,I,rfl,?_⟩;rw[show aa.toArray.any (Vk x)=aa.any (Vk x) by simp,Kc r fs];exact q
def RM:Gf X (compareOp .NotIn) (yZ X.K true):=by
 intro pins s σ H x y v u Q I rx ry h;obtain⟨p,xs,rfl,hq,fx,fs,q⟩:=h;cases ry;rcases hq with hq|hq
 ·obtain⟨aa,r,pl,hz⟩:=I.list hq;refine SeqAt.notIn_listAt (Vk x) pl.isList (λ w hw=>Hy rx fx r fs w (by simpa using hw)) ⟨.bl _,H,I,rfl,?_⟩;rw[show aa.toArray.any (Vk x)=aa.any (Vk x) by simp,Kc r fs];exact q
 ·obtain⟨aa,r,pl,hz⟩:=I.tuple hq;refine SeqAt.notIn_tupleAt (Vk x) pl (λ w hw=>Hy rx fx r fs w (by simpa using hw)) ⟨.bl _,H,I,rfl,?_⟩;rw[show aa.toArray.any (Vk x)=aa.any (Vk x) by simp,Kc r fs];exact q
def RN:GY X (.builtin "len") (λ xs H Q=>∃p ys,xs=[.ref p]/\(DB X.K H p ys\/Fq X.K H p ys)/\Q (.int ys.length) H):=by
 intro pins s σ H xs us Q I r h;obtain⟨p,ys,rfl,hq,q⟩:=h;obtain⟨u,rfl,rx⟩:=vals1 r;cases rx;have hn:=Lq;rcases hq with hq|hq
 ·obtain⟨aa,r',pl,hz⟩:=I.list hq;have hlen:=r'.length;exact Calls.call_len_list pl.isList (by simp only[zac]<;>omega) ⟨.int ys.length,H,I.tok _,⟨s.toks+1,by rw[zac,hlen]⟩,q⟩
 ·obtain⟨aa,r',pl,hz⟩:=I.tuple hq;have hlen:=r'.length;exact len_tuple pl (by simp only[zac]<;>omega) ⟨.int ys.length,H,I.tok _,⟨s.toks+1,by rw[zac,hlen]⟩,q⟩
def RO:GY X (.type "list") (λ xs H Q=>∃p ys,xs=[.ref p]/\(DB X.K H p ys\/Fq X.K H p ys)/\∀l,H l=none->Q (.ref l) (upd H l (.lst ys))):=by
 intro pins s σ H xs us Q I r h;obtain⟨p,ys,rfl,hq,q⟩:=h;obtain⟨u,rfl,rx⟩:=vals1 r;cases rx;have fin:∀(aa:List Value),Vals ys aa->ys.length<=sizeLine->∀(h':Heap) (c':Nat),(∀b o',s.heap.get? b=some o'->h'.get? b=some o')->
  h'.get? s.heap.objs.size=some {cls:=.type "list",dict:=none,data:=.seq aa.toArray c',slots:=#[]}->EP X pins σ Q (.ref s.heap.objs.size) {s with heap:=h' }:=λ aa r' hz h' c' kp e =>
  ⟨.ref s.heap.objs.size,_,I.laid (t':=s.toks) kp (zaf _) (show Bk X.prog X.w _ h' _ (.lst ys) from ⟨hz,aa,c',r',e⟩),rfl,q _ (I.AF.fresh (zaf _))⟩
 rcases hq with hq|hq
 ·obtain⟨aa,r',pl,hz⟩:=I.list hq;have hlen:=r'.length;obtain⟨o,ho,hc,n,hd⟩:=pl.isList;exact call_list_seq p (.inl rfl) ho hc hd (λ h' c' kp e=>fin aa r' hz h' c' kp e) (by simp only[zac]<;>omega)
 ·obtain⟨aa,r',pl,hz⟩:=I.tuple hq;have hlen:=r'.length;obtain⟨o,ho,hc,n,hd⟩:=pl;exact call_list_seq p (.inr rfl) ho hc hd (λ h' c' kp e=>fin aa r' hz h' c' kp e) (by simp only[zac]<;>omega)
def Qj:GY X (.type "tuple") (λ xs H Q=>∃p ys,xs=[.ref p]/\((DB X.K H p ys/\∀l,H l=none->Q (.ref l) (upd H l (.tup ys)))\/(Fq X.K H p ys/\Q (.ref p) H))):=by
 intro pins s σ H xs us Q I r h;obtain⟨p,ys,rfl,h⟩:=h;obtain⟨u,rfl,rx⟩:=vals1 r;cases rx;rcases h with ⟨hq,q⟩|⟨hq,q⟩
 ·obtain⟨aa,r',pl,hz⟩:=I.list hq;have hlen:=r'.length;refine call_tuple_list pl.isList (λ h' kp=>?_) (by simp only[zac]<;>omega);have I1:Inv X pins σ H {s with heap:=h' }:=I.kept (t':=s.toks) kp;have I2:Inv X pins σ (upd H h'.objs.size (.tup ys)) {s with heap:=h'.push {cls:=.type "tuple",data:=.seq aa.toArray} }:=
   I1.laid (t':=s.toks) (λ b o e=>zad _ e) (zaf _) (show Bk X.prog X.w _ _ _ (.tup ys) from ⟨hz,aa,r',IsTup.new _ _⟩)
  exact⟨.ref h'.objs.size,_,I2,rfl,q _ (I1.AF.fresh (zaf _))⟩
 ·obtain⟨aa,r',pl,hz⟩:=I.tuple hq;exact call_tuple_same pl ⟨.ref p,H,I,rfl,q⟩
abbrev tyV (K:za1)(T:String)(x:V)(H:Hp):Prop:=match x with
 | .str _=>T = "str"
 | .int _=>T = "int"
 | .ref p=>(T = "list" /\ ∃xs,DB K H p xs)\/(T = "tuple" /\ ∃o,K.lookup p=some o/\o.cls=.type "tuple" /\ o.dict=none) \/
  (T = "dict" /\ ((∃kvs,H p=some (.dK kvs))\/∃kvs,H p=some (.dT kvs)))\/(T = "set" /\ ∃S n,H p=some (.set S n))
 |_=>False
def ZP (I:Inv X pins σ H s)(r:RelV x v)(ty:tyV X.K T x H):
 s.TypeIs v T/\∀a,v=.ref a->∃ob,s.heap.get? a=some ob/\ob.dict=none:=by
 cases x with
 |str z =>
  obtain⟨t,rfl⟩:=r;cases (show T = "str" from ty);exact⟨typeIs_str s z t,λ _ e=>nomatch e⟩
 |int i =>
  obtain⟨t,rfl⟩:=r;cases (show T = "int" from ty);exact⟨typeIs_int s i t,λ _ e=>nomatch e⟩
 |ref p =>
  cases r;rcases ty with ⟨rfl,xs,hq⟩|⟨rfl,o,hk,hc,hd⟩|⟨rfl,hk⟩|⟨rfl,S,n,hk⟩
  ·obtain⟨aa,_,pl,_⟩:=I.list hq;refine⟨pl.isList.typeIs,λ a e=>?_⟩;cases e;obtain⟨o,n,e,c,hd,_⟩:=pl;exact⟨o,e,hd⟩
  ·refine⟨⟨o,I.Mh p o hk,hc⟩,λ a e=>?_⟩;cases e;exact⟨o,I.Mh _ o hk,hd⟩
  ·have z:∃o,s.heap.get? p=some o/\o.ExactDict:=by
    rcases hk with ⟨kvs,hk⟩|⟨kvs,hk⟩
    ·obtain⟨_,_,_,_,o,_,_,e,ex,_⟩:=I.AF p _ hk;exact⟨o,e,ex⟩
    ·obtain⟨_,_,_,_,o,_,_,e,ex,_⟩:=I.AF p _ hk;exact⟨o,e,ex⟩
   obtain⟨o,e,ex⟩:=z;refine⟨⟨o,e,ex.1⟩,λ a e2=>?_⟩;cases e2;exact⟨o,e,ex.2.1⟩
  ·obtain⟨o,_,_,_,e,ex,_⟩:=I.AF p _ hk;refine⟨⟨o,e,ex.1⟩,λ a e2=>?_⟩;cases e2;exact⟨o,e,ex.2.1⟩
 |_=>exact zc8 ty
abbrev aat (K:za1)(T:String)(r:V->List V->Hp->VK->Prop)(to:TE):TE:=λ σ H Q=>to σ H λ x H1=>tyV K T x H1/\r x [] H1 Q
abbrev tBM (K:za1)(T:String)(r:V->List V->Hp->VK->Prop)(to:TE)(t:TA):TE:=λ σ H Q=>to σ H λ x H1=>tyV K T x H1/\t σ H1 λ xs H2=>r x xs H2 Q
variable {o e:Expr}{es:List Expr}{to:TE}{t:TA}{name:Str}{apos ac:Pos}{T id:String}{r:V->List V->Hp->VK->Prop}
def ZQ (pa:PlainAttrs T)(slot:Slot T name id)(nz:typeOf (.builtin id)=pure (.type "method_descriptor"))(hm:MtR X id r)(ho:PE X o to)(aj: ~~~(attributeBase o name X.env (eval o X.env)=eval o X.env))(ak: ~~~((apos.endLine==ac.line)=true)):PE X (.Call (.Attribute o name apos) [] [] ac) (aat X.K T r to):=by
 intro pins s σ H Q I h;refine wpAny_Call_method0_late aj ak (B9 (ho pins s σ H _ I h) λ v s1 zz=>?_);obtain⟨x,H1,I1,r1,ty,q1⟩:=zz;obtain⟨h1,h2⟩:=ZP I1 r1 ty;exact⟨T,id,pa,slot,nz,h1,h2,zcq rfl (PySem.evalArgs_none (hm pins s1 σ H1 x [] v [] Q I1 r1 .nil q1))⟩
def Wz (pa:PlainAttrs T)(slot:Slot T name id)(nz:typeOf (.builtin id)=pure (.type "method_descriptor"))(hm:MtR X id r)(ho:PE X o to)(ha:PA X (e::es) t)(aj: ~~~(attributeBase o name X.env (eval o X.env)=eval o X.env))(aT: ~~~(((backTo ac (starEach (e::es) X.env)).all (λ x => !x.1)&&(backToKw ac (keywordEach [] X.env)).all (λ x=>x.1.isSome)
  && decide ((e::es).length+([]:List Keyword).length+(if ([]:List Keyword).isEmpty then 0 else 1)<30))=true))(ak: ~~~((apos.endLine==ac.line)=true))(hs: ~~~(starEach (e::es) X.env=(false,eval e X.env)::starEach es X.env))(aq: ~~~((backTo ac (starEach es X.env)).any (·.1)=false)):
 PE X (.Call (.Attribute o name apos) (e::es) [] ac) (tBM X.K T r to t):=by
 intro pins s σ H Q I h;refine wpAny_Call_method_late aj aT ak rfl (B9 (ho pins s σ H _ I h) λ v s1 zz=>?_);obtain⟨x,H1,I1,r1,ty,q1⟩:=zz;obtain⟨h1,h2⟩:=ZP I1 r1 ty;refine⟨T,id,pa,slot,nz,h1,h2,?_⟩;have hA:=ha ac pins s1 σ H1 _ I1 q1;rw[hs] at hA ⊢;refine zcq (by show (false||(backTo ac (starEach es X.env)).any (·.1))=false;rw[aq]<;>rfl) (Calls.evalArgs_plain ?_);exact B9 hA λ us s2 ⟨vs,H2,I2,r2,q2⟩=>hm pins s2 σ H2 x vs v us Q I2 r1 r2 q2
end
abbrev vU (X:Cx)(id:String)(r:V->List V->Hp->VK->Prop):Prop:=
 ∀(pins:List (Addr×Obj)) (s:Shared) (σ:St) (H:Hp) (x:V) (xs:List V) (v:Value) (us:List Value) (Q:VK),Inv X pins σ H s->RelV x v->Vals xs us->r x xs H Q->
  wpAny (model X.prog X.w) X.A (call (.builtin id) (v::us)) (EP X pins σ Q) X.xe s
def Vals.one (h:Vals [x] us):∃u,us=[u]/\RelV x u:=by
 cases h with
 |cons r q=>cases q;exact⟨_,rfl,r⟩
def Vals.two (h:Vals [x,y] us):∃u v,us=[u,v]/\RelV x u/\RelV y v:=by
 cases h with
 |cons r q=>obtain⟨u,rfl,h⟩:=Vals.one q;exact⟨_,_,rfl,r,h⟩
def Vals.zero:∀ {us:List Value},Vals [] us->us=[]
 |_,.nil=>rfl
def Vals.dropLast (h:Vals xs us):Vals xs.dropLast us.dropLast:=by
 induction h with
 |nil=>exact .nil
 |cons r t ih =>
  cases t with
  |nil=>exact .nil
  |cons q t'=>exact .cons r ih
def Vals.rep (h:Vals xs us):∀k:Nat,Vals (zak k xs).flatten (zak k us).flatten
 |0=>.nil
 |k+1=>by
  rw[zc3,zc3,List.flatten_cons,List.flatten_cons];exact Vals.append h (Vals.rep h k)
def Vl {α:Type}(l:List α):l.eraseIdx (l.length-1)=l.dropLast:=by
 induction l with
 |nil=>rfl
 |cons a r ih =>
  cases r with
  |nil=>rfl
  |cons b r =>
   have e:(a::b::r).length-1=((b::r).length-1)+1:=by
    have h1:(a::b::r).length=r.length+2:=rfl;have h2:(b::r).length=r.length+1:=rfl;omega
   rw[e,List.eraseIdx_cons_succ,ih];all_goals rfl
def foldl_rep (aa:List Value):∀(k:Nat) (acc:List Value),
 List.foldl (λ x1 x2=>x1++x2) acc.toArray (zak k aa.toArray)=(acc++(zak k aa).flatten).toArray
 |0,acc=>by simp
 |k+1,acc=>by
  have e:acc.toArray++aa.toArray=(acc++aa).toArray:=by simp
  have e2:(acc++aa)++(zak k aa).flatten=acc++(zak (k+1) aa).flatten:=by
   rw[zc3,List.flatten_cons,zbk]
  rw[<-e2,<-foldl_rep aa k (acc++aa),<-e,zc3,zat]
section
variable {X:Cx}{pins:List (Addr×Obj)}{σ:St}{H:Hp}{s:Shared}{l b:Addr}{xs ys zs:List V}
def Inv.ZR {aa:List Value}(I:Inv X pins σ H s)(hH:H l=some (.lst xs))(e:s.heap.get? l=some {cls:=.type "list",data:=.seq aa.toArray n})(hf:f aa.toArray=its'.toArray)(hv:Vals ys its')(hz:ys.length<=sizeLine):
 Inv X pins σ (upd H l (.lst ys)) {s with heap:=s.heap.update l (Obj.mapSeq f),toks:=t' }:=by
 have q:=PySem.IsL.update e f;rw[hf] at q;refine I.write (x:=l) (e:=l) (by rw[hH];exact trivial) (.inl rfl) (λ b' u hb hu=>(Heap.get?_update_other s.heap (Obj.mapSeq f) (zbl hb)).trans hu) ⟨_,q⟩ ?_;exact⟨hz,its',_,hv,q⟩
def Inv.vV (I:Inv X pins σ H s)(hv:Vals ys aa)(hz:ys.length<=sizeLine):
 Inv X pins σ (upd H s.heap.objs.size (.lst ys)) {s with heap:=s.heap.push {cls:=.type "list",data:=.seq aa.toArray},toks:=t' }:=
 I.laid (λ _ _ q=>zad _ q) (zaf _) ⟨hz,aa,0,hv,zap _ rfl⟩
def Inv.fresh (I:Inv X pins σ H s):H s.heap.objs.size=none:=I.AF.fresh (zaf _)
def Inv.Vm (I:Inv X pins σ H s)(hH:H l=some (.lst xs)):xs.length<=sizeLine/\∃(aa:List Value) (n:Nat),Vals xs aa/\xs.length=aa.length/\s.heap.get? l=some {cls:=.type "list",data:=.seq aa.toArray n}:=by
 obtain⟨z,aa,n,r,e⟩:=I.AF l _ hH;exact⟨z,aa,n,r,r.length,e⟩
def Te (h:n<=sizeLine):zcy n=false:=by
 unfold zcy;exact decide_eq_false (by omega)
end
section
variable {X:Cx}
abbrev jE:V->List V->Hp->VK->Prop:=λ x vs H Q=>∃l xs y,x=.ref l/\vs=[y]/\H l=some (.lst xs)/\xs.length<sizeLine/\Q .Ax (upd H l (.lst (xs++[y])))
def QL:vU X "list.append" jE:=by
 intro pins s σ H x vs v us Q I rx rv h;obtain⟨l,xs,y,rfl,rfl,hH,hz,q⟩:=h;cases rx;obtain⟨u,rfl,ru⟩:=rv.one;obtain⟨z,aa,n,r,hl,e⟩:=I.Vm hH;refine call_meets F.slot_list_append ⟨_,e,rfl⟩ F.entry_list_append (F.args_list_append_2 _ _) (PySem.list_append l aa.toArray n u (by rw[zac];omega)) ⟨e,?_⟩;refine⟨.Ax,_,I.ZR (its':=aa++[u]) hH e (by simp) (r.append (.cons ru .nil)) ?_,rfl,q⟩;rw[zah,zbh];omega
abbrev jF:V->List V->Hp->VK->Prop:=λ x vs H Q=>∃l b xs zs,x=.ref l/\vs=[.ref b]/\H l=some (.lst xs)/\H b=some (.lst zs)/\xs.length+zs.length<=sizeLine/\Q .Ax (upd H l (.lst (xs++zs)))
def XG:vU X "list.extend" jF:=by
 intro pins s σ H x vs v us Q I rx rv h;obtain⟨l,b,xs,zs,rfl,rfl,hH,hB,hz,q⟩:=h;cases rx;obtain⟨u,rfl,ru⟩:=rv.one;cases ru;obtain⟨z,aa,n,r,hl,e⟩:=I.Vm hH;obtain⟨z2,aJ,n2,r2,am,e2⟩:=I.Vm hB;have hsz:aa.toArray.size+aJ.toArray.size<=sizeLine:=by rw[zac,zac];omega
 have bC:¬ (!aa.toArray.isEmpty&&zcy (aa.toArray.size+aJ.toArray.size))=true:=by
  rw[Te hsz,Bool.and_false];exact zaq
 refine call_meets F.slot_list_extend ⟨_,e,rfl⟩ F.entry_list_extend (F.args_list_extend_2 _ _)
  (AutoSeq1.list_extend_list_list_0 l aa.toArray n b aJ.toArray n2 bC (by rw[zac];omega) (by omega)) ⟨e,e2,?_⟩
 refine⟨.Ax,_,I.ZR (its':=aa++aJ) hH e (by simp) (r.append r2) ?_,rfl,q⟩;rw[zah];omega
abbrev aau:V->List V->Hp->VK->Prop:=λ x vs H Q=>∃l xs y,x=.ref l/\vs=[]/\H l=some (.lst xs)/\xs[xs.length-1]?=some y/\Q y (upd H l (.lst xs.dropLast))
def qT:vU X "list.pop" aau:=by
 intro pins s σ H x vs v us Q I rx rv h;obtain⟨l,xs,y,rfl,rfl,hH,hy,q⟩:=h;cases rx;have n4:=rv.zero;subst n4;obtain⟨z,aa,n,r,hl,e⟩:=I.Vm hH;obtain⟨u,hu,ru⟩:=r.get hy;have lw:aa.toArray[aa.toArray.size-1]?=some u:=by
  show aa.toArray[aa.length-1]?=some u;rw[<-Array.getElem?_toList,<-hl];exact hu
 refine call_meets F.slot_list_pop ⟨_,e,rfl⟩ F.entry_list_pop (F.args_list_pop_1 _) (MeetsSeq.list_pop_last l aa.toArray n u lw (by rw[zac];omega)) ⟨e,?_⟩;refine⟨y,_,I.ZR (its':=aa.dropLast) hH e ?_ r.dropLast ?_,ru,q⟩
 ·show aa.toArray.eraseIdxIfInBounds (aa.toArray.size-1)=aa.dropLast.toArray;rw[zac,List.eraseIdxIfInBounds_toArray,Vl]
 ·rw[List.length_dropLast];omega
abbrev qU:V->List V->Hp->VK->Prop:=λ x vs H Q=>∃l xs,x=.ref l/\vs=[]/\H l=some (.lst xs)/\Q .Ax (upd H l (.lst []))
def ZS:vU X "list.clear" qU:=by
 intro pins s σ H x vs v us Q I rx rv h;obtain⟨l,xs,rfl,rfl,hH,q⟩:=h;cases rx;have n4:=rv.zero;subst n4;obtain⟨z,aa,n,r,hl,e⟩:=I.Vm hH;refine call_meets F.slot_list_clear ⟨_,e,rfl⟩ F.entry_list_clear (F.args_list_clear_1 _) (AutoSeq1.list_clear_list_0 l aa.toArray n (by rw[zac];omega)) ⟨e,?_⟩;exact⟨.Ax,_,I.ZR (its':=[]) (ys:=[]) hH e rfl .nil (zba _),rfl,q⟩
abbrev aav:R2:=λ x y H Q=>∃l k xs,x=.ref l/\y=.int k/\H l=some (.lst xs)/\-(2^63)<=k/\k<2^63/\xs.length*k.toNat<=sizeLine/\
 ∀p,H p=none->Q (.ref p) (upd H p (.lst (zak k.toNat xs).flatten))
def len_rep {α:Type}(xs:List α)(k:Nat):(zak k xs).flatten.length=k*xs.length:=by
 induction k with
 |zero=>simp
 |succ k ih=>rw[zc3,List.flatten_cons,zah,ih,Nat.succ_mul,Nat.add_comm]
def qV:Gf X (binaryOp .Mult) aav:=by
 intro pins s σ H x y v u Q I rx ry h;obtain⟨l,k,xs,rfl,rfl,hH,h1,h2,hz,q⟩:=h;cases rx;obtain⟨t,rfl⟩:=ry;obtain⟨z,aa,n,r,hl,e⟩:=I.Vm hH;have hlen:aa.toArray.size*k.toNat<=sizeLine:=by rw[zac,<-hl];exact hz
 have n5:¬ aa.toArray.size*k.toNat > (2^63-1) / 8:=by
  have:(sizeLine:Nat)<=(2^63-1) / 8:=by decide
  omega
 have e8:¬ (!Builtin.List.listFitsIndex k)=true:=by
  rw[fitsIndex_both h1 h2];exact zaq
 have bC:¬ zcy (aa.toArray.size*k.toNat)=true:=by
  rw[Te hlen];exact zaq
 have aU:List.foldl (λ x1 x2=>x1++x2) #[] (zak (if aa.toArray.isEmpty=true then 0 else k.toNat) aa.toArray)=(zak k.toNat aa).flatten.toArray:=by
  have f0:∀m:Nat,List.foldl (λ x1 x2=>x1++x2) #[] (zak m aa.toArray)=(zak m aa).flatten.toArray:=λ m=>by
   have:=foldl_rep aa m [];rw[List.nil_append] at this;exact this
  rw[f0];cases aa with
  |nil=>simp
  |cons a r'=>rw[if_neg (by simp)]
 refine wpAny_binaryOp_repeat_ref (T := "list") (U := "int") (by decide) ⟨_,e,rfl⟩ (λ s'=>typeIs_int s' k t) noFill_list_mul F.fills_int_mul F.slot_int_rmul repeat_list F.slot_int_index.lookup
  (call_meets F.slot_int_rmul (typeIs_int s k t) F.entry_int_rmul (F.args_int_rmul_2 _ _) (int___rmul___int_list k t l aa.toArray n)
   ⟨e,rfl,⟨_,e,rfl⟩,call_meets F.slot_list_mul ⟨_,e,rfl⟩ F.entry_list_mul (F.args_list_mul_2 _ _) (AutoListH.list___mul___list_int_3 l aa.toArray n k t e8 n5 bC) ⟨e,?_⟩⟩)
 rw[aU];exact⟨.ref _,_,I.vV (t':=s.toks) (r.rep k.toNat) (by rw[len_rep,Nat.mul_comm];exact hz),rfl,q _ I.fresh⟩
end
end L2
namespace ue
open PySem PySem.W PySem.Calls PyProof.Rows
def MS:∀(ns:List Int) (vs:List Value),WellAll P h vs (ns.map WData.int)->IntsAre vs ns:=by
 intro ns;induction ns with
 |nil =>
  intro vs w;rw[List.map_nil] at w;cases w;exact .nil
 |cons n ns ih =>
  intro vs w;rw[za6] at w;cases w with
  |cons a b =>
   cases a;exact .cons _ _ (ih _ b)
def XH {l:OpenLaw}(hn:l.most=some n)(c6:l.row.toRowW.claim.pre args=true)(e9:WellAll P h vals args):
 ∃a vs ns,vals=[zb7 a]/\args=[WData.list (ns.map WData.int)]/\h.get? a=some {cls:=.type "list",data:=.seq vs.toArray}/\IntsAre vs ns/\ns.length<=n:=by
 have n6:WShape.hasAll [] args [.list .int]=true:=(pre_splitW c6).1;have hc:l.pre.holds [] {args:=args}=true:=(pre_splitW c6).2;obtain⟨d,r,rfl,h1,h2⟩:=hasAllW_cons n6;obtain rfl:=hasAllW_nil h2;obtain⟨xs,rfl,h3⟩:=hasW_list h1;obtain⟨ns,rfl⟩:=items_int h3;have hlen:ns.length<=n:=by
  unfold OpenLaw.pre at hc;have h4:(WTm.not (.lt (.lit (.int (n:Int))) (.len (.arg 0)))).holds [] {args:=[.list (ns.map .int)]}=true:=by
   have h4:=(holds_andW hc).1;rw[hn] at h4;exact h4
  have h5:=condW_of h4 (w_not (w_lt w_lit (w_len_list (w_arg rfl))));rw[za2] at h5;refine Nat.le_of_not_lt λ q=>?_;have q':(n:Int)<((ns.length:Nat):Int):=by omega
  first
   |(rw[decide_eq_true q'] at h5;exact absurd h5 (by decide))
   |(simp at h5;omega)
 cases e9 with
 |cons w1 w2 =>
  cases w2;cases w1 with
  |list ho a5=>exact⟨_,_,ns,rfl,rfl,ho,MS ns _ a5,hlen⟩
def XI (l:OpenLaw)(args:List WData):l.row.toRowW.claim.post args (.bool true) args=true:=
 postW_of (r:=l.row.toRowW) (X:=(true==true))
  (show WShape.has [] (.bool true) .bool=true by first|rfl|decide|simp[WShape.has,WShape.arms,WShape.armsAll])
  (show (WTm.eq .res (.lit (.bool true))).value [] {args:=args,res:=some (.bool true),after:=args}=some (.bool (true==true)) from w_eq_bool (w_res rfl) w_lit) rfl
end ue
namespace L2
open PySem PySem.Spec PyProof.Rows
def QM:∀ {vs:List Value}{ns:List Int},IntsAre vs ns->Vals (ns.map V.int) vs
 |_,_,.nil=>.nil
 |_,_,.cons n t h=>.cons ⟨t,rfl⟩ (QM h)
variable {w:World}{mg:Str->Option Value}{base:Heap}{X:Cx}{H:Hp}{pins:List (Addr×Obj)}{σ:St}{s:Shared}{A:Around}{E:Value->Shared->Prop}{e tg iter:Expr}{pos:Pos}{td ty:TE}{scope:Scope}{NB:List Str}{μ:List (Option Nat)}{fp:List Addr}{WX:Str->Hp->Prop}
abbrev jG (H:Hp):Prop:=∀b,H b=none\/∃o xs,H b=some (.GW o (.lst xs))
def Tf {K}(KX:K.In s₁.heap)(i9:s₁.heap.Ns mainGlobals mg)(hb:s₁.heap.Ns builtinsNs mb)(wg:∀x:Str,x ≠ "__name__" -> mb x=bootBuiltins x)(n9:s₁.heap.NoLimit)(hg:s₁.gens=#[])(ha:s₁.heap.get? a=some {cls:=.type "list",data:=.seq vs.toArray})(hi:IntsAre vs ns)(hl:ns.length<=sizeLine)(hr:Bm k callerA)(F:∀base:Heap,K.In base->base.Ns mainGlobals mg->Cw P w K mg base CX k fa fd [x] sp)(ja:∀(s:Shared) (u:Value),BindsTo s fd ⟨[u],[]⟩ [(x,u)])(bx:∀H:Hp,jG H->DB K H a (ns.map V.int)->sp [.ref a] H (λ v _=>v=.bl true) λ _ _ _=>False)(jb:∀H e s',CX [] H s₁ (λ _ _ _=>False) e s'->False):
 codeAny (model P w) callerA (.call (.ref fa) ⟨[.ref a],[]⟩) (λ r s'=>r=.ok (.ret (.bool true))/\OldK s₁.heap s'.heap/\s'.os=s₁.os/\AllBare s'.gens) s₁:=by
 have rv:=QM hi;have oa:=hi.length;have core:∀H:Hp,jG H->DB K H a (ns.map V.int)->GX P w H s₁.heap->(∀b,H b≠none->b=a)->(H a≠none->K.lookup a=none)->
  codeAny (model P w) callerA (.call (.ref fa) ⟨[.ref a],[]⟩) (λ r s'=>r=.ok (.ret (.bool true))/\OldK s₁.heap s'.heap/\s'.os=s₁.os/\AllBare s'.gens) s₁:=by
  intro H hO hS AF hA hK;have bt:∀ {b:Addr} {o:Obj},s₁.heap.get? b=some o->H b=none->(RG s₁.heap H).get? b=some o:=λ e n=>Zk e n;have i5:∀ {b:Addr} {o:Obj} {es:Array DictEntry} {ep:Nat},s₁.heap.get? b=some o->o.data=.dict es ep->H b=none:=fun {b o es ep} e d=>by
   cases q:H b with
   |none=>rfl
   |some u =>
    have e':b=a:=hA b (by rw[q];simp);subst e';rw[ha] at e;cases e;have d':Data.seq vs.toArray _=Data.dict es ep:=d;cases d'
  have lx:∀ {b:Addr} {m:Str->Option Value},s₁.heap.Ns b m->(RG s₁.heap H).Ns b m:=fun {b m} ⟨o,es,ep,e,d,r⟩=>⟨o,es,ep,bt e (i5 e d),d,r⟩;have uf:K.In (RG s₁.heap H):=λ b o e=>bt (KX b o e) (by
   cases q:H b with
   |none=>rfl
   |some u =>
    have e':b=a:=hA b (by rw[q];simp);subst e';rw[hK (by rw[q];simp)] at e;cases e)
  have hM:Mod K mg (RG s₁.heap H):=⟨uf,lx i9,⟨mb,lx hb,wg⟩,let ⟨mc,h1,h2⟩:=n9;⟨mc,lx h1,h2⟩⟩;have e0:Vi P w K mg (RG s₁.heap H) callerA [] s₁ H:=⟨rfl,hM,λ b o e=>iK e,Nat.le_of_eq (Xx _ _),trivial,λ b hb=>absurd (show b∈([]:List Addr) from hb) (by simp),AF,.of_eq hg⟩;refine codeAny_mono ((F _ uf (lx i9)).run callerA [] s₁ H ⟨[.ref a],[]⟩ [.ref a] [.ref a] _ _ hr e0 (ja s₁ (.ref a)) (.cons rfl .nil) (bx H hO hS)) λ r s' h=>?_;cases r with
  |error e=>exact (jb H e s' h).elim
  |ok fl =>
   cases fl with
   |next|brk|cont=>exact zc8 h
   |ret u =>
    obtain⟨v,H',os,bare,un,fb,r',q⟩:=h;have q':v=.bl true:=q;subst q';obtain rfl:u=Value.bool true:=r';refine⟨rfl,OldK.of_keep λ b o e=>?_,os,bare⟩;cases q:H b with
    |none=>exact un.keep b o e q (by intro z;exact absurd (show b∈([]:List Addr) from z) (by simp)) (by simp)
    |some u =>
     rcases hO b with z|⟨ob,xs,z⟩
     ·rw[q] at z;cases z
     ·have z2:=un.MQ b ob _ z;obtain⟨e1,_⟩:=AF b _ z;obtain⟨e2,_⟩:=fb b _ z2;rw[e] at e1;cases e1;exact e2
 cases hk:K.lookup a with
 |some o =>
  have e:=KX a o hk;rw[ha] at e;cases e;refine core (λ _=>none) (λ _=>.inl rfl) (.inr ⟨_,vs.toArray,_,hk,rfl,rfl,rfl,by rw[zac,oa];exact hl,by simpa using rv⟩) (λ b u z=>by have z':(none:Option HO)=some u:=z;cases z') (λ b z=>absurd rfl z) λ z=>absurd rfl z
 |none =>
  refine core (λ b=>if b=a then some (.GW {cls:=.type "list",data:=.seq vs.toArray} (.lst (ns.map V.int))) else none) (λ b=>?_) (.inl (.inr ⟨{cls:=.type "list",data:=.seq vs.toArray},if_pos rfl⟩)) (λ b u z=>?_) (λ b z=>?_) λ _=>hk
  ·by_cases hb:b=a
   ·exact .inr ⟨_,_,if_pos hb⟩
   ·exact .inl (if_neg hb)
  ·by_cases hb:b=a
   ·have z':=(if_pos hb).symm.trans z;cases z';subst hb;exact⟨ha,by rw[za2];exact hl,vs,_,rv,ha⟩
   ·have z':=(if_neg hb).symm.trans z;cases z'
  ·by_cases hb:b=a
   ·exact hb
   ·exact absurd (if_neg hb) z
noncomputable abbrev jH:Wt:=λ _ _ _ _ _ _=>False
noncomputable abbrev E0:XK:=λ _ _ _=>False
structure Ze (K:za1)(x qual:Str)(st:Stmt)(f:Addr)(fd:FuncData):Prop where
 ex:∃(oc:Value) (od:Option Addr) (kV doc pm:Value) (an:Option Addr) (AX ct:Value) (Ta:Array (Option Value)),
  fd=zb6 x qual (B3 st) (Az st) (A3 st) .none kV doc pm an AX ct/\K.lookup f=some ⟨oc,od,.func fd,Ta⟩/\zc2 K AX qual=true
 kp:zbd K (.ref f)=true
section
variable {P:Program}{K:za1}
def Ze.ok {st}(F:Ze K x qual st f fd)(S:Ac N ps (A3 st))(len:∀vs H Q E,sp vs H Q E->vs.length=ps.length)(bB:∀(AX:Value) (A:Around) (outer:List Env) (s:Shared) (H:Hp) (vs:List V) (Q:VK) (E:XK),Bm k (A.deeper (envOfC qual (A3 st) s.heap.objs.size f AX))->sp vs H Q E->
  ∃t,Wq (T7 jH P w K mg base N qual (A3 st) f AX A outer s H E).vB (Az st) t/\t {nx:=λ _ H'=>Q .Ax H',rt:=Q} (start N vs) H):Cw P w K mg base jH (k+1) f fd ps sp:=by
 obtain⟨oc,od,kV,doc,pm,an,AX,ct,Ta,rfl,lk,aO⟩:=F.ex;refine T9 lk aO S len λ A outer s H vs Q E hr bx=>?_;obtain⟨t,h,q⟩:=bB AX A outer s H vs Q E hr bx;exact⟨t,h.vB,q⟩
def Ze.binds {st}(F:Ze K x qual st f fd)(h:∀(kV doc pm:Value) (an:Option Addr) (AX ct:Value) (us:List Value),us.length=ps.length->bindArgs (zb6 x qual (B3 st) (Az st) (A3 st) .none kV doc pm an AX ct) ⟨us,[]⟩=pure (ps.zip us)):Binds K fd ps []:=by
 obtain⟨oc,od,kV,doc,pm,an,AX,ct,Ta,rfl,lk,aO⟩:=F.ex;exact .all (h kV doc pm an AX ct)
def Vn {st}{kV}(l:K.lookup f=some ⟨oc,od,.func (zb6 x qual (B3 st) (Az st) (A3 st) .none kV doc pm an AX ct),Ta⟩)(c:zc2 K AX qual=true)(k:zbd K (.ref f)=true):Ze K x qual st f (zb6 x qual (B3 st) (Az st) (A3 st) .none kV doc pm an AX ct):=⟨⟨oc,od,kV,doc,pm,an,AX,ct,Ta,rfl,l,c⟩,k⟩
end
def AA (h:n<=1000):n<sizeLine:=Nat.lt_of_le_of_lt h (by decide)
def pv (i:Nat)(hN: ~~~(X.N[i]?=some x))(hv:zV X.env.scope x:=by first | exact zb0 rfl | exact Or.inr (zb0 rfl) | exact Or.inr (Or.inr rfl))(hd:(x==("__debug__" : Str))=false:=by decide)(aO:(x==("__classdict__" : Str))=false:=by decide):PE X (.Name x pos) (Qf i):=pK hN hv hd aO
abbrev Aj (H H':Hp):Prop:=∀b o,H b=some o->H' b=some o
def Aj.refl (H:Hp):Aj H H:=λ _ _ h=>h
def Aj.trans (a:Aj H H1)(b:Aj H1 H2):Aj H H2:=λ c o h=>b c o (a c o h)
def Aj.seq {K}(e:Aj H H')(h:DB K H a xs):DB K H' a xs:=by
 rcases h with (h|⟨o,h⟩)|h
 ·exact .inl (.inl (e _ _ h))
 ·exact .inl (.inr ⟨o,e _ _ h⟩)
 ·exact .inr h
section
variable {κ:Type} [DecidableEq κ]
abbrev Qk (kvs:List (κ×V))(k:κ):Option V:=(kvs.find? λ kv=>decide (kv.1=k)).map (·.2)
abbrev putK (kvs:List (κ×V))(k:κ)(v:V):List (κ×V):=
 if (kvs.any λ kv=>decide (kv.1=k))=true then kvs.map (λ kv=>if kv.1=k then (kv.1,v) else kv) else kvs++[(k,v)]
def NT {p:κ×V}{r:List (κ×V)}{k:κ}(e:p.1=k):Qk (p::r) k=some p.2:=by simp[Qk,zcu,e]
def NU {p:κ×V}{r:List (κ×V)}{k:κ}(e:¬ p.1=k):Qk (p::r) k=Qk r k:=by simp[Qk,zcu,e]
def Tg (k:κ):∀kvs:List (κ×V),(kvs.any λ kv=>decide (kv.1=k))=(Qk kvs k).isSome
 |[]=>rfl
 |p::r=>by
  rw[zd1];by_cases e:p.1=k
  ·simp only[NT e,decide_eq_true e,Bool.true_or,Option.isSome_some]
  ·rw[NU e,decide_eq_false e,Bool.false_or];exact Tg k r
def DC (kvs:List (κ×V))(k:κ)(v:V):(putK kvs k v).length<=kvs.length+1:=by
 unfold putK;split
 ·rw[za2];omega
 ·rw[zah,za8,List.length_nil];omega
def Hn.FH (r:Hn o u):o.isSome=u.isSome:=by
 cases o with
 |none=>cases u with
  |none=>rfl
  |some _=>exact (show False from r).elim
 |some _=>cases u with
  |none=>exact (show False from r).elim
  |some _=>rfl
def Hn.getD (r:Hn o u)(rd:RelV d d'):RelV (o.getD d) (u.getD d'):=by
 cases o with
 |none=>cases u with
  |none=>exact rd
  |some _=>exact (show False from r).elim
 |some _=>cases u with
  |none=>exact (show False from r).elim
  |some _=>exact r
def KV.val {kvs:List (κ×V)}{vs:List (κ×Value)}(r:KV kvs vs)(k:κ):Hn (Qk kvs k) (valueAt vs k):=by
 unfold KV at r;induction r with
 |nil=>exact zcp
 | @cons p q ps qs h t ih =>
  obtain⟨h1,h2⟩:=h;by_cases e:p.1=k
  ·have e':q.1=k:=h1.symm.trans e;have b:valueAt (q::qs) k=some q.2:=by simp[valueAt,zcu,e']
   rw[NT e,b];exact h2
  ·have e':¬ q.1=k:=λ z=>e (h1.trans z);have b:valueAt (q::qs) k=valueAt qs k:=by simp[valueAt,zcu,e']
   rw[NU e,b];exact ih
def KV.any {kvs:List (κ×V)}{vs:List (κ×Value)}(r:KV kvs vs)(k:κ):(kvs.any λ kv=>decide (kv.1=k))=vs.any λ kv=>decide (kv.1=k):=by
 unfold KV at r;induction r with
 |nil=>rfl
 |cons h t ih=>rw[zd1,zd1,ih,h.1]
def KV.qW {kvs:List (κ×V)}{vs:List (κ×Value)}(r:KV kvs vs)(k:κ){y:V}{u:Value}(ry:RelV y u):
 KV (kvs.map λ kv=>if kv.1=k then (kv.1,y) else kv) (vs.map λ kv=>if kv.1=k then (kv.1,u) else kv):=by
 unfold KV at r ⊢;induction r with
 |nil=>exact .nil
 | @cons p q ps qs h t ih =>
  rw[za6,za6];refine .cons ?_ ih;obtain⟨h1,h2⟩:=h;by_cases e:p.1=k
  ·rw[if_pos e,if_pos (h1.symm.trans e)];exact⟨h1,ry⟩
  ·rw[if_neg e,if_neg (λ z=>e (h1.trans z))];exact⟨h1,h2⟩
def KV.put {kvs:List (κ×V)}{vs:List (κ×Value)}(r:KV kvs vs)(k:κ){y:V}{u:Value}(ry:RelV y u):KV (putK kvs k y) (stored vs k u):=by
 unfold putK stored;rw[r.any k];by_cases e:(vs.any λ kv=>decide (kv.1=k))=true
 ·rw[if_pos e,if_pos e];exact r.qW k ry
 ·rw[if_neg e,if_neg e];exact Paired.snoc r ⟨rfl,ry⟩
def KV.length {kvs:List (κ×V)}{vs:List (κ×Value)}(r:KV kvs vs):kvs.length=vs.length:=zct r
end
def Kd (r:RelV (kV k) u):(AL P w).is k u=true:=by
 cases k with
 |inl i=>obtain⟨t,e⟩:=(show ∃t,u=Value.int i t from r);subst e;exact SU P w i t
 |inr x=>obtain⟨t,e⟩:=(show ∃t,u=Value.str x t from r);subst e;exact SV P w x t
def QN:∀ {ks:List Key}{us:List Value},Vals (ks.map kV) us->ItemsAre (AL P w) ks us
 |[],_,r=>by rw[List.map_nil] at r;cases r;exact .nil
 |k::ks,_,r=>by
  rw[za6] at r;cases r with
  |cons h t=>exact .cons (Kd h) (QN t)
noncomputable abbrev KT (H:Hp):List (List Key×V)->List (List Key×Addr×Value)->Prop:=Paired λ p q=>p.1=q.1/\H q.2.1=some (.tup (p.1.map kV))/\RelV p.2 q.2.2
def KT.val (r:KT H kvs xs)(k:List Key):Hn (Qk kvs k) ((atKey xs k).map (·.2)):=by
 induction r with
 |nil=>exact zcp
 | @cons p q ps qs h t ih =>
  obtain⟨h1,_,h2⟩:=h;by_cases e:p.1=k
  ·have e':q.1=k:=h1.symm.trans e;have b:atKey (q::qs) k=some q.2:=by simp[atKey,zcu,e']
   rw[NT e,b];exact h2
  ·have e':¬ q.1=k:=λ z=>e (h1.trans z);have b:atKey (q::qs) k=atKey qs k:=by simp[atKey,zcu,e']
   rw[NU e,b];exact ih
def KT.qW (r:KT H kvs xs)(k:List Key)(ry:RelV y u):
 KT H (kvs.map λ kv=>if kv.1=k then (kv.1,y) else kv) (xs.map (putAt k u)):=by
 induction r with
 |nil=>exact .nil
 | @cons p q ps qs h t ih =>
  rw[za6,za6];refine .cons ?_ ih;obtain⟨h1,h2,h3⟩:=h;unfold putAt;by_cases e:p.1=k
  ·rw[if_pos e,if_pos (h1.symm.trans e)];exact⟨h1,h2,ry⟩
  ·rw[if_neg e,if_neg (λ z=>e (h1.trans z))];exact⟨h1,h2,h3⟩
def KT.put (r:KT H kvs xs)(k:List Key)(hb:H b=some (.tup (k.map kV)))(ry:RelV y u):
 KT H (putK kvs k y) (storedH xs k b u):=by
 have e:(kvs.any λ kv=>decide (kv.1=k))=(atKey xs k).isSome:=by
  rw[Tg,(r.val k).FH,Option.isSome_map]
 unfold putK storedH;rw[e];by_cases q:(atKey xs k).isSome=true
 ·rw[if_pos q,if_pos q];exact r.qW k ry
 ·rw[if_neg q,if_neg q];exact Paired.snoc r ⟨rfl,hb,ry⟩
def KT.keeps (r:KT H kvs xs)(ht:∀b ys,H b=some (.tup ys)->H' b=some (.tup ys)):KT H' kvs xs:=
 Paired.pH r λ _ _ z=>⟨z.1,ht _ _ z.2.1,z.2.2⟩
section
variable {P:Program}{h:Heap}{a:Addr}
def nN (ok:GX P w H h)(e:Rd H a u):Bk P w H h a u:=e.ok ok
def Ji (ok:GX P w H h)(e:Rd H a (.dK kvs)):kvs.length<=sizeLine/\(a==sysModules)=false/\∃vs,KV kvs vs/\h.DictOf (AL P w) a vs:=
 show Bk P w H h a (.dK kvs) from nN ok e
def nO (ok:GX P w H h)(e:H a=some (.dK kvs)):kvs.length<=sizeLine/\(a==sysModules)=false/\∃vs,KV kvs vs/\h.DictOf (AL P w) a vs:=Ji ok (.inl e)
def Hz (ok:GX P w H h)(e:H a=some (.tup (ks.map kV))):(tupleKind (AL P w)).is h ks a:=by
 obtain⟨_,aa,r,o,h1,h2,n,h3⟩:=(show Bk P w H h a (.tup (ks.map kV)) from ok a _ e);exact⟨o,aa.toArray,n,h1,h2,h3,by simpa using QN r⟩
def Ml (ok:GX P w H h)(e:Rd H a (.dT kvs)):kvs.length<=sizeLine/\(a==sysModules)=false/\
 ∃xs,KT H kvs xs/\h.DictOfH (tupleKind (AL P w)) a xs:=by
 obtain⟨z,y,xs,r,o,es,ep,h1,h2,h3,h4,h5⟩:=(show Bk P w H h a (.dT kvs) from nN ok e);refine⟨z,y,xs,r,o,es,ep,h1,h2,h3,h4,λ x hx=>?_,h5⟩;have all:∀ {l:List (List Key×V)} {m:List (List Key×Addr×Value)},KT H l m->∀x∈m,(tupleKind (AL P w)).is h x.1 x.2.1:=by
  intro l m q;induction q with
  |nil=>intro x hx;exact nomatch hx
  | @cons p q ps qs hq t ih =>
   intro x hx;rcases zab.mp hx with e|hx
   ·subst e;exact Hz ok (by rw[<-hq.1];exact hq.2.1)
   ·exact ih x hx
 exact all r x hx
def vW (ok:GX P w H h)(e:H a=some (.dT kvs)):kvs.length<=sizeLine/\(a==sysModules)=false/\
 ∃xs,KT H kvs xs/\h.DictOfH (tupleKind (AL P w)) a xs:=Ml ok (.inl e)
end
abbrev NV (H:Hp)(a:Addr)(y:V)(r:Option V):Prop:=
 (∃kvs k,Rd H a (.dK kvs)/\y=kV k/\r=Qk kvs k)\/∃kvs k b,Rd H a (.dT kvs)/\y=.ref b/\H b=some (.tup (k.map kV))/\r=Qk kvs k
abbrev vX (H:Hp)(a:Addr)(y v:V)(H':Hp):Prop:=
 (∃kvs k,H a=some (.dK kvs)/\y=kV k/\kvs.length<sizeLine/\H'=upd H a (.dK (putK kvs k v))) \/
 ∃kvs k b,H a=some (.dT kvs)/\y=.ref b/\H b=some (.tup (k.map kV))/\kvs.length<sizeLine/\H'=upd H a (.dT (putK kvs k v))
section
variable {a:Addr}{y v:V}{u r:Value}{o:Option V}
def Inv.big (I:Inv X pins σ H s):sysModules<s.heap.objs.size:=by
 have h:mainGlobals<s.heap.objs.size:=(I.mod.glob.keeps I.bk).lt;exact Nat.lt_trans (by decide) h
def XJ (hu:A.units+1<cLine)(I:Inv X pins σ H s)(g:NV H a y (some v))(ry:RelV y u)(h:∀w' s',Inv X pins σ H s'->RelV v w'->Q w' s'):
 wpAny (model X.prog X.w) A (getItem (.ref a) u) Q E s:=by
 rcases g with ⟨kvs,k,e,ey,l⟩|⟨kvs,k,b,e,ey,eb,l⟩
 ·subst ey;obtain⟨z,hd,vs,rel,dd⟩:=Ji I.AF e;obtain⟨w',hw,ba⟩:=Hn.some_of (v:=v) (o:=valueAt vs k) (by rw[l];exact rel.val k);exact wpAny_getItem_of (Kd ry) dd.mapOf hw (h w' _ (I.tok _) ba)
 ·subst ey;cases (show u=zb7 b from ry);obtain⟨z,hd,xs,rel,dd⟩:=Ml I.AF e;obtain⟨w',hw,ba⟩:=Hn.some_of (v:=v) (o:=(atKey xs k).map (·.2)) (by rw[l];exact rel.val k);obtain⟨p,hp,wj⟩:=zce.mp hw;refine wpAny_getItem_heap (tupleKind_room_in1 hu) (Hz I.AF eb) dd hp ?_;rw[wj];exact h w' _ (I.tok _) ba
def aaw (hu:A.units+1<cLine)(I:Inv X pins σ H s)(g:NV H a y o)(ry:RelV y u)(h:∀s',Inv X pins σ H s'->Q (.bool o.isSome) s'):
 wpAny (model X.prog X.w) A (compareOp .In u (.ref a)) Q E s:=by
 rcases g with ⟨kvs,k,e,ey,l⟩|⟨kvs,k,b,e,ey,eb,l⟩
 ·subst ey;obtain⟨z,hd,vs,rel,dd⟩:=Ji I.AF e;refine wpAny_in_of (Kd ry) hd dd.mapOf ?_;rw[<-(rel.val k).FH,<-l];exact h _ (I.tok _)
 ·subst ey;cases (show u=zb7 b from ry);obtain⟨z,hd,xs,rel,dd⟩:=Ml I.AF e;refine wpAny_in_heap (tupleKind_room_in1 hu) (Hz I.AF eb) hd dd ?_;have q:=(rel.val k).FH;rw[Option.isSome_map] at q;rw[<-q,<-l];exact h _ (I.tok _)
def jI (hu:A.units+1<cLine)(I:Inv X pins σ H s)(g:NV H a y o)(ry:RelV y u)(h:∀s',Inv X pins σ H s'->Q (.bool (!o.isSome)) s'):
 wpAny (model X.prog X.w) A (compareOp .NotIn u (.ref a)) Q E s:=by
 rcases g with ⟨kvs,k,e,ey,l⟩|⟨kvs,k,b,e,ey,eb,l⟩
 ·subst ey;obtain⟨z,hd,vs,rel,dd⟩:=Ji I.AF e;refine wpAny_notIn_of (Kd ry) hd dd.mapOf ?_;rw[<-(rel.val k).FH,<-l];exact h _ (I.tok _)
 ·subst ey;cases (show u=zb7 b from ry);obtain⟨z,hd,xs,rel,dd⟩:=Ml I.AF e;refine wpAny_notIn_heap (tupleKind_room_in1 hu) (Hz I.AF eb) hd dd ?_;have q:=(rel.val k).FH;rw[Option.isSome_map] at q;rw[<-q,<-l];exact h _ (I.tok _)
def RP (I:Inv X pins σ H s)(mu:uT (H a))(hs:zcv a s.heap h')(he:∃q,h'.get? a=some q)(new:Bk X.prog X.w (upd H a ob) h' a ob):
 Inv X pins σ (upd H a ob) {s with heap:=h',toks:=t' }:=
 I.write (x:=a) (e:=a) mu (.inl rfl) (λ b q hb z=>(hs.2 b hb).trans z) he new
def ZT (z:kvs.length<=sizeLine)(hd:(a==sysModules)=false)(rel:KV kvs vs)(dd:h'.DictOf (AL P w) a vs):
 Bk P w H' h' a (.dK kvs):=⟨z,hd,vs,rel,dd⟩
def XM (hu:A.units+1<cLine)(I:Inv X pins σ H s)(g:vX H a y v H')(ry:RelV y u)(rv:RelV v r)(h:∀s',Inv X pins σ H' s'->Q () s'):
 wpAny (model X.prog X.w) A (setItem (.ref a) u r) Q E s:=by
 rcases g with ⟨kvs,k,e,ey,l,eH⟩|⟨kvs,k,b,e,ey,eb,l,eH⟩
 ·subst ey eH;obtain⟨z,hd,vs,rel,dd⟩:=nO I.AF e;have hz:vs.length<=sizeLine:=by rw[<-rel.length];exact z
  have hl:(putK kvs k v).length<=sizeLine:=by have:=DC kvs k v;omega
  refine wpAny_setItem_pairs (hsz:=hz) (Kd ry) dd λ h' fc hs=>h _ ?_;have he:∃q,h'.get? a=some q:=let ⟨q,_,_,hq,_⟩:=fc;⟨q,hq⟩;exact RP I (by rw[e];exact zcp) hs he (ZT hl hd (rel.put k rv) fc)
 ·subst ey eH;cases (show u=zb7 b from ry);obtain⟨z,hd,xs,rel,dd⟩:=vW I.AF e;have hz:xs.length<=sizeLine:=by rw[<-zct rel];exact z
  have hl:(putK kvs k v).length<=sizeLine:=by have:=DC kvs k v;omega
  refine wpAny_setItem_heap (hsz:=hz) (tupleKind_room_in1 hu) (Hz I.AF eb) dd λ h' fc hs=>h _ ?_;obtain⟨q,es,ep,hq,h2,h3,h4,_,h5⟩:=fc;refine RP I (by rw[e];exact zcp) hs ⟨q,hq⟩ ⟨hl,hd,_,(rel.put k eb rv).keeps λ c ys ec=>?_,q,es,ep,hq,h2,h3,h4,h5⟩;rw[Ai (uS ec e (λ z=>nomatch z))];exact ec
end
def Th (I:Inv X pins σ H s)(g:NV H a y o):s.TypeIs (.ref a) "dict" := by
 rcases g with ⟨kvs,k,e,_,_⟩|⟨kvs,k,b,e,_,_,_⟩
 ·obtain⟨_,_,vs,_,dd⟩:=Ji I.AF e;exact dd.typeIs
 ·obtain⟨_,_,xs,_,dd⟩:=Ml I.AF e;exact dd.typeIs
abbrev vY (td ty tv:TE):TS:=λ D σ H=>tv σ H λ v H1=>td σ H1 λ x H2=>ty σ H2 λ y H3=>∃a H4,x=.ref a/\vX H3 a y v H4/\D.nx σ H4
section
variable {o i value:Expr}{pos' aS:Pos}{tv:TE}
def jJ (hu:X.A.units+1<cLine)(ho:PE X o td)(hi:PE X i ty)(hv:PE X value tv)(hs:swapsWith value (some (.Subscript o i pos')) pos.line X.env=pure false):
 PS X (.Assign [.Subscript o i pos'] value pos) (vY td ty tv):=by
 intro pins s σ H D I h;refine wpAny_Assign_Subscript (B9 (hv pins s σ H _ I h) λ r s1 ⟨v,H1,I1,rv,q1⟩=>B9 (ho pins s1 σ H1 _ I1 q1) λ u s2 ⟨x,H2,I2,rx,q2⟩=>B9 (hi pins s2 σ H2 _ I2 q2) λ iv s3 zz=>?_) hs;obtain⟨y,H3,I3,ry,a,H4,ex,g,q3⟩:=zz;subst ex;obtain rfl:u=zb7 a:=rx;exact XM hu I3 g ry rv λ s4 I4=>⟨σ,H4,I4,q3⟩
end
def Ti (h:Heap)(hb:sysModules<h.objs.size):Bk P w H (h.push {cls:=.type "dict",data:=.dict #[]}) h.objs.size (.dK []):=
 ⟨zba _,beq_eq_false_iff_ne.mpr (zbl (zax hb)),[],.nil,Heap.DictOf.new h⟩
def ZU (h:Heap)(hb:sysModules<h.objs.size):Bk P w H (h.push {cls:=.type "dict",data:=.dict #[]}) h.objs.size (.dT []):=
 ⟨zba _,beq_eq_false_iff_ne.mpr (zbl (zax hb)),[],.nil,_,#[],0,zap _ rfl,⟨rfl,rfl,rfl⟩,rfl,rfl,zbr⟩
abbrev qX:TE:=λ _ H Q=>∀p,H p=none->Q (.ref p) (upd H p (.dK []))
abbrev qY:TE:=λ _ H Q=>∀p,H p=none->Q (.ref p) (upd H p (.dT []))
def ZV:PE X (.Dict [] [] pos) qX:=λ pins s σ H Q I h =>
 wpAny_Dict_empty ⟨.ref s.heap.objs.size,_,I.laid (a:=s.heap.objs.size) (o:=.dK []) (t':=s.toks) (λ _ _ q=>zad _ q) (zaf _) (Ti s.heap I.big),rfl,h _ (I.AF.fresh (zaf _))⟩
def ZW:PE X (.Dict [] [] pos) qY:=λ pins s σ H Q I h =>
 wpAny_Dict_empty ⟨.ref s.heap.objs.size,_,I.laid (a:=s.heap.objs.size) (o:=.dT []) (t':=s.toks) (λ _ _ q=>zad _ q) (zaf _) (ZU s.heap I.big),rfl,h _ (I.AF.fresh (zaf _))⟩
abbrev Vo:List (TE×TE)->St->Hp->(List (V×V)->Hp->Prop)->Prop
 |[],_,H,Q=>Q [] H
 |(tk,tv)::r,σ,H,Q=>tk σ H λ x H1=>tv σ H1 λ y H2=>Vo r σ H2 λ ps H3=>Q ((x,y)::ps) H3
noncomputable abbrev VV:List (V×V)->List (Value×Value)->Prop:=Paired λ p q=>RelV p.1 q.1/\RelV p.2 q.2
abbrev zA (X:Cx)(pos:Pos)(keys:List (Option Expr))(values:List Expr)(c7:List (TE×TE)):Prop:=
 ∀(pins:List (Addr×Obj)) (s:Shared) (σ:St) (H:Hp) (Q:List (V×V)->Hp->Prop),Inv X pins σ H s->Vo c7 σ H Q->
  wpAny (model X.prog X.w) X.A (evalPairs (pairTrees keys values X.env pos)) (λ vs s'=>∃ps H',Inv X pins σ H' s'/\VV ps vs/\Q ps H') X.xe s
def jK:zA X pos [] [] []:=λ pins s σ H Q I h=>pairTrees_nil_walk ⟨[],H,I,.nil,h⟩
def ZX (hk:PE X k tk)(hv:PE X v tv)(hr:zA X pos ks vs c7):
 zA X pos (some k::ks) (v::vs) ((tk,tv)::c7):=λ pins s σ H Q I h =>
 pairTrees_cons_walk (B9 (hk pins s σ H _ I h) λ u s1 ⟨x,H1,I1,rx,q1⟩=>B9 (hv pins s1 σ H1 _ I1 q1) λ w2 s2 ⟨y,H2,I2,ry,q2⟩ =>
  B9 (hr pins s2 σ H2 _ I2 q2) λ ws s3 ⟨ps,H3,I3,rel,q3⟩=>⟨(x,y)::ps,H3,I3,.cons ⟨rx,ry⟩ rel,q3⟩)
abbrev HA (kvs more:List (Key×V)):List (Key×V):=more.foldl (λ acc kv=>putK acc kv.1 kv.2) kvs
def KV.merge:∀ {more:List (Key×V)}{rs:List (Key×Value)}{kvs:List (Key×V)}{vs:List (Key×Value)},KV more rs->KV kvs vs->KV (HA kvs more) (merged vs rs):=by
 intro more rs kvs vs r;unfold KV at r;induction r generalizing kvs vs with
 |nil=>intro q;exact q
 | @cons p q ps qs h t ih =>
  intro r0;have e:KV (putK kvs p.1 p.2) (stored vs q.1 q.2):=by
   have:=r0.put p.1 h.2;rw[<-h.1];exact this
  exact ih e
def Jj:∀(more kvs:List (Key×V)),(HA kvs more).length<=kvs.length+more.length
 |[],kvs=>by show kvs.length<=kvs.length+0;omega
 |p::r,kvs=>by
  have h1:=Jj r (putK kvs p.1 p.2);have h2:=DC kvs p.1 p.2;show (HA (putK kvs p.1 p.2) r).length<=_;rw[za8];omega
def NW {P:Program}{w:World}:∀ {kvs:List (Key×V)}{ws:List (Value×Value)},VV (kvs.map λ kv=>(kV kv.1,kv.2)) ws->∃rs,Carries (AL P w) ws rs/\KV kvs rs
 |[],_,r=>by rw[List.map_nil] at r;cases r;exact⟨[],zcp,.nil⟩
 |p::kvs,_,r=>by
  rw[za6] at r;cases r with
  | @cons a b as bs h t =>
   obtain⟨rs,c,q⟩:=NW (P:=P) (w:=w) t;obtain⟨b1,b2⟩:=b;exact⟨(p.1,b2)::rs,⟨Kd h.1,rfl,c⟩,.cons ⟨rfl,h.2⟩ q⟩
abbrev vZ (c7:List (TE×TE)):TE:=λ σ H Q=>∀p,H p=none->Vo c7 σ (upd H p (.dK [])) λ ps H2=>H2 p=some (.dK [])/\∃kvs:List (Key×V),ps=kvs.map (λ kv=>(kV kv.1,kv.2))/\kvs.length<=15/\Q (.ref p) (upd H2 p (.dK (HA [] kvs)))
def jL (h:zA X pos keys values c7)(a5:keys.all (·.isSome)=true)(hl:keys.length=values.length)(h0:keys≠[])(wk:keys.length<=15):PE X (.Dict keys values pos) (vZ c7):=by
 intro pins s σ H Q I q;have hn:=I.AF.fresh (zaf s.heap.objs.size);have I1:=I.laid (a:=s.heap.objs.size) (o:=.dK []) (h':=s.heap.push {cls:=.type "dict",data:=.dict #[]}) (t':=s.toks) (λ _ _ q=>zad _ q) (zaf _) (Ti s.heap I.big);refine wpAny_Dict_walk (knd:=AL X.prog X.w) a5 hl h0 wk (B9 (h pins _ σ _ _ I1 (q _ hn)) λ ws s2 zz=>?_);obtain⟨ps,H2,I2,rel,e,kvs,ep,lk,q2⟩:=zz;subst ep;obtain⟨rs,c,rk⟩:=NW (P:=X.prog) (w:=X.w) rel;obtain⟨z,hd,ug,r0,dd⟩:=nO I2.AF e;cases r0;refine⟨rs,c,dd,λ h' fc hs=>⟨.ref s.heap.objs.size,_,?_,rfl,q2⟩⟩;have hz:(HA [] kvs).length<=sizeLine:=by
  have h1:=Jj kvs [];rw[List.length_nil] at h1;rw[sizeLine_eq];omega
 have he:∃q,h'.get? s.heap.objs.size=some q:=let ⟨q,_,_,hq,_⟩:=fc;⟨q,hq⟩;exact RP I2 (by rw[e];exact zcp) hs he (ZT hz hd (rk.merge .nil) fc)
structure M1 (X:Cx)(o:Expr)(m:Str)(apos:Pos)(e:Expr)(ac:Pos):Prop where
 base:attributeBase o m X.env (eval o X.env)=eval o X.env
 few:((backTo ac (starEach [e] X.env)).all (λ x => !x.1)&&(backToKw ac (keywordEach [] X.env)).all (λ x=>x.1.isSome)
  && decide (([e]:List Expr).length+([]:List Keyword).length+(if ([]:List Keyword).isEmpty then 0 else 1)<30))=true
 line:(apos.endLine==ac.line)=true
 ZY:backTo ac (starEach [e] X.env)=[(false,eval e X.env)]
structure M2 (X:Cx)(o:Expr)(m:Str)(apos:Pos)(e f:Expr)(ac:Pos):Prop where
 base:attributeBase o m X.env (eval o X.env)=eval o X.env
 few:((backTo ac (starEach [e,f] X.env)).all (λ x => !x.1)&&(backToKw ac (keywordEach [] X.env)).all (λ x=>x.1.isSome)
  && decide (([e,f]:List Expr).length+([]:List Keyword).length+(if ([]:List Keyword).isEmpty then 0 else 1)<30))=true
 line:(apos.endLine==ac.line)=true
 ZY:backTo ac (starEach [e,f] X.env)=[(false,eval e X.env),(false,eval f X.env)]
abbrev zB (H:Hp)(a:Addr):Prop:=(∃kvs,Rd H a (.dK kvs))\/∃kvs,Rd H a (.dT kvs)
def RQ (I:Inv X pins σ H s)(d:zB H a):
 s.TypeIs (.ref a) "dict" /\ (∀b,zb7 a=.ref b->∃ob,s.heap.get? b=some ob/\ob.dict=none)/\(a==sysModules)=false:=by
 rcases d with ⟨kvs,e⟩|⟨kvs,e⟩
 ·obtain⟨_,hd,vs,_,dd⟩:=Ji I.AF e;refine⟨dd.typeIs,λ b q=>?_,hd⟩;cases q;obtain⟨ob,_,_,h1,h2,_⟩:=dd;exact⟨ob,h1,h2.2.1⟩
 ·obtain⟨_,hd,xs,_,dd⟩:=Ml I.AF e;refine⟨dd.typeIs,λ b q=>?_,hd⟩;cases q;obtain⟨ob,_,_,h1,h2,_⟩:=dd;exact⟨ob,h1,h2.2.1⟩
section
variable {a:Addr}{y d:V}{u r:Value}{o:Option V}
def qZ (hu:A.units+1<cLine)(I:Inv X pins σ H s)(g:NV H a y o)(ry:RelV y u)(h:∀w' s',Inv X pins σ H s'->RelV (o.getD .Ax) w'->Q w' s'):
 wpAny (model X.prog X.w) A (call (.builtin "dict.get") [.ref a,u]) Q E s:=by
 rcases g with ⟨kvs,k,e,ey,l⟩|⟨kvs,k,b,e,ey,eb,l⟩
 ·subst ey;obtain⟨z,hd,vs,rel,dd⟩:=Ji I.AF e;refine call_meetsIn zcg dd.typeIs PySem.F.entry_dict_get (PySem.F.args_dict_get_2 _ _) (meets_dict_get (AL X.prog X.w) a (Kd ry) hd) ⟨_,dd.mapOf,h _ _ (I.tok _) ?_⟩;rw[l];exact (rel.val k).getD rfl
 ·subst ey;cases (show u=zb7 b from ry);obtain⟨z,hd,xs,rel,dd⟩:=Ml I.AF e;refine call_meetsIn zcg dd.typeIs PySem.F.entry_dict_get (PySem.F.args_dict_get_2 _ _) (meetsH_dict_get (tupleKind (AL X.prog X.w)) a b hd) ⟨tupleKind_room_in1 hu,k,xs,Hz I.AF eb,dd,h _ _ (I.tok _) ?_⟩;rw[l];exact (rel.val k).getD rfl
def rA (hu:A.units+1<cLine)(I:Inv X pins σ H s)(g:NV H a y o)(ry:RelV y u)(rd:RelV d r)(h:∀w' s',Inv X pins σ H s'->RelV (o.getD d) w'->Q w' s'):
 wpAny (model X.prog X.w) A (call (.builtin "dict.get") [.ref a,u,r]) Q E s:=by
 rcases g with ⟨kvs,k,e,ey,l⟩|⟨kvs,k,b,e,ey,eb,l⟩
 ·subst ey;obtain⟨z,hd,vs,rel,dd⟩:=Ji I.AF e;refine call_meetsIn zcg dd.typeIs PySem.F.entry_dict_get (PySem.F.args_dict_get_3 _ _ _) (meets_dict_get_default (AL X.prog X.w) a (Kd ry) hd r) ⟨_,dd.mapOf,h _ _ (I.tok _) ?_⟩;rw[l];exact (rel.val k).getD rd
 ·subst ey;cases (show u=zb7 b from ry);obtain⟨z,hd,xs,rel,dd⟩:=Ml I.AF e;refine call_meetsIn zcg dd.typeIs PySem.F.entry_dict_get (PySem.F.args_dict_get_3 _ _ _) (meetsH_dict_get_default (tupleKind (AL X.prog X.w)) a b hd r) ⟨tupleKind_room_in1 hu,k,xs,Hz I.AF eb,dd,h _ _ (I.tok _) ?_⟩;rw[l];exact (rel.val k).getD rd
end
abbrev rB (td ty:TE):TE:=λ σ H Q=>td σ H λ x H1=>∃a,x=.ref a/\zB H1 a/\ty σ H1 λ y H2=>∃o,NV H2 a y o/\Q (o.getD .Ax) H2
abbrev rC (td ty tx:TE):TE:=λ σ H Q=>td σ H λ x H1=>∃a,x=.ref a/\zB H1 a/\ty σ H1 λ y H2=>tx σ H2 λ z H3=>∃o,NV H3 a y o/\Q (o.getD z) H3
section
variable {o f:Expr}{apos ac:Pos}{tx:TE}
def ZZ (hu:X.A.units+1<cLine)(ho:PE X o td)(he:PE X e ty)(m:M1 X o "get" apos e ac):PE X (.Call (.Attribute o "get" apos) [e] [] ac) (rB td ty):=by
 intro pins s σ H Q I h;refine wpAny_Call_method m.base m.few m.line PySem.F.plainAttrs_dict zcg PySem.F.type_dict_get (B9 (ho pins s σ H _ I h) λ u s1 zz=>?_);obtain⟨x,H1,I1,rx,a,ex,d,q1⟩:=zz;subst ex;obtain rfl:u=zb7 a:=rx;obtain⟨t1,t2,_⟩:=RQ I1 d;refine⟨t1,t2,?_⟩;rw[m.ZY];refine zcq rfl (Calls.evalArgs_plain (zby (B9 (he pins s1 σ H1 _ I1 q1) λ iv s2 ⟨y,H2,I2,ry,ov,g,q2⟩=>zcc ?_)));exact qZ hu I2 g ry λ w' s3 I3 ba=>⟨_,H2,I3,ba,q2⟩
def bD (hu:X.A.units+1<cLine)(ho:PE X o td)(he:PE X e ty)(hf:PE X f tx)(m:M2 X o "get" apos e f ac):PE X (.Call (.Attribute o "get" apos) [e,f] [] ac) (rC td ty tx):=by
 intro pins s σ H Q I h;refine wpAny_Call_method m.base m.few m.line PySem.F.plainAttrs_dict zcg PySem.F.type_dict_get (B9 (ho pins s σ H _ I h) λ u s1 zz=>?_);obtain⟨x,H1,I1,rx,a,ex,d,q1⟩:=zz;subst ex;obtain rfl:u=zb7 a:=rx;obtain⟨t1,t2,_⟩:=RQ I1 d;refine⟨t1,t2,?_⟩;rw[m.ZY];refine zcq rfl (Calls.evalArgs_plain (zby (B9 (he pins s1 σ H1 _ I1 q1) λ iv s2 ⟨y,H2,I2,ry,q2⟩ =>
  zby (B9 (hf pins s2 σ H2 _ I2 q2) λ fv s3 ⟨z,H3,I3,rz,ov,g,q3⟩=>zcc ?_))))
 exact rA hu I3 g ry rz λ w' s4 I4 ba=>⟨_,H3,I4,ba,q3⟩
end
abbrev WA (y:Str×NameKind):Bool:=y.2==.cell
abbrev Ho (sc outer:Scope):Bool:=
 decide (sc.kind=.function)&&(decide ((sc.names.filter WA).length<=1)&&sc.names.all λ y=>(decide (y.2≠.cell)||decide (sc.names.lookup y.1=some .cell))&&(decide (y.2≠.free)||decide (outer.names.lookup y.1=some .cell)||decide (outer.names.lookup y.1=some .free))&&(decide (y.2≠.local)||decide (sc.names.lookup y.1=some .local)))
abbrev HB (names:List (Str×NameKind)):Option Str:=(names.find? WA).map (·.1)
abbrev WB (C:Addr)(names:List (Str×NameKind))(cs:List (Str×Addr)):List (Str×Addr):=match HB names with
 |some x=>(x,C+1)::cs
 |none=>cs
def Tj (h:HB names=some x):(x,.cell)∈names:=by
 unfold HB at h;obtain⟨y,h1,rfl⟩:=zce.mp h;have h2:=List.find?_some h1;have e:y.2=.cell:=by unfold WA at h2;simpa using h2
 have:=List.mem_of_find?_eq_some h1;rw[<-e];exact this
def rD (h:(names.filter WA).length<=1)(hx:(x,.cell)∈names):HB names=some x:=by
 induction names with
 |nil=>cases hx
 |cons y r ih =>
  unfold HB;cases e:WA y with
  |true =>
   rw[List.filter_cons_of_pos e,za8] at h;rw[List.find?_cons_of_pos e];rcases zab.mp hx with rfl|hx
   ·rfl
   ·have:(x,NameKind.cell)∈r.filter WA:=zb9.mpr ⟨hx,rfl⟩;rw[List.eq_nil_of_length_eq_zero (l:=r.filter WA) (by omega)] at this;cases this
  |false =>
   rw[List.filter_cons_of_neg (by rw[e];exact zaq)] at h;rw[List.find?_cons_of_neg (by rw[e];exact zaq)];rcases zab.mp hx with rfl|hx
   ·cases e
   ·exact ih h hx
def Vp:∀ {names:List (Str×NameKind)}{n:Nat}{acc:List (Str×Addr)},(names.filter WA).length<=1->cellsFrom n names acc=match HB names with | some x=>(x,n)::acc | none=>acc
 |[],_,_,_=>rfl
 |(x,k)::r,n,acc,h=>by
  unfold cellsFrom HB;cases e:WA (x,k) with
  |true =>
   rw[List.filter_cons_of_pos e,za8] at h;rw[List.find?_cons_of_pos e,if_pos (show (k==NameKind.cell)=true from e),Vp (by omega)];cases q:HB r with
   |none=>rfl
   |some y =>
    have:(y,NameKind.cell)∈r.filter WA:=zb9.mpr ⟨Tj q,rfl⟩;rw[List.eq_nil_of_length_eq_zero (l:=r.filter WA) (by omega)] at this;cases this
  |false =>
   have e':¬ WA (x,k)=true:=by rw[e];exact zaq
   rw[List.filter_cons_of_neg e'] at h;rw[List.find?_cons_of_neg e',if_neg (show ¬ (k==NameKind.cell)=true from e'),Vp h];rfl
abbrev Ql (N NB:List Str)(sc:Scope)(μ:List (Option Nat)):Bool:=
 decide (NB.length=μ.length)&&(NB.zip μ).all λ p=>match p.2 with
  |none=>true
  |some i=>decide (N[i]?=some p.1)&&decide (sc.names.lookup p.1=some .free)
abbrev Fu (μ:List (Option Nat))(σ:St):St:=μ.map λ o=>o.bind λ i=>(σ[i]?).join
abbrev Gi (cells:List (Str×Addr)):List (Str×NameKind)->List (Str×Addr)->List (Str×Addr)
 |[],cs=>cs
 |(n,k)::r,cs=>Gi cells r (if (k==.free)=true then (n,(cells.lookup n).getD 0)::cs else cs)
def Jk (h:∀y∈scope.names,y.2=.free->∃c,env.cells.lookup y.1=some c):closureFor scope env=pure (Gi env.cells scope.names []):=by
 unfold closureFor;have key:∀(names:List (Str×NameKind)) (cs:List (Str×Addr)),(∀y∈names,y.2=.free->∃c,env.cells.lookup y.1=some c)->
  (forIn names cs λ(x:Str×NameKind) r=>match x with
   |(name,kind)=>if (kind==zcs)=true then do
    let __do_lift <-cellOf env name
    pure (zd9 ((name,__do_lift)::r))
    else pure (zd9 r):Sem _)=pure (Gi env.cells names cs):=by
  intro names;induction names with
  |nil=>intro cs _;rfl
  |cons y r ih =>
   intro cs hy;obtain⟨n,k⟩:=y;rw[List.forIn_cons];by_cases hk:k=.free
   ·subst hk;obtain⟨c,hc⟩:=hy (n,.free) za3 rfl;have e:cellOf env n=pure c:=by unfold cellOf;rw[show env.cells.lookup n=some c from hc]
    simp only[e,beq_self_eq_true,if_true,pure_bind];rw[ih _ λ z hz=>hy z (za4 _ hz)];simp only[Gi,beq_self_eq_true,if_true];rw[show env.cells.lookup n=some c from hc];rfl
   ·have hb:(k==zcs)=false:=by simpa using hk
    simp only[hb,zaz,if_false,pure_bind];rw[ih _ λ z hz=>hy z (za4 _ hz)];simp only[Gi,hb,zaz,if_false]
 have q:=key scope.names [] h;simp only[bind_pure];exact q
def Tn:∀ {names:List (Str×NameKind)}{cs:List (Str×Addr)}{x:Str}{c:Addr},(x,c)∈Gi cells names cs->(x,c)∈cs\/((x,.free)∈names/\c=(cells.lookup x).getD 0)
 |[],cs,x,c,h=>.inl h
 |(n,k)::r,cs,x,c,h=>by
  rcases Tn (names:=r) h with q|⟨q,e⟩
  ·by_cases hk:k=.free
   ·subst hk;simp only[beq_self_eq_true,if_true] at q;rcases zab.mp q with z|z
    ·cases z;exact .inr ⟨za3,rfl⟩
    ·exact .inl z
   ·have hb:(k==zcs)=false:=by simpa using hk
    simp only[hb,zaz,if_false] at q;exact .inl q
  ·exact .inr ⟨za4 _ q,e⟩
def NX:∀ {names:List (Str×NameKind)}{cs:List (Str×Addr)}{p:Str×Addr},p∈cs->p∈Gi cells names cs
 |[],_,_,h=>h
 |(n,k)::r,cs,p,h=>by
  show p∈Gi cells r _;refine NX ?_;by_cases hk:(k==zcs)=true
  ·rw[if_pos hk];exact za4 _ h
  ·rw[if_neg hk];exact h
def NY:∀ {names:List (Str×NameKind)}{cs:List (Str×Addr)}{x:Str},(x,.free)∈names->∃c,(x,c)∈Gi cells names cs
 |(n,k)::r,cs,x,h=>by
  rcases zab.mp h with z|z
  ·cases z;refine⟨(cells.lookup n).getD 0,?_⟩;show _∈Gi cells r (if (zcs==zcs)=true then _ else _);exact NX (by rw[if_pos (beq_self_eq_true _)];exact za3)
  ·exact NY (names:=r) z
def Dx:∀ {l:List (Str×Addr)},(x,c)∈l->∃c',l.lookup x=some c'
 |(y,d)::r,h=>by
  rw[zbz];by_cases e:(x==y)=true
  ·rw[e];exact⟨d,rfl⟩
  ·rw[Bool.eq_false_iff.mpr e];rcases zab.mp h with z|z
   ·cases z;exact absurd (beq_self_eq_true x) e
   ·exact Dx z
def Ke (h:(relabel scope env).names.lookup x=some k):∃k',scope.names.lookup x=some k'/\(k=k'\/(k'=.free/\k=.cell)):=by
 unfold relabel at h;dsimp only at h;revert h;induction scope.names with
 |nil=>intro h;cases h
 |cons y r ih =>
  obtain⟨n,k'⟩:=y;intro h;rw[za6,zbz] at h;rw[zbz];by_cases hc:(k'==zcs&&env.scope.kind==.function&&env.kindOf n==some .cell)=true
  ·dsimp only at h;rw[if_pos hc] at h;dsimp only at h;cases e:x==n with
   |true =>
    rw[e] at h;have hf:k'=.free:=by
     have:=hc;simp only[zb4] at this;simpa using this.1.1
    exact⟨k',rfl,.inr ⟨hf,(zau h).symm⟩⟩
   |false=>rw[e] at h;exact ih h
  ·dsimp only at h;rw[if_neg hc] at h;dsimp only at h;cases e:x==n with
   |true=>rw[e] at h;exact⟨k',rfl,.inl (zau h).symm⟩
   |false=>rw[e] at h;exact ih h
def lookup_mem {α:Type}{k}:∀ {l:List (Str×α)},l.lookup x=some k->(x,k)∈l
 |(y,d)::r,h=>by
  rw[zbz] at h;cases e:x==y with
  |true =>
   rw[e] at h;cases h;have:x=y:=by simpa using e
   subst this;exact za3
  |false=>rw[e] at h;exact za4 _ (lookup_mem h)
abbrev blockOf (X:Cx)(s:Shared)(H:Hp)(scope:Scope)(C:Addr)(NB:List Str)(ex:List Addr):Cx:=
 {X with N:=NB,s₀:=s,H₀:=H,env:=compEnvC scope (WB C scope.names (Gi X.env.cells scope.names [])) C X.env,outer:=X.stack,stack:=X.stack,ex:=ex,fn:=λ y=>HB scope.names==some y,pn:=[],xe:=λ _ _=>False}
section
variable {s4:Shared}{C:Addr}
def Lw (h:Ho scope X.env.scope=true):scope.kind=.function:=by
 unfold Ho at h;simp only[zb4,decide_eq_true_eq] at h;exact h.1
def To (h:Ho sc outer=true):(sc.names.filter WA).length<=1:=by
 unfold Ho at h;rw[zb4,zb4,decide_eq_true_eq,decide_eq_true_eq] at h;exact h.2.1
def Kf (h:Ho sc outer=true)(hy:y∈sc.names):(y.2=.cell->sc.names.lookup y.1=some .cell)/\(y.2=.free->outer.names.lookup y.1=some .cell\/outer.names.lookup y.1=some .free)/\(y.2=.local->sc.names.lookup y.1=some .local):=by
 unfold Ho at h;simp only[zb4,decide_eq_true_eq,List.all_eq_true,Bool.or_eq_true] at h;obtain⟨⟨h1,h2⟩,h3⟩:=h.2.2 y hy;exact⟨λ e=>h1.elim (λ q=>absurd e q) id,λ e=>by
  rcases h2 with (q|q)|q
  ·exact absurd e q
  ·exact .inl q
  ·exact .inr q,λ e=>h3.elim (λ q=>absurd e q) id⟩
def JN (I:Inv X pins σ H s)(h:Ho scope X.env.scope=true)(hx:(x,.free)∈scope.names):∃c,X.env.cells.lookup x=some c:=I.ok.has x ((Kf h hx).2.1 rfl)
def NZ (I:Inv X pins σ H s)(h:Ho scope X.env.scope=true)(e:(Gi X.env.cells scope.names []).lookup x=some c):X.env.cells.lookup x=some c:=by
 rcases Tn (lookup_mem e) with q|⟨q,r⟩
 ·cases q
 ·obtain⟨c',e'⟩:=JN I h q;rw[e'] at r;rw[e',r];rfl
def Df (I:Inv X pins σ H s)(h:Ho scope X.env.scope=true)(e:(WB C scope.names (Gi X.env.cells scope.names [])).lookup x=some c):(HB scope.names=some x/\c=C+1)\/X.env.cells.lookup x=some c:=by
 unfold WB at e;cases q:HB scope.names with
 |none=>rw[q] at e;exact .inr (NZ I h e)
 |some y =>
  rw[q] at e;dsimp only at e;rw[zbz] at e;cases b:x==y with
  |true=>rw[b] at e;cases e;exact .inl ⟨by rw[eq_of_beq b],rfl⟩
  |false=>rw[b] at e;exact .inr (NZ I h e)
def O0 (h:Ho scope env.scope=true)(hk:(relabel scope env).names.lookup x=some k)(hc:k=.cell\/k=.free):(x,.free)∈scope.names\/HB scope.names=some x:=by
 obtain⟨k',e,q⟩:=Ke hk;have m:=lookup_mem e;rcases q with q|⟨q,_⟩
 ·subst q;rcases hc with z|z
  ·subst z;exact .inr (rD (To h) m)
  ·subst z;exact .inl m
 ·subst q;exact .inl m
def jM (h:Ql X.N NB scope μ=true):NB.length=μ.length/\∀(j i:Nat),μ[j]?=some (some i)->∃x,NB[j]?=some x/\X.N[i]?=some x/\scope.names.lookup x=some .free:=by
 unfold Ql at h;simp only[zb4,decide_eq_true_eq,List.all_eq_true] at h;refine⟨h.1,λ j i e=>?_⟩;have hj:j<NB.length:=by rw[h.1];exact (zae.mp e).1
 have m:(NB[j],some i)∈NB.zip μ:=by
  refine List.mem_iff_getElem?.mpr ⟨j,?_⟩;rw[List.getElem?_zip_eq_some];exact⟨za7 hj,e⟩
 have q:=h.2 _ m;dsimp only at q;simp only[zb4,decide_eq_true_eq] at q;exact⟨NB[j],za7 hj,q.1,q.2⟩
def Tp (I:Inv X pins σ H s)(av:Ho scope X.env.scope=true)(bc:Ql X.N NB scope μ=true)(ia:∀b∈fp,MR X pins H b)(ly:∀b∈fp,∃o,s.heap.get? b=some o)(hC:s.heap.objs.size<=C)(ns:h4.Ns C λ _=>none)(k:∀b o,s.heap.get? b=some o->h4.get? b=some o)(c8:∀x,HB scope.names=some x->h4.IsCell (C+1) none):
 Inv (blockOf X s H scope C NB fp) [] (Fu μ σ) H {s with heap:=h4,toks:=t4}:=by
 obtain⟨hlen,bc⟩:=jM bc;have uh:∀b o,s.heap.get? b=some o->b≠C:=λ b o e=>zax (zam (zai e) hC);have ui:∀x c,X.env.cells.lookup x=some c->c≠C+1:=λ x c e z=>by
  obtain⟨v,o,ho,_⟩:=I.cell x c e;exact absurd (zam (zai ho) hC) (by rw[z];exact Nat.not_lt.mpr (Nat.le_succ C))
 have l6:∀x c,X.env.cells.lookup x=some c->c≠C:=λ x c e=>by
  obtain⟨v,o,ho,_⟩:=I.cell x c e;exact uh c o ho
 refine⟨⟨I.ok.mod,(show scope.kind=_ from Lw av),I.ok.glob,I.ok.blt,hC,λ x y c h1 h2=>?_,λ x hx=>?_,λ x c hf e=>?_,I.ok.hd,I.ok.frames,.inl rfl,λ b hb=>?_,I.bs,zc0 I.ok.nI I.sz,λ b o e hb=>?_,λ b hb hz=>?_,I.stack,I.Wo⟩,
  rfl,I.bare,Un.kept k,⟨_,ns,λ j x v e1 e2 e3=>?_⟩,λ x c e=>?_,I.AF.fresh hC,λ x c e=>?_,λ p hp=>(by cases hp),I.AF.kept k,?_⟩
 ·rcases Df I av h1 with ⟨a1,a2⟩|a<;>rcases Df I av h2 with ⟨b1,b2⟩|b
  ·rw[a1] at b1;exact zau b1
  ·exact absurd a2 (ui y c b)
  ·exact absurd b2 (ui x c a)
  ·exact I.ok.inj x y c a b
 ·have q:(x,zcs)∈scope.names\/HB scope.names=some x:=by
   rcases hx with hx|hx
   ·exact O0 av hx (.inl rfl)
   ·exact O0 av hx (.inr rfl)
  rcases q with q|q
  ·obtain⟨c,m⟩:=NY (cells:=X.env.cells) (cs:=[]) q;refine Dx (c:=c) ?_;show (x,c)∈WB C scope.names _;unfold WB;split
   ·exact za4 _ m
   ·exact m
  ·refine Dx (c:=C+1) ?_;show (x,C+1)∈WB C scope.names _;unfold WB;rw[q];exact za3
 ·have hq:HB scope.names=some x:=by simpa [blockOf] using hf
  have e':(WB C scope.names (Gi X.env.cells scope.names [])).lookup x=some c:=e;unfold WB at e';rw[hq] at e';dsimp only at e';rw[zbz,beq_self_eq_true] at e';cases e';exact Nat.le_succ_of_le hC
 ·obtain⟨o,ho⟩:=ly b hb;refine⟨uh b o ho,λ x c e z=>?_⟩;rcases Df I av e with ⟨_,a2⟩|e
  ·exact absurd (zam (zai ho) hC) (by rw[<-z,a2];exact Nat.not_lt.mpr (Nat.le_succ C))
  ·exact (ia b hb).2.2.2.2.1 x c e z
 ·rcases (ia b hb).2.2.2.1 with z|z
  ·exact I.ok.Zl b o e z
  ·exact absurd (zam (zai (I.ok.bs b o e).1) z) (Nat.lt_irrefl _)
 ·rcases zab.mp (I.V5 b hz) with e|e
  ·exact (ia b hb).2.1 e
  ·exact (ia b hb).2.2.1 e
 ·have jc:(μ[j]?).map (λ o=>o.bind λ i=>(σ[i]?).join)=some (some v):=by
   rw[<-zaw];exact e2
  cases q:μ[j]? with
  |none=>rw[q] at jc;cases jc
  |some o =>
   rw[q] at jc;cases o with
   |none=>cases jc
   |some i =>
    have e4:(σ[i]?).join=some v:=by simpa using jc
    have e5:σ[i]?=some (some v):=by
     cases z:σ[i]? with
     |none=>rw[z] at e4;cases e4
     |some w=>rw[z] at e4;simp at e4;rw[e4]
    obtain⟨x',n1,n2,n3⟩:=bc j i q;have ex:x'=x:=zau (n1.symm.trans e1);subst ex;have m:=lookup_mem n3;have ov:=(Kf av m).2.1 rfl;obtain⟨mm,hn,hl⟩:=I.loc;obtain⟨u,r,l⟩:=hl i x' v n2 e5 (ov.elim (λ z=>.inr (.inl z)) λ z=>.inr (.inr z));refine⟨u,r,.inr ⟨?_,?_⟩⟩
    ·rcases e3 with z|z|z
     ·obtain⟨k',z1,z2⟩:=Ke (k:=.local) z;rw[n3] at z1;cases z1;rcases z2 with z2|⟨_,z2⟩<;>cases z2
     ·exact .inl z
     ·exact .inr z
    ·rcases l with ⟨l,_⟩|⟨_,c,l1,l2⟩
     ·rcases ov with z|z<;>(rw[show X.env.kindOf x'=_ from z] at l;cases l)
     ·obtain⟨c',m'⟩:=NY (cells:=X.env.cells) (cs:=[]) m;obtain⟨c'',l3⟩:=Dx m';have l4:=NZ I av l3;rw[l1] at l4;cases l4;have l5:(WB C scope.names (Gi X.env.cells scope.names [])).lookup x'=some c:=by
       unfold WB;cases q9:HB scope.names with
       |none=>exact l3
       |some y =>
        have ne:(x'==y)=false:=by
         cases b:x'==y with
         |false=>rfl
         |true =>
          have z:=(Kf av (Tj q9)).1 rfl;rw[<-eq_of_beq b] at z;rw[show scope.names.lookup x'=some .cell from z] at n3;cases n3
        dsimp only;rw[zbz,ne];exact l3
      refine⟨c,l5,?_⟩;obtain⟨o,ho,hd⟩:=l2;exact⟨o,k _ _ ho,hd⟩
 ·rcases Df I av e with ⟨a1,rfl⟩|e
  ·exact⟨_,c8 x a1⟩
  ·obtain⟨v,o,ho,hd⟩:=I.cell x c e;exact⟨v,o,k _ _ ho,hd⟩
 ·rcases Df I av e with ⟨a1,rfl⟩|e
  ·exact I.AF.fresh (Nat.le_succ_of_le hC)
  ·exact I.FG x c e
 ·show (Fu μ σ).length=NB.length;unfold Fu;rw[za2,hlen]
def GX.adopt (x:GX P w H h)(hn:H a=none)(new:Bk P w (upd H a o) h a o):GX P w (upd H a o) h:=λ b u e=>by
 by_cases hb:b=a
 ·subst hb;rw[An] at e;cases e;exact new
 ·rw[Ai hb] at e;exact (x b u e).Qc (λ c v _ q=>q) (λ c q=>by rw[Ai (AO q hn)];exact q) λ c xs q=>by rw[Ai (AO q hn)];exact q
def XN (I:Inv X pins σ H s)(ia:∀b∈fp,MR X pins H b)(J:Inv (blockOf X s H scope C NB fp) pl σ' H' s')(hC:s.heap.objs.size<=C)(hD:s.heap.objs.size<=D)(c9:D≠C)(eD:s'.heap.get? D=some {cls:=.type "list",data:=.seq aa.toArray n})(nD:H' D=none)(r:Vals ys aa)(hz:ys.length<=sizeLine)(sb:zcv C s'.heap h'):Inv X pins σ (upd H' D (.lst ys)) {s' with heap:=h' }:=by
 have ff:∀b o,s.heap.get? b=some o->b≠C:=λ b o e=>zax (zam (zai e) hC);have oe:∀b o,s.heap.get? b=some o->b≠D:=λ b o e=>zax (zam (zai e) hD);have freshD:H D=none:=I.AF.fresh hD;have nC:H' C=none:=J.free;have u:Un (Zb X.stack) fp H H' s.heap s'.heap:=J.base;have fb:GX X.prog X.w H' h':=λ b ob e=>(J.AF b ob e).Qc (λ c v hc q=>(sb.2 c (by
  intro z;subst z;rcases hc with rfl|hc
  ·rw[nC] at e;cases e
  ·rw[nC] at hc;cases hc)).trans q) (λ _ q=>q) λ _ _ q=>q
 refine I.uV (ch:=fp) J.os ⟨λ b o e n hb hx=>?_,λ b o e n hb hx=>?_,λ b o e n hx=>?_,λ b o e hx=>?_,λ b xs e=>?_,λ b o u' e=>?_,λ b ps e=>?_⟩ (fb.adopt nD ⟨hz,aa,n,r,(sb.2 D c9).trans eD⟩) J.bare λ b hb=>?_
 ·exact (sb.2 b (ff b o e)).trans (u.keep b o e n hb hx)
 ·obtain⟨sl,q⟩:=u.slot b o e n hb hx;exact⟨sl,(sb.2 b (ff b o e)).trans q⟩
 ·rw[Ai (oe b o e)];exact u.free b o e n hx
 ·obtain⟨o',q⟩:=u.there b o e hx;exact⟨o',(sb.2 b (ff b o e)).trans q⟩
 ·rw[Ai (AO e freshD)];exact u.Qd b xs e
 ·rw[Ai (AO e freshD)];exact u.MQ b o u' e
 ·rw[Ai (AO e freshD)];exact u.Qe b ps e
 ·obtain⟨_,f1,_,f3,f4,f5⟩:=ia b hb;exact⟨f3,f1,f4,f5⟩
end
def bE (h1:(scope.names.filter WA).length<=1)(hQ:∀h',h'.Ns s.heap.objs.size (λ _=>none)->(∀b o,s.heap.get? b=some o->h'.get? b=some o)->(∀x,HB scope.names=some x->h'.IsCell (s.heap.objs.size+1) none)->
  Q {scope:=scope,locals:=s.heap.objs.size,globals:=g,cells:=WB s.heap.objs.size scope.names cl,qual:=qual,func:=none,code:=outer.code,frame:=outer.frame,builtins:=outer.builtins} {s with heap:=h' }):
 wpAny M A (newFunctionEnv scope g cl [] qual none .none (some outer)) Q E s:=by
 unfold newFunctionEnv;simp only[Option.isSome_some,if_true];refine wpAny_bind (wpAny_alloc (wpAny_bind (wpAny_layCells _ (λ x k cs=>by cases e:k==NameKind.cell<;>simp[e]) _ _ _ _ ?_)));have ok:=cellsFrom_ok scope.names (s.heap.push {cls:=.type "dict",data:=.dict #[]}) 0 [] ⟨λ _ _ z=>(by cases z),.nil⟩ (zba _);rw[Vp h1] at ok ⊢;rw[Heap.size_push] at ok;rw[List.forIn_nil];refine wpAny_bind (wpAny_pure (wpAny_pure ?_));have key:=hQ (pushCells (s.heap.push {cls:=.type "dict",data:=.dict #[]}) scope.names) ((Heap.Ns.new s.heap (.type "dict")).keeps (pushCells_keeps _ _)) (λ b o e=>pushCells_keeps _ _ b o (zad _ e)) (λ x hx=>(ok.empty x (s.heap.objs.size+1) (by rw[hx];exact za3)).1);unfold WB at key;rw[<-Heap.size_push s.heap {cls:=.type "dict",data:=.dict #[]}] at key;exact key
def RS (I:Nat->Shared->Prop)(turn:∀n s,I n s->wpAny (model prog w) A (pyNext it) (λ r s₁=>match r with
  |none=>R (.ok .next) s₁
  |some v=>wpAny (model prog w) A (letOwnedTupleGo target it v) (λ _ s₁'=>wpAny (model prog w) A (assign target env v) (λ _ s₂ =>
   wpAny (model prog w) A (forIn ifs true λ c r=>if r=true then do let ok <-isTrue c env (eval c env);pure (zd9 ok) else pure (zd9 r)) (λ ok s₃ =>
    if ok=true then wpAny (model prog w) A (eval elt env) (λ x s₄ =>
     wpAny (model prog w) A (call (.builtin "list.append") [acc,x]) (λ _ s₅=>∃m,m<n/\I m s₅) (λ _ _=>False) s₄) (λ _ _=>False) s₃
    else ∃m,m<n/\I m s₃) (λ _ _=>False) s₂) (λ _ _=>False) s₁') (λ _ _=>False) s₁) (λ _ _=>False) s)(n:Nat)(h:I n s):
 codeAny (model prog w) A (.compLoop (.ListComp elt [⟨target,iter,ifs,0⟩] scope pos) 0 it acc env) R s:=by
 refine codeAny_loop rfl I (λ n s hI=>?_) n h;show wpAny _ A ((compTurn (.ListComp elt [⟨target,iter,ifs,0⟩] scope pos) 0 it acc env).onRaise (λ x=>do noteFrame x env;theTreesLotGoes x)) _ _ s;refine wpAny_noted ?_;rw[compTurn_list];refine wpAny_bind (wpAny_standAt (wpAny_bind (wpAny_mono (turn n s hI) (λ r s₁ h₁=>?_) λ _ _ h'=>h'.elim)));cases r with
 |none=>exact wpAny_pure h₁
 |some v =>
  refine wpAny_bind (wpAny_mono h₁ (λ _ s₁' h₁'=>?_) λ _ _ h'=>h'.elim);refine wpAny_bind (wpAny_mono h₁' (λ _ s₂ h₂=>wpAny_bind (wpAny_mono h₂ (λ ok s₃ h₃=>?_) λ _ _ h'=>h'.elim)) λ _ _ h'=>h'.elim);cases ok with
  |false=>exact wpAny_pure ⟨rfl,h₃⟩
  |true =>
   exact wpAny_bind (wpAny_bind (wpAny_mono h₃ (λ x s₄ h₄=>wpAny_bind (wpAny_mono h₄ (λ _ s₅ h₅=>wpAny_pure (wpAny_pure ⟨rfl,h₅⟩)) λ _ _ h'=>h'.elim)) λ _ _ h'=>h'.elim))
abbrev uI (X:Cx)(cs:List Expr)(t:TT):Prop:=
 ∀(pins:List (Addr×Obj)) (s:Shared) (σ:St) (H:Hp) (Q:Bool->Hp->Prop),Inv X pins σ H s->t σ H Q->
  wpAny (model X.prog X.w) X.A (forIn cs true λ c r=>if r=true then do let ok <-isTrue c X.env (eval c X.env);pure (zd9 ok) else pure (zd9 r)) (TP X pins σ Q) X.xe s
abbrev aay:TT:=λ _ H Q=>Q true H
def jN:uI X [] aay:=λ _ _ _ H _ I h=>wpAny_tests_nil ⟨H,I,h⟩
def jO (h:PT X c t):uI X [c] t:=λ pins s σ H Q I q=>wpAny_tests_one (h pins s σ H Q I q)
abbrev Lx (μ:List (Option Nat))(g:TG):Prop:=∀σ x H Q,g x (Fu μ σ) H Q->g x (Fu μ σ) H λ σ' H'=>Q σ' H'/\∀(j:Nat) v,(Fu μ σ)[j]?=some (some v)->σ'[j]?=some (some v)
def jP (h:μ[i]?=some none):Lx μ (QF i):=λ σ x H Q q=>by
 refine⟨q,λ j v e=>?_⟩;have ad:j≠i:=λ z=>by
  subst z;unfold Fu at e;rw[zaw,h] at e;cases e
 rw[zbs (zbl ad)];exact e
abbrev cBy (J:It)(H1:Hp)(Q:VK)(st:V->Hp->(St->Hp->Prop)->Prop)(tc:TT)(te:TE):Prop:=
 ∃W:Nat->Nat->List V->Hp->Prop,(∃m,W 0 m [] H1)/\∀i m ys H2,W i m ys H2->
  (J.stop i H2/\∀D,H2 D=none->Q (.ref D) (upd H2 D (.lst ys))) \/
  (J.go i H2/\ys.length<sizeLine/\∃N:List V->Hp->Prop,(∀aP H',N aP H'->∃m',m'<m/\W (i+1) m' aP H')/\∀x H3,J.iP i H2 x H3->st x H3 λ σ4 H4=>tc σ4 H4 λ b H5=>if b=true then te σ4 H5 λ y H6=>N (ys++[y]) H6 else N ys H5)
abbrev Tq (wi:TI)(μ:List (Option Nat))(g:TG)(tc:Shared->Hp->Addr->List Addr->TT)(te:Shared->Hp->Addr->List Addr->TE):TE:=λ σ H Q=>wi σ H λ J H1=>∀s C ex,cBy J H1 Q (λ x H K=>g x (Fu μ σ) H K) (tc s H1 C ex) (te s H1 C ex)
section
variable {H2:Hp}{s2:Shared}{elt:Expr}{ifs:List Expr}{g:TG}{tc:Shared->Hp->Addr->List Addr->TT}{te:Shared->Hp->Addr->List Addr->TE}{it:Addr}{tn:Nat->Heap->Prop}{J:It}{Q:VK}
def QO (hc:X.calm=true)(I2:Inv X pins σ H2 s2)(T:Turn X.prog X.w X.K tg J fp it tn)(c4:tn 0 s2.heap)(f2:∀b∈fp,MR X pins H2 b)(av:Ho scope X.env.scope=true)(bc:Ql X.N NB scope μ=true)(jd:Lx μ g)(hb:∀(s:Shared) (H:Hp) (C:Addr) (ex:List Addr),PG (blockOf X s H scope C NB ex) tg g/\uI (blockOf X s H scope C NB ex) ifs (tc s H C ex)/\PE (blockOf X s H scope C NB ex) elt (te s H C ex))(q:∀C,cBy J H2 Q (λ x H K=>g x (Fu μ σ) H K) (tc s2 H2 C fp) (te s2 H2 C fp)){RR:Value->Addr->Result->Shared->Prop}(fin:∀(D C:Addr) (s':Shared) (H':Hp) (ys:List V) (m:Str->Option Value),s2.heap.objs.size<=D->s2.heap.objs.size<=C->D≠C->s'.heap.Ns C m->H' C=none->(∀h',zcv C s'.heap h'->Inv X pins σ (upd H' D (.lst ys)) {s' with heap:=h' })->Q (.ref D) (upd H' D (.lst ys))->RR (.ref D) C (.ok .next) s'):
 wpAny (model X.prog X.w) X.A (newList []) (λ acc s₃=>wpAny (model X.prog X.w) X.A (newFunctionEnv scope X.env.globals (Gi X.env.cells scope.names []) [] X.env.qual none .none (some X.env)) (λ je s₄ =>
  codeAny (model X.prog X.w) X.A (.compStart (.ListComp elt [⟨tg,iter,ifs,0⟩] scope pos) 0 (.ref it) acc {je with scope:=relabel scope X.env}) (RR acc je.locals) s₄) E s₃) E s2:=by
 refine wpAny_newObj_type (bE (To av) λ h₁ hns₁ hk₁ hcl₁=>?_);dsimp only at hns₁ hk₁ hcl₁ ⊢;generalize og:s2.heap.push {cls:=.type "list",dict:=none,data:=.seq ([]:List Value).toArray}=l7 at hns₁ hk₁ hcl₁ ⊢;have hC:l7.objs.size=s2.heap.objs.size+1:=by rw[<-og,Heap.size_push]
 have c9:s2.heap.objs.size≠l7.objs.size:=by rw[hC];exact zax (Nat.lt_succ_self _)
 have fg:s2.heap.objs.size<=l7.objs.size:=by rw[hC];exact Nat.le_succ _
 have old:∀b o,s2.heap.get? b=some o->h₁.get? b=some o:=λ b o e=>hk₁ b o (og▸zad _ e);have eD:h₁.get? s2.heap.objs.size=some {cls:=.type "list",data:=.seq ([]:List Value).toArray}:=hk₁ _ _ (og▸zap _ rfl);have ly:∀b∈fp,∃o,s2.heap.get? b=some o:=λ b hb=>let ⟨o,e,_⟩:=T.obj _ _ c4 b hb;⟨o,e⟩;have oh:∀b∈fp,b≠s2.heap.objs.size:=λ b hb=>let ⟨o,e⟩:=ly b hb;zax (zai e);generalize uj:s2.heap.objs.size=D at fg c9 eD oh ⊢;generalize hCC:l7.objs.size=C at *;have bz:s2.heap.objs.size<=D:=by rw[uj];exact zaf _
 have bF:s2.heap.objs.size<=C:=by rw[uj];exact fg
 have I4:Inv (blockOf X s2 H2 scope C NB fp) [] (Fu μ σ) H2 {s2 with heap:=h₁}:=Tp (t4:=s2.toks) I2 av bc f2 ly bF hns₁ old hcl₁;have bi:∀ {H':Hp} {pl:List (Addr×Obj)},(∀b∈fp,H' b=none)->(∀p∈pl,p.1=D)->∀b∈fp,MR (blockOf X s2 H2 scope C NB fp) pl H' b:=fun {H' pl} hn hp b hb=>by
  refine⟨hn b hb,(I4.ok.yV b hb).1,I4.ok.Zm b hb,.inl hb,λ x c e z=>(I4.ok.yV b hb).2 x c e z,λ p oj z=>?_⟩;have om:p∈pl:=by simpa [blockOf] using oj
  exact oh b hb (z▸hp p om)
 have wl:D∉(blockOf X s2 H2 scope C NB fp).fs:=λ z=>by
  obtain⟨_,o,ho,_⟩:=I4.ok.Lp.mem z;exact absurd (zai ho) (Nat.not_lt.mpr bz)
 obtain⟨W,⟨m0,w0⟩,turn⟩:=q C;have loop:∀s₃:Shared,s₃={s2 with heap:=h₁} ->
  codeAny (model X.prog X.w) X.A (.compLoop (.ListComp elt [⟨tg,iter,ifs,0⟩] scope pos) 0 (.ref it) (.ref D) (compEnvC scope (WB C scope.names (Gi X.env.cells scope.names [])) C X.env)) (RR (.ref D) C) s₃:=by
  rintro s₃ rfl;refine RS (λ n s'=>∃i ys aa k H',Inv (blockOf X s2 H2 scope C NB fp) [(D,{cls:=.type "list",data:=.seq aa k})] (Fu μ σ) H' s'/\tn i s'.heap/\(∀b∈fp,H' b=none)/\Vals ys aa.toList/\ys.length<=sizeLine/\W i n ys H') ?_ m0
   ⟨0,[],#[],0,H2,I4.K9 λ p hp=>?_,T.keep _ _ _ c4 λ b hb o e=>old b o e,λ b hb=>(f2 b hb).1,.nil,zba _,w0⟩
  rotate_left
  ·have e:=za9.mp hp;subst e;exact⟨eD,I2.AF.fresh bz,c9,wl,λ v=>by simp⟩
  rintro n s3 ⟨i,ys,aa,k,H3,I3,iw,ix,rv,hz,w3⟩;rcases turn i n ys H3 w3 with ⟨stop,qn⟩|⟨go,ah,N,hN,step⟩
  ·refine wpAny_mono (T.done (blockOf X s2 H2 scope C NB fp) rfl rfl rfl hc i _ s3 _ H3 (λ _ _=>False) I3 (bi ix (by simp)) iw stop) (λ r s4 zz=>?_) λ _ _ e=>e;obtain⟨hr,l8⟩:=zz;subst hr;obtain⟨p1,p2,p3,p4,p5⟩:=l8.pin _ (zaa _ za3);obtain⟨m,hn,_⟩:=id l8.loc;have e1:s4.heap.get? D=some {cls:=.type "list",data:=.seq aa.toList.toArray k}:=by simpa using p1
   exact fin D C s4 H3 ys m bz bF c9 hn l8.free (λ h' sb=>XN I2 f2 l8 bF bz c9 e1 p2 rv hz sb) (qn D p2)
  ·refine wpAny_mono (T.item (blockOf X s2 H2 scope C NB fp) rfl rfl rfl hc i _ s3 _ H3 (λ _ _=>False) I3 (bi ix (by simp)) iw go) (λ r s4 zz=>?_) λ _ _ e=>e;obtain⟨u,hr,h4⟩:=zz;subst hr;refine B9 h4 λ _ s5 zz=>?_;obtain⟨x,H5,I5,r5,y5,em,nk⟩:=zz;have np:=I5.pinned (bi nk (by simp)) (T.obj _ _ em);have aZ:=jd σ x H5 _ (step x H5 y5);obtain⟨hg,ht,he⟩:=hb s2 H2 C fp;refine B9 (hg _ s5 _ H5 x u _ np r5 aZ) λ _ s6 zz=>?_;obtain⟨σ6,H6,I6,q6,k6⟩:=zz;refine B9 (ht _ s6 σ6 H6 _ I6 q6) λ ok s7 zz=>?_;obtain⟨H7,I7,q7⟩:=zz;have again:∀ {H8:Hp} {s8:Shared} {its':Array Value} {k':Nat} {aP:List V},Inv (blockOf X s2 H2 scope C NB fp) ([(D,{cls:=.type "list",data:=.seq its' k' })]++JK fp s5.heap) σ6 H8 s8->Vals aP its'.toList->aP.length<=sizeLine->(∃m,m<n/\W (i+1) m aP H8)->
    ∃m,m<n/\∃i ys aa k H',Inv (blockOf X s2 H2 scope C NB fp) [(D,{cls:=.type "list",data:=.seq aa k})] (Fu μ σ) H' s8/\tn i s8.heap/\(∀b∈fp,H' b=none)/\Vals ys aa.toList/\ys.length<=sizeLine/\W i m ys H':=fun {H8 s8 its' k' aP} I8 da wm n8=>by
    obtain⟨m',hm,w8⟩:=n8;refine⟨m',hm,i+1,aP,its',k',H8,(I8.Ka.weak ?_ k6),T.keep _ _ _ em λ b hb o e=>(I8.pin (b,o) (zaa _ (zaa _ (Ge hb e)))).1,λ b hb=>?_,da,wm,w8⟩
    ·rw[I8.len];exact I4.len
    ·obtain⟨o,e,d⟩:=T.obj _ _ em b hb;exact (I8.pin (b,o) (zaa _ (zaa _ (Ge hb e)))).2.1
   cases ok with
   |false =>
    simp only[zaz,if_false] at q7 ⊢;exact again I7 rv hz (hN _ _ q7)
   |true =>
    simp only[if_true] at q7 ⊢;refine B9 (he _ s7 σ6 H7 _ I7 q7) λ uy s8 zz=>?_;obtain⟨y,H8,I8,r8,q8⟩:=zz;obtain⟨p1,p2,p3,p4,p5⟩:=I8.pin (D,_) (zaa _ (zb2 _ za3));have e1:s8.heap.get? D=some {cls:=.type "list",data:=.seq aa k}:=p1;have hsz:aa.size=ys.length:=by rw[<-zdb];exact rv.length.symm
    refine call_meets F.slot_list_append ⟨_,e1,rfl⟩ F.entry_list_append (F.args_list_append_2 _ _) (PySem.list_append D aa k uy (by rw[hsz];omega)) ⟨e1,?_⟩;have on:=PySem.IsL.update e1 (·.push uy);have Iu:Inv (blockOf X s2 H2 scope C NB fp) (JK fp s5.heap) σ6 H8 s8:=I8.K9 λ p hp=>I8.pin p (zaa _ (zaa _ hp));have It:=Iu.turned (it:=D) (h':=s8.heap.update D (Obj.mapSeq (·.push uy))) (t':=s8.toks) (λ b o hb e=>(Heap.get?_update_other _ _ (zbl hb)).trans e) p2 p3 (.inr bz) (λ x c e z=>?_) (λ p hp z=>?_)
    ·refine again (its':=aa.push uy) (k':=if (aa.push uy).size==aa.size then k else k+1) (It.K9 λ p hp=>?_) (by simpa using rv.append (.cons r8 .nil)) (by rw[zah,zbh];omega) (hN _ _ q8);rcases zal.mp hp with hp|hp
     ·have e:=za9.mp hp;subst e;exact⟨on,p2,p3,p4,λ v=>by simp⟩
     ·exact It.pin p (zaa _ hp)
    ·rcases Df I2 av e with ⟨_,a2⟩|e'
     ·exact absurd (a2.symm.trans z) (Nat.ne_of_gt (Nat.lt_succ_of_le fg))
     ·obtain⟨v,o,ho,_⟩:=I2.cell x c e';exact absurd (zai ho) (by rw[z];exact Nat.not_lt.mpr bz)
    ·have oj:p∈JK fp s5.heap:=by simpa [blockOf] using hp
     exact oh p.1 (QG oj).1 z
 exact codeAny_compStart_list (loop _ rfl) (T.self _ 0 _ _ _ (T.keep _ _ _ c4 λ b hb o e=>old b o e) (loop _ rfl))
def WC (hc:X.calm=true)(hi:PI X tg iter wi)(av:Ho scope X.env.scope=true)(bc:Ql X.N NB scope μ=true)(jd:Lx μ g)(hb:∀(s:Shared) (H:Hp) (C:Addr) (ex:List Addr),PG (blockOf X s H scope C NB ex) tg g/\uI (blockOf X s H scope C NB ex) ifs (tc s H C ex)/\PE (blockOf X s H scope C NB ex) elt (te s H C ex))(hs:∀x,foldedSetIterable iter X.env x=pure x:=by intro _;rfl):PE X (.ListComp elt [⟨tg,iter,ifs,0⟩] scope pos) (Tq wi μ g tc te):=by
 intro pins s σ H Q I h;have bn:∀y∈scope.names,y.2=.local->scope.names.lookup y.1=some .local:=λ y hy=>(Kf av hy).2.2;have bG:closureFor scope X.env=pure (Gi X.env.cells scope.names []):=Jk λ y hy e=>JN I av (x:=y.1) (by rw[<-e];exact hy);rw[eval_ListComp];refine wpAny_comprehension_free (use:=none) rfl hs bG (Lw av) bn (B9 (hi pins s σ H _ I h) λ v s1 h1=>B9 h1 λ ls s2 h2=>?_);obtain⟨it,fp,tn,J,H2,e,I2,T,c4,f2,q⟩:=h2;subst e;refine QO (RR:=λ acc C=>compPost (model X.prog X.w) X.A X.xe none (EP X pins σ Q) acc C) hc I2 T c4 f2 av bc jd hb (λ C=>q s2 C fp) ?_;intro D C s' H' ys m hD hC c9 hn nC hI hq;exact⟨m,hn,λ h' sb=>⟨.ref D,_,hI h' sb,rfl,hq⟩⟩
abbrev wA (i:Nat)(te:TE):TS:=λ D σ H=>te σ H λ x H1=>D.nx (σ.set i (some x)) H1
def WD (hN:X.N.Nodup)(jf:X.N[i]?=some y)(hy:Loc X.env.scope y)(hc:X.calm=true)(hi:PI X tg iter wi)(av:Ho scope X.env.scope=true)(bc:Ql X.N NB scope μ=true)(jd:Lx μ g)(hb:∀(s:Shared) (H:Hp) (C:Addr) (ex:List Addr),PG (blockOf X s H scope C NB ex) tg g/\uI (blockOf X s H scope C NB ex) ifs (tc s H C ex)/\PE (blockOf X s H scope C NB ex) elt (te s H C ex))(bo: ~~~(swapsWith (.ListComp elt [⟨tg,iter,ifs,0⟩] scope pos) (some (.Name y py)) ax.line X.env=pure true))(hs:∀x,foldedSetIterable iter X.env x=pure x:=by intro _;rfl)(hf:X.fn y=true\/X.env.scope.names.lookup y=some .local:=by first|exact .inl rfl|exact .inr rfl|assumption):
 PS X (.Assign [.Name y py] (.ListComp elt [⟨tg,iter,ifs,0⟩] scope pos) ax) (wA i (Tq wi μ g tc te)):=by
 intro pins s σ H D' I h;have bn:∀y∈scope.names,y.2=.local->scope.names.lookup y.1=some .local:=λ y hy=>(Kf av hy).2.2;have bG:closureFor scope X.env=pure (Gi X.env.cells scope.names []):=Jk λ y hy e=>JN I av (x:=y.1) (by rw[<-e];exact hy);rw[exec_Assign_Name_used _ _ _ _ bo];refine wpAny_bind (wpAny_standAt (wpAny_bind ?_));show wpAny _ X.A (do let _ <-comprehension (.ListComp elt [⟨tg,iter,ifs,0⟩] scope pos) scope X.env _ (newList []) false (eval iter X.env) (some (assign (.Name y py) X.env))) _ _ s;refine wpAny_bind (wpAny_mono (wpAny_comprehension_free (use:=some (assign (.Name y py) X.env)) (Q:=λ _ s'=>SP X pins D' .next s') rfl hs bG (Lw av) bn (B9 (hi pins s σ H _ I h) λ v s1 h1=>B9 h1 λ ls s2 h2=>?_)) (λ _ s' hq=>wpAny_pure (wpAny_pure hq)) λ _ _ e=>e);obtain⟨it,fp,tn,J,H2,e,I2,T,c4,f2,q⟩:=h2;subst e;refine QO (RR:=λ acc C=>compPost (model X.prog X.w) X.A X.xe (some (assign (.Name y py) X.env)) (λ _ s'=>SP X pins D' .next s') acc C) hc I2 T c4 f2 av bc jd hb (λ C=>q s2 C fp) ?_;intro D C s' H' ys m hD hC c9 hn nC hI hq;have I':=hI s'.heap (.refl ..);show wpAny _ X.A (assign (.Name y py) X.env (.ref D)) _ _ _;refine wpAny_assign_Name (QE (i:=i) (v:=.ref D) I' hN jf hy rfl (λ i4 wn oq=>?_) hf);obtain⟨a,sb,ha⟩:=oq;have h8:a≠C:=by
  rcases ha with z|z
  ·rw[z];exact zax (zam I2.lt hC)
  ·obtain⟨v,o,ho,_⟩:=I2.cell y a z;exact zax (zam (zai ho) hC)
 refine⟨m,hn.sameBut sb (zbl h8),λ h' d0=>?_⟩;refine⟨_,_,wn.turned (it:=C) (t':=i4.toks) (λ b o hb e=>(d0.2 b hb).trans e) (by rw[Ai (zbl c9)];exact nC) (Nat.ne_of_gt (zam I2.lt hC)) (.inr (zc0 I2.sz hC)) (λ x c e z=>?_) (λ p hp z=>?_),hq⟩
 ·obtain⟨v,o,ho,_⟩:=I2.cell x c e;exact absurd (zai ho) (by rw[z];exact Nat.not_lt.mpr hC)
 ·exact absurd (zai (I2.pin p hp).1) (by rw[z];exact Nat.not_lt.mpr hC)
end
abbrev Ite (K:za1)(a:Addr):It:=
 ⟨λ i H=>∃xs x,DB K H a xs/\xs[i]?=some x,λ i H v H'=>∃p x,H p=none/\v=.ref p/\(∀xs,DB K H a xs->xs[i]?=some x)/\H'=upd H p (.tup [.int i,x]),λ i H=>∃xs,DB K H a xs/\xs.length<=i⟩
def Vq {e}(I:Inv X pins σ H s)(he:MR X pins H e)(hi:MR X pins H it)(k:∀b o,b≠e->b≠it->s.heap.get? b=some o->h'.get? b=some o):Inv X pins σ H {s with heap:=h',toks:=t' }:=by
 obtain⟨e0,e1,e2,e3,e4,e5⟩:=he;obtain⟨f0,f1,f2,f3,f4,f5⟩:=hi;have ne:∀b u,H b=some u->b≠e/\b≠it:=λ b u q=>⟨λ z=>(by rw[z,e0] at q;cases q),λ z=>(by rw[z,f0] at q;cases q)⟩;refine I.step (g':=s.gens) (d':=s.drawn) (ch:=[e,it]) (λ b hb=>?_) (λ b o _ _ hc q _=>k b o (λ z=>hc (by simp[z])) (λ z=>hc (by simp[z])) q) (λ b o _ _ hc q _=>⟨o.slots,k b o (λ z=>hc (by simp[z])) (λ z=>hc (by simp[z])) q⟩) (λ _ _ _ _ n=>n)
  (λ b o hc q=>⟨o,k b o (λ z=>hc (by simp[z])) (λ z=>hc (by simp[z])) q⟩) (λ _ _ q=>q) (λ _ _ _ q=>q) (λ b ps q=>⟨#[],by rw[q];simp⟩) (λ m hm=>?_) (λ b u q=>?_) I.bare
 ·rcases zab.mp hb with z|z
  ·subst z;exact⟨e3,e1,e4,e5⟩
  ·have z:=za9.mp z;subst z;exact⟨f3,f1,f4,f5⟩
 ·obtain⟨o,es,ep,ho,r⟩:=hm;exact⟨o,es,ep,k _ o (zbl e1) (zbl f1) ho,r⟩
 ·refine (I.AF b u q).Qc (λ c v hc z=>k c v ?_ ?_ z) (λ _ z=>z) λ _ _ z=>z
  ·rcases hc with z|z
   ·rw[z];exact (ne b u q).1
   ·exact (ne c _ z).1
  ·rcases hc with z|z
   ·rw[z];exact (ne b u q).2
   ·exact (ne c _ z).2
def XO {K}{x1}(a e it:Addr)(ad:e≠it):
 Turn P w K (.Tuple bH x1 aS) (Ite K a) [e,it] e (λ i h=>(∃old,IsEnum h e it i old)/\h.IsListIter it a i) where
 mem:=by simp
 obj:=λ i h st b hb=>by
  obtain⟨⟨old,h1⟩,o,h2,c,d⟩:=st;rcases zab.mp hb with z|z
  ·subst z;exact⟨_,h1,λ v z=>by cases z⟩
  ·have z:=za9.mp z;subst z;exact⟨o,h2,λ v z=>by rw[d] at z;cases z⟩
 keep:=λ i h h' st k=>⟨let ⟨old,h1⟩:=st.1;⟨old,k e (by simp) _ h1⟩,st.2.at λ o e=>k it (by simp) o e⟩
 item:=by
  intro X hP hw hK hc i pins s σ H E I hf st hg;subst hP hw hK;obtain⟨xs,x,hq,hx⟩:=hg;obtain⟨⟨old,he⟩,hit⟩:=st;obtain⟨aa,rv,p,hz⟩:=I.list hq;obtain⟨u,hu,ru⟩:=rv.get hx;have fe:=hf e (by simp);have fi:=hf it (by simp);refine wpAny_pyNext_enum_item he hit p.isList (x:=u) (by simpa using hu) ad λ h1 dq oy ht hsz hk=>?_;refine⟨_,rfl,wpAny_letOwnedTupleGo_enum (s:={s with heap:=h1,toks:=s.toks+1}) dq λ h2 wo a9=>?_⟩;have bp:zcv e h1 h2:=a9;have nt:s.heap.objs.size≠e:=Nat.ne_of_gt (zai he);have wp:s.heap.objs.size≠it:=by
   obtain⟨o,ho,_⟩:=hit;exact Nat.ne_of_gt (zai ho)
  have I1:Inv X pins σ H {s with heap:=h2,toks:=s.toks+1}:=Vq I fe fi λ b o hb aE q=>(bp.2 b hb).trans (hk b o hb aE q);have tup:h2.get? s.heap.objs.size=some {cls:=.type "tuple",data:=.seq #[.int i s.toks,u]}:=(bp.2 _ nt).trans ht;have nH:H s.heap.objs.size=none:=I.AF.fresh (zaf _);have vv:Vals [.int i,x] [.int i s.toks,u]:=.cons ⟨_,rfl⟩ (.cons ru .nil);have o7:GX X.prog X.w (upd H s.heap.objs.size (.tup [.int i,x])) h2:=I1.AF.adopt nH ⟨by show 2<=sizeLine;decide,_,vv,⟨_,tup,rfl,_,rfl⟩⟩;have I2:Inv X pins σ (upd H s.heap.objs.size (.tup [.int i,x])) {s with heap:=h2,toks:=s.toks+1}:=by
   refine I.step (g':=s.gens) (d':=s.drawn) (ch:=[e,it]) (λ b hb=>?_) (λ b o _ _ hc q _=>(bp.2 b (λ z=>hc (by simp[z]))).trans (hk b o (λ z=>hc (by simp[z])) (λ z=>hc (by simp[z])) q)) (λ b o _ _ hc q _=>⟨o.slots,(bp.2 b (λ z=>hc (by simp[z]))).trans (hk b o (λ z=>hc (by simp[z])) (λ z=>hc (by simp[z])) q)⟩)
    (λ b o hc q n=>by rw[Ai (zax (zai q))];exact n) (λ b o hc q=>⟨o,(bp.2 b (λ z=>hc (by simp[z]))).trans (hk b o (λ z=>hc (by simp[z])) (λ z=>hc (by simp[z])) q)⟩)
    (λ b xs q=>by rw[Ai (AO q nH)];exact q) (λ b o u q=>by rw[Ai (AO q nH)];exact q) (λ b ps q=>⟨#[],by rw[Ai (AO q nH),q];simp⟩) (λ m hm=>?_) o7 I.bare
   ·rcases zab.mp hb with z|z
    ·subst z;exact⟨fe.2.2.2.1,fe.2.1,fe.2.2.2.2.1,fe.2.2.2.2.2⟩
    ·have z:=za9.mp z;subst z;exact⟨fi.2.2.2.1,fi.2.1,fi.2.2.2.2.1,fi.2.2.2.2.2⟩
   ·obtain⟨o,es,ep,ho,r⟩:=hm;exact⟨o,es,ep,(bp.2 _ (zbl fe.2.1)).trans (hk _ o (zbl fe.2.1) (zbl fi.2.1) ho),r⟩
  refine⟨.ref s.heap.objs.size,_,I2,rfl,⟨_,x,nH,rfl,λ ys hy=>by rw[I.Hw hy hq];exact hx,rfl⟩,⟨⟨u,wo⟩,oy.at λ o q=>(bp.2 it (zbl ad)).trans q⟩,λ b hb=>?_⟩;have aE:b≠s.heap.objs.size:=by
   rcases zab.mp hb with z|z
   ·rw[z];exact zbl nt
   ·rw[za9.mp z];exact zbl wp
  rw[Ai aE];exact (hf b hb).1
 done:=by
  intro X hP hw hK hc i pins s σ H E I hf st hg;subst hP hw hK;obtain⟨xs,hq,hx⟩:=hg;obtain⟨⟨old,he⟩,hit⟩:=st;obtain⟨aa,rv,p,hz⟩:=I.list hq;have hl:=rv.length;obtain⟨f0,f1,f2,f3,f4,f5⟩:=hf it (by simp);exact wpAny_pyNext_enum_end (I.ok.hd hc) he hit p.isList (by simp;omega) λ h' eb=>⟨rfl,I.turned (t':=s.toks) (λ b o hb e=>eb b o hb e) f0 f1 f3 f4 f5⟩
 self:=λ _ _ _ _ _ st h=>let ⟨_,he⟩:=st.1;wpAny_pyIter_enum he h
abbrev wB (K:za1)(ta:TA):TI:=λ σ H R=>ta σ H λ vs H1=>∃a,vs=[.ref a]/\(∃xs,DB K H1 a xs)/\R (Ite K a) H1
def jQ {x1}(hg:Gl X "enumerate")(hm:X.mg "enumerate" = none)(ha:PA X [a] ta)(hb:bootBuiltins "enumerate" = some (.type "enumerate"):=by decide +kernel)(hs: ~~~(starEach [a] X.env=[(false,eval a X.env)])):
 PI X (.Tuple bH x1 aS) (.Call (.Name "enumerate" p) [a] [] pos) (wB X.K ta):=by
 intro pins s σ H R I h;refine Call_ (DY I hg hm hb (zbj (B9 (ha pos pins s σ H _ I h) λ us s1 zz=>?_) hs rfl));obtain⟨vs,H1,I1,r1,q1⟩:=zz;obtain⟨j,e,⟨xs,hq⟩,q⟩:=q1;subst e;cases r1 with
 |cons r rr =>
  cases rr;cases r;obtain⟨aa,rv,p,hz⟩:=I1.list hq;refine call_enumerate_list p.isList λ h' he hit hsz hk=>?_;refine wpAny_pyIter_enum (s:={s1 with heap:=h' }) he ?_;have I2:Inv X pins σ H1 {s1 with heap:=h' }:=I1.kept (t':=s1.toks) hk;refine⟨_,[s1.heap.objs.size+1,s1.heap.objs.size],_,_,H1,rfl,I2,XO j _ _ (Nat.succ_ne_self _),⟨⟨_,he⟩,hit⟩,λ b hb=>?_,q⟩;rcases zab.mp hb with z|z
  ·rw[z];exact I1.V7 (Nat.le_succ _) (I1.AF.fresh (Nat.le_succ _))
  ·rw[za9.mp z];exact I1.V7 (zaf _) (I1.AF.fresh (zaf _))
abbrev FI {α:Type}(o:Option (α×List Int))(b:α×List Int):Option (α×List Int):=match o with | none=>some b | some c=>if HT.lexLt b.2 c.2=true then some b else some c
abbrev C2 {α:Type}(bs:List (α×List Int)):Option (α×List Int):=bs.foldl FI none
abbrev Kg (bs:List (Addr×List Int)):Array Value:=match C2 bs with | none=>#[] | some b=>#[.ref b.1,.ref b.1]
def JO {α:Type}(bs:List (α×List Int))(b:α×List Int):C2 (bs++[b])=match C2 bs with | none=>some b | some c=>if HT.lexLt b.2 c.2=true then some b else some c:=by
 unfold C2;rw[List.foldl_append];rfl
def XQ {α:Type}:∀(bs:List (α×List Int)) (b:α×List Int),C2 bs=some b->b∈bs:=by
 intro bs
 suffices h:∀(bs:List (α×List Int)) (o:Option (α×List Int)) (b:α×List Int),bs.foldl FI o=some b->b∈bs\/o=some b by
  intro b hb;rcases h bs none b hb with q|q
  ·exact q
  ·cases q
 intro bs;induction bs with
 |nil=>intro o b h;exact .inr h
 |cons x r ih =>
  intro o b h;rw[zat] at h;rcases ih _ _ h with q|q
  ·exact .inl (za4 _ q)
  ·cases o with
   |none=>cases q;exact .inl za3
   |some c =>
    unfold FI at q;dsimp only at q;split at q
    ·cases q;exact .inl za3
    ·exact .inr q
def O1 {α:Type}(o:Option (α×List Int))(b:α×List Int):FI o b≠none:=by
 unfold FI;split
 ·intro z;cases z
 ·split<;>(intro z;cases z)
def bI {α:Type}:∀ {bs:List (α×List Int)},bs≠[]->C2 bs≠none:=by
 intro bs h;unfold C2
 suffices z:∀(bs:List (α×List Int)) (o:Option (α×List Int)),o≠none->bs.foldl FI o≠none by
  cases bs with
  |nil=>exact (h rfl).elim
  |cons b r=>rw[zat];exact z r _ (O1 _ _)
 intro bs;induction bs with
 |nil=>intro o h;exact h
 |cons b r ih=>intro o h;rw[zat];exact ih _ (O1 _ _)
abbrev wC (o:Option Value):List (Str×Value):=o.toList.map λ d=>(Str.ofString "default",d)
def bJ (a:Value)(o:Option Value):argsOk "min" ⟨[a],wC o⟩:=by cases o<;>(unfold argsOk;kernel_rfl)
section
variable {prog:Program}{R:Result->Shared->Prop}
def bK (bs:List (Addr×List Int))(tv:Addr->Array Value)(l I S:Addr)(o:Option Value)(o9:o=none->bs≠[])(hh:A.handled=none)(hu:A.in1.units<cLine)(l9:S≠I)(me:l≠I)(uk:l≠S)(pc:∀b∈bs,b.1≠I/\b.1≠S)
 (hk:∀b∈bs,IntsAre (tv b.1).toList b.2):∀(k j:Nat) (s:Shared) (c:Nat),bs.length-j=k->j<=bs.length->s.heap.IsListIter I l j->s.heap.IsList l (bs.map λ b=>zb7 b.1).toArray->(∀b∈bs,IsTup s.heap b.1 (tv b.1))->
  s.heap.get? S=some {cls:=.type "list",dict:=none,data:=.seq (Kg (bs.take j)) c,slots:=#[]} ->
  (∀h' tk,(∀b o,b≠I->b≠S->s.heap.get? b=some o->h'.get? b=some o)->R (.ok (.ret (match C2 bs with|none=>o.getD .none|some b=>.ref b.1))) {s with heap:=h',toks:=tk})->
  codeAny (model prog w) A (.builtin "min.loop" ⟨[.ref I,.none,.ref S],wC o⟩) R s:=by
 have bd:(toString "min" ++ toString ".loop" : String) = "min.loop" := by decide
 intro k;induction k with
 |zero =>
  intro j s c hr hj hit hl ht hS hR;have b5:j=bs.length:=by omega
  subst b5;rw[zch] at hS;refine codeAny_builtin PySem.F.entry_min_loop ?_;rw[Around.under_plainId zcd _];show wpAny _ A.in1 (seqItems? (.ref S) >>= _) _ _ s;refine wpAny_bind (wpAny_seqItems hS rfl ?_);show wpAny _ A.in1 (tryCatch (pyNext (.ref I)) _ >>= _) _ _ s;refine wpAny_bind (wpAny_tryCatch (wpAny_pyNext_list_end (A:=A.in1) hh hit hl (by simp) λ h' eb=>?_));have be:h'.get? S=_:=eb S _ l9 hS;unfold Kg at be;cases hb:C2 bs with
  |none =>
   unfold Kg;rw[hb];cases o with
   |none=>exact (bI (o9 rfl) hb).elim
   |some d =>
   show wpAny _ A.in1 (rule _ >>= _) _ _ _;refine wpAny_bind (wpAny_rule (wpAny_pure ?_));have q:=hR h' s.toks λ b o h1 h2 e=>eb b o h1 e;rw[hb] at q;exact q
  |some b =>
   rw[hb] at be;unfold Kg;rw[hb];show wpAny _ A.in1 (updateSeq S (λ _=>#[]) >>= _) _ _ _;refine wpAny_bind ?_;refine wpAny_updateSeq be rfl (wpAny_bind (wpAny_letGo (wpAny_pure ?_)));have q:=hR (h'.update S (Obj.mapSeq λ _=>#[])) s.toks λ b o h1 h2 e=>(Heap.get?_update_other _ _ (zbl h2)).trans (eb b o h1 e);rw[hb] at q;exact q
 |succ k ih =>
  intro j s c hr hj hit hl ht hS hR;have ah:j<bs.length:=by omega
  have ej:bs.take (j+1)=bs.take j++[bs[j]]:=by rw[zcz,za7 ah];rfl
  have mj:bs[j]∈bs:=List.getElem_mem ah;refine codeAny_builtin PySem.F.entry_min_loop ?_;rw[Around.under_plainId zcd _];show wpAny _ A.in1 (seqItems? (.ref S) >>= _) _ _ s;refine wpAny_bind (wpAny_seqItems hS rfl ?_);show wpAny _ A.in1 (tryCatch (pyNext (.ref I)) _ >>= _) _ _ s;refine wpAny_bind (wpAny_tryCatch (wpAny_pyNext_list_item (A:=A.in1) hit hl (x:=.ref bs[j].1) (by simp[ah]) λ h' bL sb=>?_));have d0:zcv I s.heap h':=sb;have be:h'.get? S=_:=(d0.2 S l9).trans hS;have iu:h'.IsList l (bs.map λ b=>zb7 b.1).toArray:=hl.at λ o e=>(d0.2 l me).trans e;have jg:∀b∈bs,IsTup h' b.1 (tv b.1):=λ b hb=>by
   obtain⟨o,ho,r⟩:=ht b hb;exact⟨o,(d0.2 b.1 (pc b hb).1).trans ho,r⟩
  cases hb:C2 (bs.take j) with
  |none =>
   unfold Kg at be ⊢;rw[hb] at be ⊢;show wpAny _ A.in1 (updateSeq S (λ _=>#[.ref bs[j].1,.ref bs[j].1]) >>= _) _ _ _;refine wpAny_bind ?_;refine wpAny_updateSeq be rfl ?_;rw[bd];have s1:=Heap.SameBut.update h' S (Obj.mapSeq λ _=>(#[.ref bs[j].1,.ref bs[j].1]:Array Value));refine wpAny_pure ⟨plainId_quiet zcd _,ih (j+1) _ (c+1) (by omega) ah (bL.at λ o e=>(s1.2 I (zbl l9)).trans e) (iu.at λ o e=>(s1.2 l uk).trans e) (λ b hb=>?_) ?_ λ jh tk bM=>?_⟩
   ·obtain⟨o,ho,r⟩:=jg b hb;exact⟨o,(s1.2 b.1 (pc b hb).2).trans ho,r⟩
   ·refine (Heap.get?_update_self _ be rfl).trans ?_;unfold Kg;rw[ej,JO,hb];rfl
   ·exact hR jh tk λ b o h1 h2 e=>bM b o h1 h2 ((s1.2 b h2).trans ((d0.2 b h1).trans e))
  |some m =>
   have mm:m∈bs:=zca (XQ _ _ hb);unfold Kg at be ⊢;rw[hb] at be ⊢;show wpAny _ A.in1 (tryCatch (holding [.ref bs[j].1,.ref bs[j].1] (richCompare .Lt (.ref bs[j].1) (.ref m.1) >>= _)) _ >>= _) _ _ _;refine wpAny_bind (wpAny_tryCatch (wpAny_holding (wpAny_bind (HT.NR (jg _ mj) (jg _ mm) (hk _ mj) (hk _ mm) hu ?_))));refine wpAny_bind (wpAny_holding (wpAny_truthy_bool ?_));refine wpAny_bind (wpAny_letGo (wpAny_pure ?_));cases hc:HT.lexLt bs[j].2 m.2 with
   |true =>
    simp only[if_true];have s1:=Heap.SameBut.update h' S (Obj.mapSeq λ _=>(#[.ref bs[j].1,.ref bs[j].1]:Array Value));refine wpAny_bind ?_;refine wpAny_updateSeq be rfl (wpAny_bind (wpAny_letGo ?_));rw[bd];refine wpAny_pure ⟨plainId_quiet zcd _,ih (j+1) _ c (by omega) ah (bL.at λ o e=>(s1.2 I (zbl l9)).trans e) (iu.at λ o e=>(s1.2 l uk).trans e) (λ b hb=>?_) ?_ λ jh tk bM=>?_⟩
    ·obtain⟨o,ho,r⟩:=jg b hb;exact⟨o,(s1.2 b.1 (pc b hb).2).trans ho,r⟩
    ·refine (Heap.get?_update_self _ be rfl).trans ?_;unfold Kg;rw[ej,JO,hb];simp only[hc,if_true];rfl
    ·exact hR jh tk λ b o h1 h2 e=>bM b o h1 h2 ((s1.2 b h2).trans ((d0.2 b h1).trans e))
   |false =>
    simp only[zaz,if_false];refine wpAny_bind (wpAny_letGo ?_);rw[bd];refine wpAny_pure ⟨plainId_quiet zcd _,ih (j+1) _ c (by omega) ah bL iu jg ?_ λ jh tk bM=>?_⟩
    ·refine be.trans ?_;unfold Kg;rw[ej,JO,hb];simp only[hc,zaz,if_false]
    ·exact hR jh tk λ b o h1 h2 e=>bM b o h1 h2 ((d0.2 b h1).trans e)
def Vr (bs:List (Addr×List Int))(tv:Addr->Array Value)(l:Addr)(o:Option Value)(o9:o=none->bs≠[])(hh:A.handled=none)(hu:A.in1.units<cLine)(hl:s.heap.IsList l (bs.map λ b=>zb7 b.1).toArray)(ht:∀b∈bs,IsTup s.heap b.1 (tv b.1))(hk:∀b∈bs,IntsAre (tv b.1).toList b.2)(hQ:∀h' tk,(∀b o,s.heap.get? b=some o->h'.get? b=some o)->Q (match C2 bs with|none=>o.getD .none|some b=>.ref b.1) {s with heap:=h',toks:=tk}):
 wpAny (model prog w) A (call (.builtin "min") [.ref l] (wC o)) Q E s:=by
 have bd:(toString "min" ++ toString ".loop" : String) = "min.loop" := by decide
 obtain⟨ol,pd,_⟩:=id hl;have hll:l<s.heap.objs.size:=zai pd;refine kmk_tree PySem.F.kind_min PySem.F.plain_min PySem.F.entry_min (bJ _ _) ?_;show wpAny _ A.in1 (Builtin.Builtins.bindParams "min" ["key","default"] 0 ⟨[],wC o⟩ >>= _) _ _ s;refine wpAny_bind (wpAny_of_eq (show Builtin.Builtins.bindParams "min" ["key","default"] 0 ⟨[],wC o⟩=pure [none,o] by cases o<;>rfl) ?_);refine wpAny_bind (wpAny_pure ?_);refine wpAny_bind (wpAny_pyIter_list hl ?_);refine wpAny_bind (wpAny_newList ?_ (zba _));rw[bd];have hS:(s.heap.push {cls:=.type "list_iterator",data:=.fields #[.ref l,.int 0 0]}).objs.size=s.heap.objs.size+1:=Heap.size_push ..;have old:∀b o,s.heap.get? b=some o->b≠s.heap.objs.size/\b≠(s.heap.push {cls:=.type "list_iterator",data:=.fields #[.ref l,.int 0 0]}).objs.size:=λ b o e=>⟨zax (zai e),by rw[hS];exact zax (Nat.lt_succ_of_lt (zai e))⟩;have grow:∀b o,s.heap.get? b=some o->((s.heap.push {cls:=.type "list_iterator",data:=.fields #[.ref l,.int 0 0]}).push {cls:=.type "list",data:=.seq #[]}).get? b=some o:=λ b o e=>zad _ (zad _ e);refine wpAny_pure ⟨plainId_quiet zcd _,?_⟩;refine bK bs tv l s.heap.objs.size (s.heap.push {cls:=.type "list_iterator",data:=.fields #[.ref l,.int 0 0]}).objs.size o o9 hh hu (by rw[hS];exact Nat.succ_ne_self _) (old l ol pd).1 (old l ol pd).2 (λ b hb=>?_) hk _ 0 _ 0 rfl (zba _) ?_ ?_ (λ b hb=>?_) ?_ ?_
 ·obtain⟨o,ho,_⟩:=ht b hb;exact old b.1 o ho
 ·exact⟨_,zad _ (zap _ rfl),rfl,rfl⟩
 ·exact hl.at λ o e=>grow l o e
 ·obtain⟨o,ho,r⟩:=ht b hb;exact⟨o,grow b.1 o ho,r⟩
 ·exact zap _ rfl
 ·intro h' tk ji;exact hQ h' tk λ b o e=>ji b o (old b o e).1 (old b o e).2 (grow b o e)
end
section
variable {e2:Expr}{te:TE}{p kp:Pos}
abbrev wD (K:za1)(te td:TE):TE:=λ σ H Q=>te σ H λ x H1=>td σ H1 λ d H2=>∃(a:Addr) (bs:List (Addr×List Int)),x=.ref a/\DB K H2 a (bs.map λ b=>V.ref b.1)/\(∀b∈bs,Fq K H2 b.1 (b.2.map V.int))/\Q (match C2 bs with | none=>d | some b=>.ref b.1) H2
def QP:∀ {bs:List (Addr×List Int)}{us:List Value},Vals (bs.map λ b=>V.ref b.1) us->us=bs.map λ b=>zb7 b.1
 |[],_,.nil=>rfl
 |b::r,_,.cons h t=>by cases h;rw[QP t];rfl
def jR (hc:X.calm=true)(hu:X.A.units+1<cLine)(hg:Gl X "min")(hm:X.mg "min" = none)(he:PE X e te)(hd:PE X e2 td)(a7: ~~~(starEach [e] X.env=[(false,eval e X.env)]))(a5: ~~~((backToKw pos (keywordEach [⟨some "default",e2,kp⟩] X.env)).all (·.1.isSome)=true))(fj: ~~~((backToKw pos (keywordEach [⟨some "default",e2,kp⟩] X.env)).filterMap (·.1)=([("default" : Str)]:List Str)))(pe: ~~~((backToKw pos (keywordEach [⟨some "default",e2,kp⟩] X.env)).any (·.1.isNone)=false))(bN: ~~~(backTo pos (starEach [e] X.env)=(false,eval e X.env)::backTo pos (starEach [] X.env)))(hpl: ~~~((backTo pos (starEach [e] X.env)).any (·.1)=false)):
 PE X (.Call (.Name "min" p) [e] [⟨some "default",e2,kp⟩] pos) (wD X.K te td):=by
 intro pins s σ H Q I h;refine wpAny_Call_Name_kw (DY I hg hm boot_min ?_ (by decide) (by decide));refine callWith_kw (B9 ((Bc he Cd (hs:=a7)) pos pins s σ H (λ vs H1=>match vs with|[x]=>td σ H1 λ d H2=>∃(a:Addr) (bs:List (Addr×List Int)),x=.ref a/\DB X.K H2 a (bs.map λ b=>V.ref b.1)/\(∀b∈bs,Fq X.K H2 b.1 (b.2.map V.int))/\Q (match C2 bs with|none=>d|some b=>.ref b.1) H2|_=>False) I h) λ us s1 zz=>?_) bN hpl a5 pe;obtain⟨vs,H1,I1,r1,q1⟩:=zz;obtain⟨x,rfl⟩:∃x,vs=[x]:=by
  match vs,q1 with
  |[x],_=>exact⟨x,rfl⟩
 refine B9 ((iY hd qM) pos pins s1 σ H1 (λ zs H2=>match zs with|[d]=>∃(a:Addr) (bs:List (Addr×List Int)),x=.ref a/\DB X.K H2 a (bs.map λ b=>V.ref b.1)/\(∀b∈bs,Fq X.K H2 b.1 (b.2.map V.int))/\Q (match C2 bs with|none=>d|some b=>.ref b.1) H2|_=>False) I1 q1) λ ws s2 zz=>?_;obtain⟨zs,H2,I2,r2,q2⟩:=zz;obtain⟨d,rfl⟩:∃d,zs=[d]:=by
  match zs,q2 with
  |[d],_=>exact⟨d,rfl⟩
 obtain⟨a,bs,rfl,hl,hb,q⟩:=q2;obtain⟨ua,rfl,ra⟩:=r1.one;obtain⟨ud,rfl,rd⟩:=r2.one;cases ra;rw[fj];obtain⟨aa,rv,pl,hz⟩:=I2.list hl;have ei:=QP rv;subst ei;have tv:∀a:Addr,∃t:Array Value,∀b∈bs,b.1=a->IsTup s2.heap a t/\IntsAre t.toList b.2:=λ a=>by
  by_cases jj:∃b∈bs,b.1=a
  ·obtain⟨b,jj,rfl⟩:=jj;obtain⟨ts,rt,pt,_⟩:=I2.tuple (hb b jj);refine⟨ts.toArray,λ b' aE e=>⟨pt,?_⟩⟩;have q2:=hb b' aE;rw[e] at q2;have e2:=I2.J1 q2 (hb b jj);rw[<-e2] at rt;simpa using intsAre_of rt
  ·exact⟨#[],λ b aE e=>absurd ⟨b,aE,e⟩ jj⟩
 refine Vr bs (λ b=>za5 (tv b)) a (some ud) (λ h=>by cases h) (I2.ok.hd hc) hu pl.isList (λ b aE=>(za0 (tv b.1) b aE rfl).1) (λ b aE=>(za0 (tv b.1) b aE rfl).2) λ h' tk hk=>?_;refine⟨match C2 bs with|none=>d|some b=>.ref b.1,H2,I2.kept (t':=tk) hk,?_,q⟩;cases C2 bs with
 |none=>exact rd
 |some b=>rfl
end
inductive D where
 |Ax|bl (b:Bool)|int (i:Int)|str (x:Str)|tup (ds:List D)|lst (ds:List D)|Lo (x:Str)|BN (t:Bool) (ks vs:List D)|ins (x:Str) (ns:List Str) (ds:List D)
abbrev Cn:Key->D
 | .inl i=>.int i
 | .inr x=>.str x
def Rd.same (r:Rd H a u)(e:Aj H H'):Rd H' a u:=r.elim (λ h=>.inl (e _ _ h)) λ⟨o,h⟩=>.inr ⟨o,e _ _ h⟩
mutual
inductive BF (K:za1) (H:Hp):V->D->Prop
 |Ax:BF K H .Ax .Ax
 |bl (b):BF K H (.bl b) (.bl b)
 |int (i):BF K H (.int i) (.int i)
 |str (x):BF K H (.str x) (.str x)
 |tup {a xs ds}:H a=some (.tup xs)->Ak K H xs ds->BF K H (.ref a) (.tup ds)
 |lst {a xs ds}:DB K H a xs->Ak K H xs ds->BF K H (.ref a) (.lst ds)
 |SN {a kvs ds}:Rd H a (.dK kvs)->Ak K H (kvs.map zbu) ds->BF K H (.ref a) (.BN false (kvs.map λ kv=>Cn kv.1) ds)
 |Ts {a kvs ds}:Rd H a (.dT kvs)->Ak K H (kvs.map zbu) ds->BF K H (.ref a) (.BN true (kvs.map λ kv=>.tup (kv.1.map Cn)) ds)
 |ins {a C dx fs x ds}:zan K mainGlobals x=some (some (.ref C))->H a=some (.ins C dx fs)->Ak K H (fs.map zbu) ds->BF K H (.ref a) (.ins x (fs.map zay) ds)
 |Lo {a x}:zan K mainGlobals x=some (some (.ref a))->True->BF K H (.ref a) (.Lo x)
inductive Ak (K:za1) (H:Hp):List V->List D->Prop
 |nil:Ak K H [] []
 |cons {x d xs ds}:BF K H x d->Ak K H xs ds->Ak K H (x::xs) (d::ds)
end
def Ak.length {K}:∀ {xs:List V}{ds:List D},Ak K H xs ds->xs.length=ds.length
 |_,_,.nil=>rfl
 |_,_,.cons _ t=>by rw[za8,za8,Ak.length t]
def Ak.get {K:za1}{H:Hp}:∀ {xs:List V}{ds:List D}{i:Nat}{d:D},Ak K H xs ds->ds[i]?=some d->∃x,xs[i]?=some x/\BF K H x d
 |_,_,_,_,.nil,e=>by simp at e
 |_,_,0,_,.cons r _,e=>by simp at e;subst e;exact⟨_,rfl,r⟩
 |_,_,i+1,d,.cons _ t,e=>by
  obtain⟨u,h1,h2⟩:=Ak.get (i:=i) (d:=d) t (by simpa using e);exact⟨u,by simpa using h1,h2⟩
def Ak.rE {K:za1}{H:Hp}:∀ {xs:List V}{ds:List D}{i:Nat}{x:V},Ak K H xs ds->xs[i]?=some x->∃d,ds[i]?=some d/\BF K H x d
 |_,_,_,_,.nil,e=>by simp at e
 |_,_,0,_,.cons r _,e=>by simp at e;subst e;exact⟨_,rfl,r⟩
 |_,_,i+1,d,.cons _ t,e=>by
  obtain⟨u,h1,h2⟩:=Ak.rE (i:=i) (x:=d) t (by simpa using e);exact⟨u,by simpa using h1,h2⟩
def Ak.append {K:za1}{H:Hp}:∀ {xs ys:List V}{ds es:List D},Ak K H xs ds->Ak K H ys es->Ak K H (xs++ys) (ds++es):=by
 intro _ _ _ _ x_ h;cases x_ with
 |nil=>exact h
 |cons r t=>exact .cons r (Ak.append t h)
def Ak.snoc {K}(h:Ak K H xs ds)(r:BF K H x d):Ak K H (xs++[x]) (ds++[d]):=h.append (.cons r .nil)
def Ak.take {K}:∀ {xs:List V}{ds:List D}(n:Nat),Ak K H xs ds->Ak K H (xs.take n) (ds.take n)
 |_,_,0,_|_,_,_+1,.nil=>.nil
 |_,_,n+1,.cons r t=>.cons r (Ak.take n t)
def Ak.drop {K}:∀ {xs:List V}{ds:List D}(n:Nat),Ak K H xs ds->Ak K H (xs.drop n) (ds.drop n)
 |_,_,0,r=>r
 |_,_,_+1,.nil=>.nil
 |_,_,n+1,.cons _ t=>Ak.drop n t
def Ak.ints {K}:∀(ns:List Int),Ak K H (ns.map V.int) (ns.map D.int)
 |[]=>.nil
 |n::r=>.cons (.int n) (Ak.ints r)
def Aj.aaz {K}(e:Aj H H')(h:Fq K H a xs):Fq K H' a xs:=by
 rcases h with (h|⟨o,h⟩)|h
 ·exact .inl (.inl (e _ _ h))
 ·exact .inl (.inr ⟨o,e _ _ h⟩)
 ·exact .inr h
mutual
theorem BF.mono {K:za1}{H H':Hp}(e:Aj H H'):∀ {v:V}{d:D},BF K H v d->BF K H' v d:=by
 intro _ _ x_;cases x_ with
 |Ax=>exact .Ax
 |bl b=>exact .bl b
 |int i=>exact .int i
 |str x=>exact .str x
 |tup h r=>exact .tup (e _ _ h) (Ak.mono e r)
 |lst h r=>exact .lst (e.seq h) (Ak.mono e r)
 |SN h r=>exact .SN (h.same e) (Ak.mono e r)
 |Ts h r=>exact .Ts (h.same e) (Ak.mono e r)
 |ins n h r=>exact .ins n (e _ _ h) (Ak.mono e r)
 |Lo h r=>exact .Lo h r
theorem Ak.mono {K:za1}{H H':Hp}(e:Aj H H'):∀ {vs:List V}{ds:List D},Ak K H vs ds->Ak K H' vs ds:=by
 intro _ _ x_;cases x_ with
 |nil=>exact .nil
 |cons h t=>exact .cons (BF.mono e h) (Ak.mono e t)
end
def AK (h:H p=none)(o:HO):Aj H (upd H p o):=λ b u q=>by rw[Ai (AO q h)];exact q
mutual
noncomputable def Br:D->D->Bool
 | .Ax,.Ax=>true
 | .bl a,.bl b| .int a,.int b| .str a,.str b=>a==b
 | .bl a,.int b=>(if a then 1 else 0)==b
 | .int a,.bl b=>a==(if b then 1 else 0)
 | .tup a,.tup b| .lst a,.lst b=>C9 a b
 | .Lo a,.Lo b=>a==b
 | .BN s a b,.BN t c d=>(s==t)&&(C9 a c&&C9 b d)
 | .ins x n a,.ins y m b=>(x==y)&&((n==m)&&C9 a b)
 |_,_=>false
noncomputable def C9:List D->List D->Bool
 |[],[]=>true
 |a::r,b::t=>Br a b&&C9 r t
 |_,_=>false
end
mutual
theorem O2:∀d:D,Br d d=true
 | .Ax=>by simp[Br]
 | .bl b| .int b| .str b=>by simp[Br]
 | .tup b| .lst b=>by simp only[Br];exact CL b
 | .Lo b=>by simp[Br]
 | .BN s a b=>by simp only[Br];rw[CL a,CL b];simp
 | .ins x n a=>by simp only[Br];rw[CL a];simp
theorem CL:∀d:List D,C9 d d=true
 |[]=>by simp[C9]
 |a::r=>by simp only[C9,O2 a,CL r,Bool.and_true]
end
mutual
noncomputable def Cp:D->Bool
 | .tup a| .lst a=>Ly a
 | .Lo _| .BN _ _ _| .ins _ _ _=>false
 |_=>true
noncomputable def Ly:List D->Bool
 |[]=>true
 |a::r=>Cp a&&Ly r
end
def RT:∀ {ds:List D}{d:D},d∈ds->Ly ds=true->Cp d=true
 |a::r,d,h,q=>by
  rw[Ly,zb4] at q;rcases zab.mp h with z|z
  ·subst z;exact q.1
  ·exact RT z q.2
mutual
noncomputable def SO:D->Nat
 | .tup a| .lst a=>RU a+1
 |_=>0
noncomputable def RU:List D->Nat
 |[]=>0
 |a::r=>max (SO a) (RU r)
end
def WE:∀ {ds:List D}{d:D},d∈ds->SO d<=RU ds
 |a::r,d,h=>by
  rw[RU];rcases zab.mp h with z|z
  ·subst z;exact Nat.le_max_left _ _
  ·exact zc0 (WE z) (Nat.le_max_right _ _)
def Tt:∀ {a b:List D},C9 a b=true->a.length=b.length
 |[],[],_=>rfl
 |[],_::_,h|_::_,[],h=>by simp[C9] at h
 |a::r,b::t,h=>by
  simp only[C9,zb4] at h;rw[za8,za8,Tt h.2]
def JP:∀(a b:List D),a.length=b.length->(zb8 a.length).all (λ j=>Br (a.getD j .Ax) (b.getD j .Ax))=C9 a b
 |[],[],_=>by simp[C9]
 |a::r,b::t,h=>by
  have ih:=JP r t (by simpa using h);rw[za8,List.range_succ_eq_map,List.all_cons,List.all_map,C9,<-ih];simp[Function.comp_def]
 |[],_::_,h|_::_,[],h=>by cases h
def WG (h:a.length≠b.length):C9 a b=false:=by
 cases e:C9 a b with
 |false=>rfl
 |true=>exact absurd (Tt e) h
def bO (a b:List D):((zb8 (min a.length b.length)).all (λ j=>Br (a.getD j .Ax) (b.getD j .Ax))&&(a.length==b.length))=C9 a b:=by
 by_cases h:a.length=b.length
 ·rw[<-JP a b h,h];simp
 ·rw[WG h,beq_false_of_ne h,Bool.and_false]
def WH (I:Inv X pins σ H s)(h:DB X.K H a xs)(h':Fq X.K H a ys):False:=by
 obtain⟨aa,_,⟨o,n,e,c,_,_⟩,_⟩:=I.list h;obtain⟨its',_,⟨o',e',c',_⟩,_⟩:=I.tuple h';rw[e] at e';cases e';rw[c] at c';revert c';decide
mutual
theorem jS (I:Inv X pins σ H s){v:V}{d d':D}(n1:Cp d=true)(n2:Cp d'=true)(h:BF X.K H v d)(h':BF X.K H v d'):d=d':=by
 cases h with
 |tup h r =>
  cases h' with
  |tup h' r' =>
   have e:=I.J1 (.of h) (.of h');subst e;rw[HC I (by rw[Cp] at n1;exact n1) (by rw[Cp] at n2;exact n2) r r']
  |lst h' _=>exact (WH I h' (.of h)).elim
  |_=>rw[Cp] at n2;cases n2
 |lst h r =>
  cases h' with
  |lst h' r' =>
   have e:=I.Hw h h';subst e;rw[HC I (by rw[Cp] at n1;exact n1) (by rw[Cp] at n2;exact n2) r r']
  |tup h' _=>exact (WH I h (.of h')).elim
  |_=>rw[Cp] at n2;cases n2
 |Ax|bl _|int _|str _=>cases h';rfl
 |_=>rw[Cp] at n1;cases n1
theorem HC (I:Inv X pins σ H s){v:List V}{d d':List D}(n1:Ly d=true)(n2:Ly d'=true)(h:Ak X.K H v d)(h':Ak X.K H v d'):d=d':=by
 cases h with
 |nil=>cases h';rfl
 |cons h r =>
  cases h' with
  |cons h' r' =>
   rw[Ly,zb4] at n1 n2;rw[jS I n1.1 n2.1 h h',HC I n1.2 n2.2 r r']
end
def vat (r:Vals xs aa)(j:Nat)(h:j<aa.toArray.size):∃x,xs[j]?=some x/\RelV x aa.toArray[j]:=by
 have h':j<aa.length:=by simpa using h
 have hx:j<xs.length:=by rw[r.length];exact h'
 obtain⟨u,hu,ru⟩:=r.get (za7 hx);rw[za7 h'] at hu;refine⟨xs[j],za7 hx,?_⟩;have e:aa.toArray[j]=u:=by simpa using hu
 rw[e];exact ru
def WI {ds:List D}(h:ds[j]?=some d):ds.getD j .Ax=d:=by rw[zbb,h];rfl
def nQ (I:Inv X pins σ H s)(n:Nat):∀(A:Around) (d e:D) (v w:V) (u1 u2:Value),SO d<=n->Cp d=true->Cp e=true->A.units+n<cLine->BF X.K H v d->BF X.K H w e->RelV v u1->RelV w u2->SeqAt.EqAt A s u1 u2 (Br d e)/\SeqAt.RcAt A s u1 u2 (Br d e)/\SeqAt.RcNeAt A s u1 u2 (!Br d e):=by
 induction n using Nat.strongRecOn with
 |ind n ih =>
  intro A d e v w u1 u2 hd aA aw hu h1 h2 r1 r2;have ai:A.units<cLine:=by omega
  have el:∀ {xs ys:List V} {ds es:List D} {aa its':List Value},Vals xs aa->Vals ys its'->Ak X.K H xs ds->Ak X.K H ys es->Ly ds=true->Ly es=true->RU ds<n->∀(j:Nat) (h1:j<aa.toArray.size) (h2:j<its'.toArray.size),SeqAt.EqAt A.in1 s aa.toArray[j] its'.toArray[j] (Br (ds.getD j .Ax) (es.getD j .Ax)):=λ rv da r r' n1 n2 hn j h1 h2=>by
   obtain⟨x,hx,rx⟩:=vat rv j h1;obtain⟨y,hy,ry⟩:=vat da j h2;obtain⟨dx,ex,wq⟩:=r.rE hx;obtain⟨dy,ey,wr⟩:=r'.rE hy;rw[WI ex,WI ey];exact (ih _ hn A.in1 dx dy x y _ _ (WE (zao ex)) (RT (zao ex) n1) (RT (zao ey) n2) (by show A.units+1+_<cLine;omega) wq wr rx ry).1
  cases h1 with
  |Lo _ _|SN _ _|Ts _ _|ins _ _ _=>simp[Cp] at aA
  |Ax =>
   cases r1;cases h2 with
   |Lo _ _|SN _ _|Ts _ _|ins _ _ _=>simp[Cp] at aw
   |Ax=>cases r2;simp only[Br];exact⟨.same _,.none_none,.none_none⟩
   |bl b=>cases r2;simp only[Br];exact⟨.none_bool _,.none_bool _,.none_bool _⟩
   |int b=>obtain⟨t,rfl⟩:=r2;simp only[Br];exact⟨.none_int _ _,.none_int _ _,.none_int _ _⟩
   |str b=>obtain⟨t,rfl⟩:=r2;simp only[Br];exact⟨.none_str _ _,.none_str _ _,.none_str _ _⟩
   |tup h r=>cases r2;simp only[Br];obtain⟨_,_,p,_⟩:=I.tuple (.of h);exact⟨.none_tuple p ai,.none_tuple p ai,.none_tuple p ai⟩
   |lst h r=>cases r2;simp only[Br];obtain⟨_,_,p,_⟩:=I.list h;exact⟨.none_list p.isList ai,.none_list p.isList ai,.none_list p.isList ai⟩
  |bl a =>
   cases r1;cases h2 with
   |Lo _ _|SN _ _|Ts _ _|ins _ _ _=>simp[Cp] at aw
   |Ax=>cases r2;simp only[Br];exact⟨.bool_none _,.bool_none _,.bool_none _⟩
   |bl b=>cases r2;simp only[Br];exact⟨.bool_bool _ _,.bool_bool _ _,.bool_bool _ _⟩
   |int b=>obtain⟨t,rfl⟩:=r2;simp only[Br];exact⟨.bool_int _ _ _,.bool_int _ _ _,.bool_int _ _ _⟩
   |str b=>obtain⟨t,rfl⟩:=r2;simp only[Br];exact⟨.bool_str _ _ _,.bool_str _ _ _,.bool_str _ _ _⟩
   |tup h r=>cases r2;simp only[Br];obtain⟨_,_,p,_⟩:=I.tuple (.of h);exact⟨.bool_tuple _ p ai,.bool_tuple _ p ai,.bool_tuple _ p ai⟩
   |lst h r=>cases r2;simp only[Br];obtain⟨_,_,p,_⟩:=I.list h;exact⟨.bool_list _ p.isList ai,.bool_list _ p.isList ai,.bool_list _ p.isList ai⟩
  |int a =>
   obtain⟨t',rfl⟩:=r1;cases h2 with
   |Lo _ _|SN _ _|Ts _ _|ins _ _ _=>simp[Cp] at aw
   |Ax=>cases r2;simp only[Br];exact⟨.int_none _ _,.int_none _ _,.int_none _ _⟩
   |bl b=>cases r2;simp only[Br];exact⟨.int_bool _ _ _,.int_bool _ _ _,.int_bool _ _ _⟩
   |int b=>obtain⟨t,rfl⟩:=r2;simp only[Br];exact⟨.int_int _ _ _ _,.int_int _ _ _ _,.int_int _ _ _ _⟩
   |str b=>obtain⟨t,rfl⟩:=r2;simp only[Br];exact⟨.int_str _ _ _ _,.int_str _ _ _ _,.int_str _ _ _ _⟩
   |tup h r=>cases r2;simp only[Br];obtain⟨_,_,p,_⟩:=I.tuple (.of h);exact⟨.int_tuple _ _ p ai,.int_tuple _ _ p ai,.int_tuple _ _ p ai⟩
   |lst h r=>cases r2;simp only[Br];obtain⟨_,_,p,_⟩:=I.list h;exact⟨.int_list _ _ p.isList ai,.int_list _ _ p.isList ai,.int_list _ _ p.isList ai⟩
  |str a =>
   obtain⟨t',rfl⟩:=r1;cases h2 with
   |Lo _ _|SN _ _|Ts _ _|ins _ _ _=>simp[Cp] at aw
   |Ax=>cases r2;simp only[Br];exact⟨.str_none _ _,.str_none _ _,.str_none _ _⟩
   |bl b=>cases r2;simp only[Br];exact⟨.str_bool _ _ _,.str_bool _ _ _,.str_bool _ _ _⟩
   |int b=>obtain⟨t,rfl⟩:=r2;simp only[Br];exact⟨.str_int _ _ _ _,.str_int _ _ _ _,.str_int _ _ _ _⟩
   |str b=>obtain⟨t,rfl⟩:=r2;simp only[Br];exact⟨.str_str _ _ _ _,.str_str _ _ _ _,.str_str _ _ _ _⟩
   |tup h r=>cases r2;simp only[Br];obtain⟨_,_,p,_⟩:=I.tuple (.of h);exact⟨.str_tuple _ _ p ai,.str_tuple _ _ p ai,.str_tuple _ _ p ai⟩
   |lst h r=>cases r2;simp only[Br];obtain⟨_,_,p,_⟩:=I.list h;exact⟨.str_list _ _ p.isList ai,.str_list _ _ p.isList ai,.str_list _ _ p.isList ai⟩
  | @tup a xs ds h r =>
   cases r1;obtain⟨aa,rv,p,_⟩:=I.tuple (.of h);cases h2 with
   |Lo _ _|SN _ _|Ts _ _|ins _ _ _=>simp[Cp] at aw
   |Ax=>cases r2;simp only[Br];exact⟨.tuple_none p ai,.tuple_none p ai,.tuple_none p ai⟩
   |bl b=>cases r2;simp only[Br];exact⟨.tuple_bool _ p ai,.tuple_bool _ p ai,.tuple_bool _ p ai⟩
   |int b=>obtain⟨t,rfl⟩:=r2;simp only[Br];exact⟨.tuple_int _ _ p ai,.tuple_int _ _ p ai,.tuple_int _ _ p ai⟩
   |str b=>obtain⟨t,rfl⟩:=r2;simp only[Br];exact⟨.tuple_str _ _ p ai,.tuple_str _ _ p ai,.tuple_str _ _ p ai⟩
   | @lst a2 pf es h' r'=>cases r2;simp only[Br];obtain⟨_,_,p',_⟩:=I.list h';exact⟨.tuple_list p p'.isList ai,.tuple_list p p'.isList ai,.tuple_list p p'.isList ai⟩
   | @tup a2 pf es h' r' =>
    cases r2;obtain⟨its',da,p',_⟩:=I.tuple (.of h');have z1:aa.toArray.size=ds.length:=by rw[zac,<-rv.length,r.length]
    have z2:its'.toArray.size=es.length:=by rw[zac,<-da.length,r'.length]
    have hj:=el rv da r r' (by rw[Cp] at aA;exact aA) (by rw[Cp] at aw;exact aw) (by rw[SO] at hd;omega);have q:=SeqAt.RcAt.tuples (A:=A) (e:=λ j=>Br (ds.getD j .Ax) (es.getD j .Ax)) p p' ai hj;have q':=SeqAt.RcNeAt.tuples (A:=A) (e:=λ j=>Br (ds.getD j .Ax) (es.getD j .Ax)) p p' ai hj;rw[z1,z2,bO] at q q';simp only[Br];by_cases ha:a=a2
    ·subst ha;have e':=I.J1 (.of h) (.of h');subst e';have e2:=HC I (by rw[Cp] at aA;exact aA) (by rw[Cp] at aw;exact aw) r r';subst e2;rw[CL] at q q' ⊢;exact⟨.same _,q,q'⟩
    ·exact⟨.of_refs ha q,q,q'⟩
  | @lst a xs ds h r =>
   cases r1;obtain⟨aa,rv,p,_⟩:=I.list h;cases h2 with
   |Lo _ _|SN _ _|Ts _ _|ins _ _ _=>simp[Cp] at aw
   |Ax=>cases r2;simp only[Br];exact⟨.list_none p.isList ai,.list_none p.isList ai,.list_none p.isList ai⟩
   |bl b=>cases r2;simp only[Br];exact⟨.list_bool _ p.isList ai,.list_bool _ p.isList ai,.list_bool _ p.isList ai⟩
   |int b=>obtain⟨t,rfl⟩:=r2;simp only[Br];exact⟨.list_int _ _ p.isList ai,.list_int _ _ p.isList ai,.list_int _ _ p.isList ai⟩
   |str b=>obtain⟨t,rfl⟩:=r2;simp only[Br];exact⟨.list_str _ _ p.isList ai,.list_str _ _ p.isList ai,.list_str _ _ p.isList ai⟩
   | @tup a2 pf es h' r'=>cases r2;simp only[Br];obtain⟨_,_,p',_⟩:=I.tuple (.of h');exact⟨.list_tuple p.isList p' ai,.list_tuple p.isList p' ai,.list_tuple p.isList p' ai⟩
   | @lst a2 pf es h' r' =>
    cases r2;obtain⟨its',da,p',_⟩:=I.list h';have z1:aa.toArray.size=ds.length:=by rw[zac,<-rv.length,r.length]
    have z2:its'.toArray.size=es.length:=by rw[zac,<-da.length,r'.length]
    have hj:=el rv da r r' (by rw[Cp] at aA;exact aA) (by rw[Cp] at aw;exact aw) (by rw[SO] at hd;omega);have qq:SeqAt.RcAt A s (.ref a) (.ref a2) (C9 ds es)/\SeqAt.RcNeAt A s (.ref a) (.ref a2) (!C9 ds es):=by
     by_cases hz:aa.toArray.size=its'.toArray.size
     ·have q:=SeqAt.RcAt.lists (A:=A) (e:=λ j=>Br (ds.getD j .Ax) (es.getD j .Ax)) p.isList p'.isList hz ai hj;have q':=SeqAt.RcNeAt.lists (A:=A) (e:=λ j=>Br (ds.getD j .Ax) (es.getD j .Ax)) p.isList p'.isList hz ai hj;rw[z1,JP ds es (by rw[<-z1,<-z2,hz])] at q q';exact⟨q,q'⟩
     ·rw[WG (by rw[<-z1,<-z2];exact hz)];exact⟨.lists_lengths p.isList p'.isList (by simpa using hz) ai,.lists_lengths p.isList p'.isList (by simpa using hz) ai⟩
    obtain⟨q,q'⟩:=qq;simp only[Br];by_cases ha:a=a2
    ·subst ha;have e':=I.Hw h h';subst e';have e2:=HC I (by rw[Cp] at aA;exact aA) (by rw[Cp] at aw;exact aw) r r';subst e2;rw[CL] at q q' ⊢;exact⟨.same _,q,q'⟩
    ·exact⟨.of_refs ha q,q,q'⟩
abbrev jT (K:za1)(A:Around)(neg:Bool):R2:=λ x y H Q=>∃d e,BF K H x d/\BF K H y e/\A.units+SO d<cLine/\Cp d=true/\Cp e=true/\Q (.bl (if neg=true then !Br d e else Br d e)) H
def bP:Gf X (compareOp .Eq) (jT X.K X.A false):=by
 intro pins s σ H x y v u Q I rx ry h;obtain⟨d,e,hd,he,hu,n1,n2,q⟩:=h;exact (nQ I (SO d) X.A d e x y v u (zaf _) n1 n2 hu hd he rx ry).2.1 X.prog X.w X.xe _ ⟨.bl _,H,I,rfl,q⟩
def bQ:Gf X (compareOp .NotEq) (jT X.K X.A true):=by
 intro pins s σ H x y v u Q I rx ry h;obtain⟨d,e,hd,he,hu,n1,n2,q⟩:=h;exact (nQ I (SO d) X.A d e x y v u (zaf _) n1 n2 hu hd he rx ry).2.2 X.prog X.w X.xe _ ⟨.bl _,H,I,rfl,q⟩
inductive OT where
 |sh (d:D)|lst (ts:List OT)|tup (ts:List OT)|BN (t:Bool) (ks:List D) (ts:List OT)|ins (x:Str) (ns:List Str) (ts:List OT)
inductive Ow where
 |rows (Hq:List (List D))
 |Nv (p:Nat) (ds:List D)
 |tree (p:Option Nat) (t:OT)
inductive Cl where
 |val (d:D)|own (ds:List D)|ow (o:Ow)
noncomputable abbrev Ah:=List (Option Cl)
inductive M (α:Type) where
 |ok (a:α)|ex (c:Str)|bad
variable {ρ:Ah}{g:Ah->M D}{ft gt:Ah->M Bool}{fi:Ah->M (List D)}
abbrev M.bind {α β:Type}(m:M α)(k:α->M β):M β:=match m with
 | .ok a=>k a
 | .ex c=>.ex c
 | .bad=>.bad
@[simp] theorem M.A8 {α β:Type}(a:α) (k:α->M β):(M.ok a).bind k=k a:=rfl
def XR {α β:Type}{m}{k}{G:M β->Prop}{R:M α->Prop}(h:G (m.bind k))(hk:∀a,G (k a)->R (.ok a))(hb:G .bad->R .bad:=by exact λ h=>h)(hx:∀x,G (.ex x)->R (.ex x):=by exact λ _ h=>h):R m:=by
 cases m with
 |ok a=>exact hk a h
 |ex x=>exact hx x h
 |bad=>exact hb h
abbrev del (H:Hp)(P:Addr->Prop):Hp:=λ a=>open Classical in if P a then none else H a
def AB (h:¬ P a):del H P a=H a:=by unfold del;rw[if_neg h]
def Gj (h:P a):del H P a=none:=by unfold del;rw[if_pos h]
def Al (h:del H P a=some o):¬ P a/\H a=some o:=by
 by_cases hp:P a
 ·rw[Gj hp] at h;cases h
 ·rw[AB hp] at h;exact⟨hp,h⟩
def Rd.Bf (r:Rd (del H P) a u):Rd H a u:=r.elim (λ h=>.inl (Al h).2) λ⟨o,h⟩=>.inr ⟨o,(Al h).2⟩
def Aj.del {H H':Hp}{P:Addr->Prop}(e:Aj H H'):Aj (del H P) (del H' P):=λ b o h=>by
 obtain⟨h1,h2⟩:=Al h;rw[AB h1];exact e b o h2
def CV (h:∀a,P' a->P a):Aj (L2.del H P) (L2.del H P'):=λ b o e=>by
 obtain⟨h1,h2⟩:=Al e;rw[AB λ z=>h1 (h b z)];exact h2
def EC:Aj (L2.del H P) H:=λ b o e=>(Al e).2
abbrev ED (H:Hp)(a:Addr):Prop:=∃o,H a=some o/\∀xs,o≠.tup xs/\∀z,o≠.GW z (.tup xs)
def ED.same (h:ED H a)(e:Aj H H'):ED H' a:=let ⟨o,q,r⟩:=h;⟨o,e a o q,r⟩
def ED.no (h:ED H a)(e:H a=none):False:=by
 obtain⟨o,q,r⟩:=h;rw[e] at q;cases q
def ED.lst (h:H a=some (.lst xs)):ED H a:=⟨_,h,λ _=>⟨λ z=>(by cases z),λ _ z=>by cases z⟩⟩
mutual
inductive BS (K:za1) (H:Hp) (P:Addr->Prop):V->OT->List Addr->Prop
 |sh {v d}:BF K (del H P) v d->BS K H P v (.sh d) []
 |lst {p xs ts fp}:H p=some (.lst xs)->Av K H P xs ts fp->BS K H P (.ref p) (.lst ts) (p::fp)
 |tup {p xs ts fp}:del H P p=some (.tup xs)->Av K H P xs ts fp->BS K H P (.ref p) (.tup ts) fp
 |dK {p kvs ts fp}:H p=some (.dK kvs)->Av K H P (kvs.map zbu) ts fp->BS K H P (.ref p) (.BN false (kvs.map λ kv=>Cn kv.1) ts) (p::fp)
 |dT {p kvs ts fp}:H p=some (.dT kvs)->Av K H P (kvs.map zbu) ts fp->BS K H P (.ref p) (.BN true (kvs.map λ kv=>.tup (kv.1.map Cn)) ts) (p::fp)
 |ins {p C dx fs ts fp x}:zan K mainGlobals x=some (some (.ref C))->H p=some (.ins C dx fs)->Av K H P (fs.map zbu) ts fp->BS K H P (.ref p) (.ins x (fs.map zay) ts) (p::fp)
inductive Av (K:za1) (H:Hp) (P:Addr->Prop):List V->List OT->List Addr->Prop
 |nil:Av K H P [] [] []
 |cons {v t fp vs ts fq}:BS K H P v t fp->Av K H P vs ts fq->Av K H P (v::vs) (t::ts) (fp++fq)
end
mutual
noncomputable def er:OT->D
 | .sh d=>d
 | .lst ts=>.lst (XS ts)
 | .tup ts=>.tup (XS ts)
 | .BN t ks ts=>.BN t ks (XS ts)
 | .ins x ns ts=>.ins x ns (XS ts)
noncomputable def XS:List OT->List D
 |[]=>[]
 |t::r=>er t::XS r
end
mutual
theorem BS.move {K:za1}{H H':Hp}{P P':Addr->Prop}(sm:Aj (del H P) (del H' P')):∀ {v:V}{t:OT}{fp:List Addr},(∀a∈fp,H' a=H a)->BS K H P v t fp->BS K H' P' v t fp:=by
 intro _ _ _ k x_;cases x_ with
 |sh h=>exact .sh (h.mono sm)
 |lst h r=>exact .lst ((k _ za3).trans h) (Av.move sm (λ a ha=>k a (za4 _ ha)) r)
 |tup h r=>exact .tup (sm _ _ h) (Av.move sm k r)
 |dK h r=>exact .dK ((k _ za3).trans h) (Av.move sm (λ a ha=>k a (za4 _ ha)) r)
 |dT h r=>exact .dT ((k _ za3).trans h) (Av.move sm (λ a ha=>k a (za4 _ ha)) r)
 |ins n h r=>exact .ins n ((k _ za3).trans h) (Av.move sm (λ a ha=>k a (za4 _ ha)) r)
theorem Av.move {K:za1}{H H':Hp}{P P':Addr->Prop}(sm:Aj (del H P) (del H' P')):∀ {v:List V}{t:List OT}{fp:List Addr},(∀a∈fp,H' a=H a)->Av K H P v t fp->Av K H' P' v t fp:=by
 intro _ _ _ k x_;cases x_ with
 |nil=>exact .nil
 |cons h r=>exact .cons (BS.move sm (λ a ha=>k a (zb2 _ ha)) h) (Av.move sm (λ a ha=>k a (zaa _ ha)) r)
end
mutual
theorem BS.BX {K:za1}{H:Hp}{P:Addr->Prop}:∀ {v:V}{t:OT}{fp:List Addr},BS K H P v t fp->∀a∈fp,ED H a:=by
 intro _ _ _ x_ a ha;cases x_ with
 |sh h=>cases ha
 |lst h r =>
  rcases zab.mp ha with rfl|ha
  ·exact .lst h
  ·exact Av.BX r a ha
 |tup h r=>exact Av.BX r a ha
 |dK h r =>
  rcases zab.mp ha with rfl|ha
  ·exact⟨_,h,λ _=>⟨λ z=>(by cases z),λ _ z=>by cases z⟩⟩
  ·exact Av.BX r a ha
 |dT h r =>
  rcases zab.mp ha with rfl|ha
  ·exact⟨_,h,λ _=>⟨λ z=>(by cases z),λ _ z=>by cases z⟩⟩
  ·exact Av.BX r a ha
 |ins n h r =>
  rcases zab.mp ha with rfl|ha
  ·exact⟨_,h,λ _=>⟨λ z=>(by cases z),λ _ z=>by cases z⟩⟩
  ·exact Av.BX r a ha
theorem Av.BX {K:za1}{H:Hp}{P:Addr->Prop}:∀ {v:List V}{t:List OT}{fp:List Addr},Av K H P v t fp->∀a∈fp,ED H a:=by
 intro _ _ _ x_ a ha;cases x_ with
 |nil=>cases ha
 |cons h r =>
  rcases zal.mp ha with ha|ha
  ·exact BS.BX h a ha
  ·exact Av.BX r a ha
end
mutual
theorem BS.C5 {K:za1}{H:Hp}{P P':Addr->Prop}{v:V}{t:OT}{fp ag:List Addr}(z:BS K H P v t fp)(x:BS K H P' v t ag):fp=ag:=by
 cases z with
 |sh _=>cases x;rfl
 |lst h r =>
  cases x with
  |lst h' r' =>
   rw[h] at h';cases h';rw[Av.C5 r r']
 |tup h r =>
  cases x with
  |tup h' r' =>
   have e:=(Al h).2.symm.trans (Al h').2;cases e;exact Av.C5 r r'
 | @dK _ kvs ts _ h r =>
  generalize ht:OT.BN false (kvs.map λ kv=>Cn kv.1) ts=t at x;cases x with
  |dK h' r' =>
   rw[h] at h';cases h';injection ht with _ _ e
   subst e;rw[Av.C5 r r']
  |dT h' r'=>rw[h] at h';cases h'
  |_=>cases ht
 | @dT _ kvs ts _ h r =>
  generalize ht:OT.BN true (kvs.map λ kv=>D.tup (kv.1.map Cn)) ts=t at x;cases x with
  |dT h' r' =>
   rw[h] at h';cases h';injection ht with _ _ e
   subst e;rw[Av.C5 r r']
  |dK h' r'=>rw[h] at h';cases h'
  |_=>cases ht
 | @ins _ _ _ fs ts _ y n h r =>
  generalize ht:OT.ins y (fs.map zay) ts=t at x;cases x with
  |ins n' h' r' =>
   rw[h] at h';cases h';injection ht with _ _ e
   subst e;rw[Av.C5 r r']
  |_=>cases ht
theorem Av.C5 {K:za1}{H:Hp}{P P':Addr->Prop}{v:List V}{t:List OT}{fp ag:List Addr}(z:Av K H P v t fp)(x:Av K H P' v t ag):fp=ag:=by
 cases z with
 |nil=>cases x;rfl
 |cons h r =>
  cases x with
  |cons h' r'=>rw[BS.C5 h h',Av.C5 r r']
end
mutual
theorem BS.has {K:za1}{H:Hp}{P P0:Addr->Prop}(hs:∀a,P0 a->P a):∀ {v:V}{t:OT}{fp:List Addr},(∀a∈fp,¬ P0 a)->BS K H P v t fp->BF K (del H P0) v (er t):=by
 intro _ _ _ k x_;cases x_ with
 |sh h=>rw[er];exact h.mono (CV hs)
 |lst h r=>rw[er];exact .lst (.of (show del H P0 _=_ by rw[AB (k _ za3)];exact h)) (Av.has hs (λ a ha=>k a (za4 _ ha)) r)
 |tup h r=>rw[er];exact .tup (CV hs _ _ h) (Av.has hs k r)
 |dK h r=>rw[er];exact .SN (.inl (show del H P0 _=_ by rw[AB (k _ za3)];exact h)) (Av.has hs (λ a ha=>k a (za4 _ ha)) r)
 |dT h r=>rw[er];exact .Ts (.inl (show del H P0 _=_ by rw[AB (k _ za3)];exact h)) (Av.has hs (λ a ha=>k a (za4 _ ha)) r)
 |ins n h r=>rw[er];exact .ins n (show del H P0 _=_ by rw[AB (k _ za3)];exact h) (Av.has hs (λ a ha=>k a (za4 _ ha)) r)
theorem Av.has {K:za1}{H:Hp}{P P0:Addr->Prop}(hs:∀a,P0 a->P a):∀ {v:List V}{t:List OT}{fp:List Addr},(∀a∈fp,¬ P0 a)->Av K H P v t fp->Ak K (del H P0) v (XS t):=by
 intro _ _ _ k x_;cases x_ with
 |nil=>rw[XS];exact .nil
 |cons h r=>rw[XS];exact .cons (BS.has hs (λ a ha=>k a (zb2 _ ha)) h) (Av.has hs (λ a ha=>k a (zaa _ ha)) r)
end
inductive CW (K:za1) (H:Hp) (P:Addr->Prop):List Addr->List (List D)->Prop
 |nil:CW K H P [] []
 |cons {q:Addr} {xs:List V} {ds:List D} {ps:List Addr} {Hq:List (List D)}:H q=some (.lst xs)->Ak K (del H P) xs ds->CW K H P ps Hq->CW K H P (q::ps) (ds::Hq)
abbrev CU (K:za1)(H:Hp)(P:Addr->Prop):Cl->V->List Addr->Prop
 | .own ds,v,fp=>∃p xs,v=.ref p/\fp=[p]/\H p=some (.lst xs)/\Ak K (del H P) xs ds
 | .ow (.rows Hq),v,fp=>∃p ps,v=.ref p/\fp=p::ps/\H p=some (.lst (ps.map V.ref))/\CW K H P ps Hq
 | .ow (.Nv _ ds),v,fp=>∃p xs,v=.ref p/\fp=[p]/\H p=some (.lst xs)/\Ak K (del H P) xs ds
 | .ow (.tree _ t),v,fp=>BS K H P v t fp
 | .val _,_,_=>False
abbrev Gk:Cl->Bool
 | .val _=>false
 |_=>true
def CW.move {K:za1}{H H':Hp}{P P':Addr->Prop}(sm:Aj (del H P) (del H' P')):∀ {ps:List Addr}{Hq:List (List D)},(∀a∈ps,H' a=H a)->CW K H P ps Hq->CW K H' P' ps Hq:=by
 intro _ _ k x_;cases x_ with
 |nil=>exact .nil
 |cons h r t=>exact .cons ((k _ za3).trans h) (r.mono sm) (CW.move sm (λ a ha=>k a (za4 _ ha)) t)
def CW.at {K:za1}{H:Hp}{P:Addr->Prop}:∀ {ps:List Addr}{Hq:List (List D)},CW K H P ps Hq->∀a∈ps,∃xs,H a=some (.lst xs)
 |_,_,.nil,a,h=>by cases h
 |_,_,.cons h r t,a,ha=>by
  rcases zab.mp ha with rfl|ha
  ·exact⟨_,h⟩
  ·exact t.at a ha
def Tu:∀ {ps qs:List Addr},ps.map V.ref=qs.map V.ref->ps=qs
 |[],[],_=>rfl
 |[],_::_,h|_::_,[],h=>by cases h
 |p::ps,q::qs,h=>by
  rw[za6,za6] at h;injection h with h1 h2
  injection h1 with h1
  rw[h1,Tu h2]
def CU.move {K}(sm:Aj (del H P) (del H' P'))(k:∀a∈fp,H' a=H a)(h:CU K H P c v fp):CU K H' P' c v fp:=by
 cases c with
 |val d=>exact h
 |own ds =>
  obtain⟨p,xs,rfl,rfl,h1,h2⟩:=h;exact⟨p,xs,rfl,rfl,(k p za3).trans h1,h2.mono sm⟩
 |ow o =>
  cases o with
  |rows Hq =>
   obtain⟨p,ps,rfl,rfl,h1,h2⟩:=h;exact⟨p,ps,rfl,rfl,(k p za3).trans h1,h2.move sm λ a ha=>k a (za4 _ ha)⟩
  |Nv p ds =>
   obtain⟨p,xs,rfl,rfl,h1,h2⟩:=h;exact⟨p,xs,rfl,rfl,(k p za3).trans h1,h2.mono sm⟩
  |tree p t=>exact BS.move sm k h
def CU.at {K}(h:CU K H P c v fp):∀a∈fp,∃o,H a=some o:=by
 cases c with
 |val d=>exact h.elim
 |own ds =>
  obtain⟨p,xs,rfl,rfl,h1,h2⟩:=h;exact λ a ha=>⟨.lst xs,by rw[za9.mp ha];exact h1⟩
 |ow o =>
  cases o with
  |rows Hq =>
   obtain⟨p,ps,rfl,rfl,h1,h2⟩:=h;intro a ha;rcases zab.mp ha with rfl|ha
   ·exact⟨_,h1⟩
   ·obtain⟨xs,q⟩:=h2.at a ha;exact⟨_,q⟩
  |Nv p ds =>
   obtain⟨p,xs,rfl,rfl,h1,h2⟩:=h;exact λ a ha=>⟨.lst xs,by rw[za9.mp ha];exact h1⟩
  |tree p t =>
   intro a ha;obtain⟨o,q,_⟩:=BS.BX h a ha;exact⟨o,q⟩
def CU.same {K}(e:Aj H H')(h:CU K H P c v fp):CU K H' P c v fp:=
 h.move e.del λ a ha=>by obtain⟨xs,q⟩:=h.at a ha;rw[q];exact e _ _ q
def CU.C5 {K}(h:CU K H P c v fp)(h':CU K H P' c v ag):fp=ag:=by
 cases c with
 |val d=>exact h.elim
 |own ds =>
  obtain⟨p,xs,rfl,rfl,h1,h2⟩:=h;obtain⟨p',d4,e,rfl,mf,ib⟩:=h';cases e;rfl
 |ow o =>
  cases o with
  |rows Hq =>
   obtain⟨p,ps,rfl,rfl,h1,h2⟩:=h;obtain⟨p',ph,e,rfl,mf,ib⟩:=h';cases e;rw[h1] at mf;injection mf with e
   injection e with e
   rw[Tu e]
  |Nv p ds =>
   obtain⟨p,xs,rfl,rfl,h1,h2⟩:=h;obtain⟨p',d4,e,rfl,mf,ib⟩:=h';cases e;rfl
  |tree p t=>exact BS.C5 h h'
structure DZ where
 pr:Addr->Prop
 g:Nat->Addr
instance:CoeFun DZ (λ _=>Addr->Prop):=⟨DZ.pr⟩
instance:Coe DZ (Addr->Prop):=⟨DZ.pr⟩
abbrev QQ:Cl->Option Nat
 | .ow (.Nv n _)=>some n
 | .ow (.tree (some n) _)=>some n
 |_=>none
structure Am (K:za1)(P0:DZ)(P:Addr->Prop)(H:Hp)(σ:St)(ρ:Ah):Prop where
 sub:∀a,P0 a->P a
 BX:∀a,P a->ED H a
 val:∀(i:Nat) d,ρ[i]?=some (some (.val d))->∃v,σ[i]?=some (some v)/\BF K (del H P) v d
 ows:∀(i:Nat) c,ρ[i]?=some (some c)->Gk c=true->∃v fp,σ[i]?=some (some v)/\CU K H P c v fp/\(∀a∈fp,P a/\¬ P0 a)/\fp.Nodup
 apart:∀(i j:Nat) c c' v v' fp ag,ρ[i]?=some (some c)->ρ[j]?=some (some c')->σ[i]?=some (some v)->σ[j]?=some (some v')->CU K H P c v fp->CU K H P c' v' ag->i≠j->∀a∈fp,a∉ag
 len:σ.length=ρ.length
 pin:∀(i:Nat) c n,ρ[i]?=some (some c)->QQ c=some n->σ[i]?=some (some (.ref (P0.g n)))
def Am.own {K}(E:Am K P0 P H σ ρ)(i:Nat)(ds:List D)(h:ρ[i]?=some (some (.own ds))):
 ∃p xs,σ[i]?=some (some (.ref p))/\H p=some (.lst xs)/\P p/\¬ P0 p/\Ak K (del H P) xs ds:=by
 obtain⟨v,fp,h1,⟨p,xs,rfl,rfl,h2,h3⟩,h4,_⟩:=E.ows i _ h rfl;exact⟨p,xs,h1,h2,(h4 p za3).1,(h4 p za3).2,h3⟩
def Am.bR {K}(E:Am K P0 P H σ ρ)(sm:Aj (del H P) (del H' P')){i:Nat}(ki:∀v fp,σ[i]?=some (some v)->CU K H P c v fp->∀a∈fp,H' a=H a)(kj:∀v fp,σ[j]?=some (some v)->CU K H P c' v fp->∀a∈fp,H' a=H a)(hi:ρ[i]?=some (some c))(hj:ρ[j]?=some (some c'))(si:σ[i]?=some (some v))(sj:σ[j]?=some (some v'))(h:CU K H' P' c v fp)(h':CU K H' P' c' v' ag)(ad:i≠j):∀a∈fp,a∉ag:=by
 have key:∀(k:Nat) (d:Cl) (w:V) (fq:List Addr),ρ[k]?=some (some d)->σ[k]?=some (some w)->(∀v fp,σ[k]?=some (some v)->CU K H P d v fp->∀a∈fp,H' a=H a)->CU K H' P' d w fq->CU K H P d w fq:=λ k d w fq hk sk kk ho=>by
  have io:Gk d=true:=by cases d<;>first|rfl|exact ho.elim
  obtain⟨w',b6,s2,o2,_⟩:=E.ows k d hk io;rw[sk] at s2;cases s2;have o3:=o2.move sm (kk _ _ sk o2);rw[ho.C5 o3];exact o2
 exact E.apart i j c c' v v' fp ag hi hj si sj (key i c v fp hi si ki h) (key j c' v' ag hj sj kj h') ad
def Am.same {K}(E:Am K P0 P H σ ρ)(e:Aj H H'):Am K P0 P H' σ ρ:=
 ⟨E.sub,λ a h=>(E.BX a h).same e,λ i d h=>let ⟨v,h1,h2⟩:=E.val i d h;⟨v,h1,h2.mono e.del⟩,
  λ i c h io=>let ⟨v,fp,h1,h2,h3,h4⟩:=E.ows i c h io;⟨v,fp,h1,h2.same e,h3,h4⟩,
  λ i j c c' v v' fp ag hi hj si sj h h' ad=>E.bR e.del (λ v fp _ o a ha=>by obtain⟨xs,q⟩:=o.at a ha;rw[q];exact e _ _ q) (λ v fp _ o a ha=>by obtain⟨xs,q⟩:=o.at a ha;rw[q];exact e _ _ q) hi hj si sj h h' ad,E.len,E.pin⟩
abbrev gV (K:za1)(WX:Str->Hp->Prop)(P:Addr->Prop)(H:Hp)(Q:VK):M D->Prop
 | .ok d=>∀v H',Aj H H'->BF K (del H' P) v d->Q v H'
 | .ex x=>∀H',Aj H H'->WX x H'
 | .bad=>False
abbrev gA (K:za1)(WX:Str->Hp->Prop)(P:Addr->Prop)(H:Hp)(Q:List V->Hp->Prop):M (List D)->Prop
 | .ok d=>∀v H',Aj H H'->Ak K (del H' P) v d->Q v H'
 | .ex x=>∀H',Aj H H'->WX x H'
 | .bad=>False
abbrev gT (WX:Str->Hp->Prop)(H:Hp)(Q:Bool->Hp->Prop):M Bool->Prop
 | .ok b=>∀H',Aj H H'->Q b H'
 | .ex x=>∀H',Aj H H'->WX x H'
 | .bad=>False
section
variable {K:za1}{P:Addr->Prop}{H':Hp}
def gV.same (h:gV K WX P H Q m)(e:Aj H H'):gV K WX P H' Q m:=by
 cases m with
 |ok d=>exact λ v H2 q hv=>h v H2 (e.trans q) hv
 |ex x=>exact λ H2 q=>h H2 (e.trans q)
 |bad=>exact h
def gA.same (h:gA K WX P H Q m)(e:Aj H H'):gA K WX P H' Q m:=by
 cases m with
 |ok d=>exact λ v H2 q hv=>h v H2 (e.trans q) hv
 |ex x=>exact λ H2 q=>h H2 (e.trans q)
 |bad=>exact h
def gT.same (h:gT WX H Q m)(e:Aj H H'):gT WX H' Q m:=by
 cases m with
 |ok d|ex x=>exact λ H2 q=>h H2 (e.trans q)
 |bad=>exact h
end
abbrev Lv (c:Bool)(P0:DZ)(P:Addr->Prop):Addr->Prop:=if c=true then P else P0.pr
abbrev DE (X:Cx)(WX:Str->Hp->Prop)(c:Bool)(e:Expr)(f:Ah->M D):Prop:=
 ∃t,PE X e t/\∀P0 P σ H Q ρ,Am X.K P0 P H σ ρ->gV X.K WX (Lv c P0 P) H Q (f ρ)->t σ H Q
abbrev DA (X:Cx)(WX:Str->Hp->Prop)(c:Bool)(es:List Expr)(f:Ah->M (List D)):Prop:=
 ∃t,PA X es t/\(∀P0 P σ H Q ρ,Am X.K P0 P H σ ρ->gA X.K WX (Lv c P0 P) H Q (f ρ)->t σ H Q)/\∀ρ ds,f ρ=.ok ds->ds.length=es.length
abbrev DT (X:Cx)(WX:Str->Hp->Prop)(e:Expr)(f:Ah->M Bool):Prop:=
 ∃t,PT X e t/\∀P0 P σ H Q ρ,Am X.K P0 P H σ ρ->gT WX H Q (f ρ)->t σ H Q
abbrev DW (X:Cx)(WX:Str->Hp->Prop)(e:Expr)(f:Ah->M Bool):Prop:=
 ∃t,PW X e t/\∀P0 P σ H Q ρ,Am X.K P0 P H σ ρ->gT WX H Q (f ρ)->t σ H Q
def DW.dt (h:DW X WX e f):DT X WX e f:=let ⟨t,h1,h2⟩:=h;⟨t,h1.pt,h2⟩
section
variable {c:Bool}{P0:DZ}{P:Addr->Prop}
def Am.lv (E:Am X.K P0 P H σ ρ)(c:Bool):∀a,Lv c P0 P a->P a:=λ a h=>by
 cases c with
 |true=>exact h
 |false=>exact E.sub a h
def Am.wF (E:Am X.K P0 P H σ ρ)(c:Bool):∀a,Lv c P0 P a->ED H a:=λ a h=>E.BX a (E.lv c a h)
def Vs (h:DE X WX true e f):DE X WX false e f:=by
 obtain⟨t,h1,h2⟩:=h;refine⟨t,h1,λ P0 P σ H Q ρ E g=>h2 P0 P σ H Q ρ E ?_⟩;cases e:f ρ with
 |ok d=>rw[e] at g;exact λ v H' s hv=>g v H' s (hv.mono (CV E.sub))
 |ex x|bad=>rw[e] at g;exact g
abbrev wG:D->Bool
 | .tup _ | .lst _ | .Lo _ | .BN _ _ _ | .ins _ _ _=>false
 |_=>true
abbrev fl (m:M D):M D:=m.bind λ d=>if wG d=true then .ok d else .bad
abbrev rv (i:Nat)(ρ:Ah):M D:=match ρ[i]? with | some (some (.val d))=>.ok d | _=>.bad
def rF (i:Nat)(h:PE X (.Name x pos) (Qf i)):DE X WX true (.Name x pos) (rv i):=by
 refine⟨_,h,λ P0 P σ H Q ρ E g=>?_⟩;unfold rv at g;split at g
 ·rename_i d e;obtain⟨v,h1,h2⟩:=E.val i d e;exact⟨v,h1,g v H (Aj.refl H) h2⟩
 ·exact g.elim
def A4 {i j pos}:DE X WX c (.Constant (.int i) j pos) (λ _=>.ok (.int i)):=⟨_,pL,λ P0 P σ H Q ρ E g=>g _ H (Aj.refl H) (.int i)⟩
def D9 {b j pos}:DE X WX c (.Constant (.bool b) j pos) (λ _=>.ok (.bl b)):=⟨_,uW,λ P0 P σ H Q ρ E g=>g _ H (Aj.refl H) (.bl b)⟩
def Cy {j pos}:DE X WX c (.Constant .none j pos) (λ _=>.ok .Ax):=⟨_,pM,λ P0 P σ H Q ρ E g=>g _ H (Aj.refl H) .Ax⟩
abbrev WJ (K:za1)(WX:Str->Hp->Prop)(r:R2)(aK:D->D->M D):Prop:=
 ∀(P:Addr->Prop) (H:Hp) (x y:D) (v w:V) (Q:VK),(∀a,P a->ED H a)->BF K (del H P) v x->BF K (del H P) w y->gV K WX P H Q (aK x y)->r v w H Q
variable {a b:Expr}{f:Ah->M D}
def Tv (ha:∀P0 P σ H Q ρ,Am X.K P0 P H σ ρ->gV X.K WX (Lv c P0 P) H Q (f ρ)->ta σ H Q)(hb:∀P0 P σ H Q ρ,Am X.K P0 P H σ ρ->gV X.K WX (Lv c P0 P) H Q (g ρ)->tb σ H Q)(hr:WJ X.K WX r aK)(E:Am X.K P0 P H σ ρ)(h:gV X.K WX (Lv c P0 P) H Q ((f ρ).bind λ x=>(g ρ).bind λ y=>aK x y)):uH r ta tb σ H Q:=by
 refine ha P0 P σ H _ ρ E ?_;cases e:f ρ with
 |bad|ex x=>rw[e] at h;exact h
 |ok x =>
  rw[e] at h;intro v H1 s1 hv;refine hb P0 P σ H1 _ ρ (E.same s1) ?_;cases e2:g ρ with
  |bad=>rw[e2] at h;exact h
  |ex y=>rw[e2] at h;exact gV.same (m:=.ex y) h s1
  |ok y =>
   rw[e2] at h;intro w H2 s2 hw;exact hr _ H2 x y v w Q (λ a q=>((E.same s1).same s2).wF c a q) (hv.mono s2.del) hw ((gV.same h s1).same s2)
def QR (ho:Gf X (binaryOp op) r)(hr:WJ X.K WX r aK)(ha:DE X WX c a f)(hb:DE X WX c b g):DE X WX c (.BinOp a op b pos) (λ ρ=>(f ρ).bind λ x=>(g ρ).bind λ y=>aK x y):=by
 obtain⟨ta,a1,a2⟩:=ha;obtain⟨tb,b1,b2⟩:=hb;exact⟨_,Zw ho a1 b1,λ P0 P σ H Q ρ E h=>Tv a2 b2 hr E h⟩
def bS (ho:Gf X (compareOp op) r)(hr:WJ X.K WX r aK)(ha:DE X WX c a f)(hb:DE X WX c b g)(hm:behindInMarks op b=false):DE X WX c (.Compare a [op] [b] pos) (λ ρ=>(f ρ).bind λ x=>(g ρ).bind λ y=>aK x y):=by
 obtain⟨ta,a1,a2⟩:=ha;obtain⟨tb,b1,b2⟩:=hb;exact⟨_,iT ho a1 b1 hm,λ P0 P σ H Q ρ E h=>Tv a2 b2 hr E h⟩
def wH (ho:jC X r)(hr:WJ X.K WX r aK)(ha:DE X WX c a f)(hb:DE X WX c b g)(hs:Nu b):DE X WX c (.Subscript a b pos) (λ ρ=>(f ρ).bind λ x=>(g ρ).bind λ y=>aK x y):=by
 obtain⟨ta,a1,a2⟩:=ha;obtain⟨tb,b1,b2⟩:=hb;exact⟨_,nL ho a1 b1 hs,λ P0 P σ H Q ρ E h=>Tv a2 b2 hr E h⟩
abbrev Bh (k:Int->Int->M D)(x y:D):M D:=match x,y with | .int i,.int j=>k i j | _,_=>.bad
def BF.int_inv {K}(h:BF K H v (.int i)):v=.int i:=by cases h;rfl
def BF.O3 {K}(h:BF K H v (.bl i)):v=.bl i:=by cases h;rfl
def RV {C:Int->Int->Prop}{gv:Int->Int->V}{gd:Int->Int->D}[∀i j,Decidable (C i j)](hg:∀i j K H,BF K H (gv i j) (gd i j)):WJ X.K WX (rI C gv) (Bh λ i j=>if C i j then .ok (gd i j) else .bad):=by
 intro P H x y v w Q ht hx hy h;unfold Bh at h;split at h
 ·rename_i i j;rw[hx.int_inv,hy.int_inv];dsimp only at h;by_cases hc:C i j
  ·rw[if_pos hc] at h;exact⟨i,j,rfl,rfl,hc,h _ H (Aj.refl H) (hg i j _ _)⟩
  ·rw[if_neg hc] at h;exact h.elim
 ·exact h.elim
def Nw {gd:Int->Int->D}(hg:∀i j K H,BF K H (gv i j) (gd i j)):WJ X.K WX (Zd gv) (Bh λ i j=>.ok (gd i j)):=by
 intro P H x y v w Q ht hx hy h;unfold Bh at h;split at h
 ·rename_i i j;rw[hx.int_inv,hy.int_inv];exact⟨i,j,rfl,rfl,h _ H (Aj.refl H) (hg i j _ _)⟩
 ·exact h.elim
instance (i j:Int):Decidable (Zx i j):=by unfold Zx;infer_instance
instance (i j:Int):Decidable (iR i j):=by unfold iR;infer_instance
instance (i j:Int):Decidable (Zy i j):=by unfold Zy;infer_instance
abbrev rG:=Bh λ i j=>.ok (.int (i+j))
abbrev wI:=Bh λ i j=>.ok (.int (i-j))
abbrev F8:=Bh λ i j=>if 0<j then .ok (.int (i%j)) else .bad
abbrev Ei:=Bh λ i j=>if Zx i j then .ok (.int (i / j)) else .bad
abbrev XT:=Bh λ i j=>if iR i j then .ok (.int (i^j.toNat)) else .bad
abbrev dLt:=Bh λ i j=>.ok (.bl (decide (i<j)))
abbrev dLe:=Bh λ i j=>.ok (.bl (decide (i<=j)))
abbrev dGt:=Bh λ i j=>.ok (.bl (decide (j<i)))
abbrev dGe:=Bh λ i j=>.ok (.bl (decide (j<=i)))
def BH (ha:DE X WX c a f)(hb:DE X WX c b g):DE X WX c (.BinOp a .Add b pos) (λ ρ=>(f ρ).bind λ x=>(g ρ).bind λ y=>rG x y):=QR qB (Nw λ _ _ _ _=>.int _) ha hb
def rH (ha:DE X WX c a f)(hb:DE X WX c b g):DE X WX c (.BinOp a .Sub b pos) (λ ρ=>(f ρ).bind λ x=>(g ρ).bind λ y=>wI x y):=QR qC (Nw λ _ _ _ _=>.int _) ha hb
def Bs (ha:DE X WX c a f)(hb:DE X WX c b g):DE X WX c (.BinOp a .Mod b pos) (λ ρ=>(f ρ).bind λ x=>(g ρ).bind λ y=>F8 x y):=QR qD (RV λ _ _ _ _=>.int _) ha hb
def BO (ha:DE X WX c a f)(hb:DE X WX c b g):DE X WX c (.BinOp a .FloorDiv b pos) (λ ρ=>(f ρ).bind λ x=>(g ρ).bind λ y=>Ei x y):=QR iS (RV λ _ _ _ _=>.int _) ha hb
def bT (ha:DE X WX c a f)(hb:DE X WX c b g):DE X WX c (.BinOp a .Pow b pos) (λ ρ=>(f ρ).bind λ x=>(g ρ).bind λ y=>XT x y):=QR qE (RV λ _ _ _ _=>.int _) ha hb
abbrev XU (n:Nat)(x y:D):M D:=if SO x<=n/\Cp x=true/\Cp y=true then .ok (.bl (Br x y)) else .bad
abbrev Vt (n:Nat)(x y:D):M D:=if SO x<=n/\Cp x=true/\Cp y=true then .ok (.bl (!Br x y)) else .bad
def bU (hu:X.A.units+n<cLine):WJ X.K WX (jT X.K X.A false) (XU n):=by
 intro P H x y v w Q ht hx hy h;unfold XU at h;by_cases hd:SO x<=n/\Cp x=true/\Cp y=true
 ·rw[if_pos hd] at h;exact⟨x,y,hx.mono EC,hy.mono EC,by omega,hd.2.1,hd.2.2,h _ H (Aj.refl H) (.bl _)⟩
 ·rw[if_neg hd] at h;exact h.elim
def bV (hu:X.A.units+n<cLine):WJ X.K WX (jT X.K X.A true) (Vt n):=by
 intro P H x y v w Q ht hx hy h;unfold Vt at h;by_cases hd:SO x<=n/\Cp x=true/\Cp y=true
 ·rw[if_pos hd] at h;exact⟨x,y,hx.mono EC,hy.mono EC,by omega,hd.2.1,hd.2.2,h _ H (Aj.refl H) (.bl _)⟩
 ·rw[if_neg hd] at h;exact h.elim
def Tw (hu:X.A.units+n<cLine)(ha:DE X WX c a f)(hb:DE X WX c b g):DE X WX c (.Compare a [.Eq] [b] pos) (λ ρ=>(f ρ).bind λ x=>(g ρ).bind λ y=>XU n x y):=bS bP (bU hu) ha hb (JL _)
def wJ (hu:X.A.units+n<cLine)(ha:DE X WX c a f)(hb:DE X WX c b g):DE X WX c (.Compare a [.NotEq] [b] pos) (λ ρ=>(f ρ).bind λ x=>(g ρ).bind λ y=>Vt n x y):=bS bQ (bV hu) ha hb (JL _)
abbrev Bz:D->Bool
 | .Ax=>true
 |_=>false
def BF.zC {K}(h:BF K H v d):decide (v=.Ax)=Bz d:=by
 cases h<;>simp[Bz]
def RW {j pos'}(ha:DE X WX c a f):DE X WX c (.Compare a [.Is] [.Constant .none j pos'] pos) (λ ρ=>(f ρ).bind λ x=>.ok (.bl (Bz x))):=by
 obtain⟨ta,a1,a2⟩:=ha;refine⟨_,Zo (Zn a1),λ P0 P σ H Q ρ E h=>?_⟩;dsimp only at h;refine a2 P0 P σ H _ ρ E ?_;cases e:f ρ with
 |bad|ex x=>rw[e] at h;exact h
 |ok x=>rw[e] at h;exact λ v H1 s1 hv=>h _ H1 s1 (by rw[hv.zC];exact .bl _)
def jU {j pos'}(ha:DE X WX c a f):DE X WX c (.Compare a [.IsNot] [.Constant .none j pos'] pos) (λ ρ=>(f ρ).bind λ x=>.ok (.bl (!Bz x))):=by
 obtain⟨ta,a1,a2⟩:=ha;refine⟨_,Zo (Wr a1),λ P0 P σ H Q ρ E h=>?_⟩;dsimp only at h;refine a2 P0 P σ H _ ρ E ?_;cases e:f ρ with
 |bad|ex x=>rw[e] at h;exact h
 |ok x=>rw[e] at h;exact λ v H1 s1 hv=>h _ H1 s1 (by rw[hv.zC];exact .bl _)
abbrev uJ (x y:D):M D:=match x,y with
 | .tup ds,.int i| .lst ds,.int i=>(match V2 ds i with|some d=>.ok d|none=>.bad)
 |_,_=>.bad
def Ak.V2 {K}(h:Ak K H xs ds)(e:L2.V2 ds i=some d):∃v,L2.V2 xs i=some v/\BF K H v d:=by
 unfold L2.V2 at e ⊢;rw[<-h.length] at e;cases q:Wv xs.length i with
 |none=>rw[q] at e;cases e
 |some j =>
  rw[q] at e;exact h.get e
def DB.Bf {K}{a}(h:DB K (del H P) a xs):DB K H a xs:=EC.seq h
def Fq.Bf {K}{a}(h:Fq K (del H P) a xs):Fq K H a xs:=EC.aaz h
def HE:WJ X.K WX (λ x y H Q=>qP X.K x y H Q\/qQ X.K x y H Q) uJ:=by
 intro P H x y v w Q ht hx hy h;unfold uJ at h;split at h
 ·rename_i ds i;split at h
  ·rename_i d e;cases hy;cases hx with
   |tup hs hl =>
    obtain⟨u,h1,h2⟩:=hl.V2 e;exact .inr ⟨_,_,i,u,rfl,rfl,Fq.of (Al hs).2,h1,h _ H (Aj.refl H) h2⟩
  ·exact h.elim
 ·rename_i ds i;split at h
  ·rename_i d e;cases hy;cases hx with
   |lst hs hl =>
    obtain⟨u,h1,h2⟩:=hl.V2 e;exact .inl ⟨_,_,i,u,rfl,rfl,hs.Bf,h1,h _ H (Aj.refl H) h2⟩
  ·exact h.elim
 ·exact h.elim
def A6:DA X WX c [] (λ _=>.ok []):=⟨_,Cd,λ P0 P σ H Q ρ E h=>h [] H (Aj.refl H) .nil,λ ρ ds h=>by cases h;rfl⟩
def A1 (he:DE X WX c e f)(hr:DA X WX c es fs)(hs: ~~~(starEach (e::es) X.env=(false,eval e X.env)::starEach es X.env)):
 DA X WX c (e::es) (λ ρ=>(f ρ).bind λ d=>(fs ρ).bind λ ds=>.ok (d::ds)):=by
 obtain⟨te,e1,e2⟩:=he;obtain⟨tr,r1,r2,r3⟩:=hr;refine⟨_,Bc e1 r1 hs,λ P0 P σ H Q ρ E h=>?_,λ ρ ds h=>?_⟩
 rotate_left
 ·dsimp only at h;cases q:f ρ with
  |bad|ex x=>rw[q] at h;cases h
  |ok x =>
   rw[q] at h;cases q2:fs ρ with
   |bad|ex x=>rw[q2] at h;cases h
   |ok xs =>
    rw[q2] at h;cases h;rw[za8,za8,r3 ρ xs q2]
 dsimp only at h;refine e2 P0 P σ H _ ρ E ?_;cases q:f ρ with
 |bad|ex x=>rw[q] at h;exact h
 |ok x =>
  rw[q] at h;intro v H1 s1 hv;refine r2 P0 P σ H1 _ ρ (E.same s1) ?_;cases q2:fs ρ with
  |bad=>rw[q2] at h;exact h
  |ex y=>rw[q2] at h;exact gA.same (m:=.ex y) h s1
  |ok ds =>
   rw[q2] at h;exact λ vs H2 s2 ay=>h _ H2 (s1.trans s2) (.cons (hv.mono s2.del) ay)
def Kh (hn:H p=none)(ht:∀a,P a->ED H a):del (upd H p o) P p=some o:=by
 rw[AB λ z=>(ht p z).no hn];exact An
def AY {x1}(ha:DA X WX c es fs)(hz:es.length<=1000:=by decide):DE X WX c (.Tuple es x1 pos) (λ ρ=>(fs ρ).bind λ ds=>if ds.length<=1000 then .ok (.tup ds) else .bad):=by
 obtain⟨ta,a1,a2,a3⟩:=ha;refine⟨_,Vg a1,λ P0 P σ H Q ρ E h=>?_⟩;dsimp only at h;refine a2 P0 P σ H _ ρ E ?_;cases q:fs ρ with
 |bad|ex y=>rw[q] at h;exact h
 |ok ds =>
  rw[q] at h;simp only[M.A8] at h;by_cases hd:ds.length<=1000
  ·rw[if_pos hd] at h;intro vs H1 s1 ay;refine⟨zbo (AA (by rw[ay.length];exact hd)),λ p hp=>h _ _ (s1.trans (AK hp _)) (.tup (Kh hp λ a q=>(E.same s1).wF c a q) (ay.mono (AK hp _).del))⟩
  ·rw[if_neg hd] at h;exact h.elim
def Dg (ha:DA X WX c es fs):DE X WX c (.List es pos) (λ ρ=>(fs ρ).bind λ ds=>if ds.length<=1000 then .ok (.lst ds) else .bad):=by
 obtain⟨ta,a1,a2,a3⟩:=ha;refine⟨_,Vh a1,λ P0 P σ H Q ρ E h=>?_⟩;dsimp only at h;refine a2 P0 P σ H _ ρ E ?_;cases q:fs ρ with
 |bad|ex y=>rw[q] at h;exact h
 |ok ds =>
  rw[q] at h;simp only[M.A8] at h;by_cases hd:ds.length<=1000
  ·rw[if_pos hd] at h;intro vs H1 s1 ay;refine⟨zbo (AA (by rw[ay.length];exact hd)),λ p hp=>h _ _ (s1.trans (AK hp _)) (.lst (.of (Kh hp λ a q=>(E.same s1).wF c a q)) (ay.mono (AK hp _).del))⟩
  ·rw[if_neg hd] at h;exact h.elim
end
abbrev SQ (d:D):M Bool:=match d with | .bl b=>.ok b | _=>.bad
section
variable {c:Bool}{P0:DZ}{P:Addr->Prop}{a b:Expr}{f:Ah->M D}
def nR {K}(h:gT WX H Q (m.bind SQ)):gV K WX P H (λ x H'=>∃k,x=.bl k/\Q k H') m:=by
 cases m with
 |bad|ex x=>exact h
 |ok d =>
  intro v H' s hv;simp only[M.A8] at h;unfold SQ at h;split at h
  ·rename_i b;exact⟨b,hv.O3,h H' s⟩
  ·exact h.elim
def Gm (ho:Gf X (compareOp op) r)(hr:WJ X.K WX r aK)(ha:DE X WX c a f)(hb:DE X WX c b g)(hm:behindInMarks op b=false):DT X WX (.Compare a [op] [b] pos) (λ ρ=>((f ρ).bind λ x=>(g ρ).bind λ y=>aK x y).bind SQ):=by
 obtain⟨ta,a1,a2⟩:=ha;obtain⟨tb,b1,b2⟩:=hb;exact⟨_,iU ho a1 b1 hm,λ P0 P σ H Q ρ E h=>Tv a2 b2 hr E (nR h)⟩
def wK (ha:DE X WX c a f)(hb:DE X WX c b g):DT X WX (.Compare a [.Lt] [b] pos) (λ ρ=>((f ρ).bind λ x=>(g ρ).bind λ y=>dLt x y).bind SQ):=Gm Zz (Nw λ _ _ _ _=>.bl _) ha hb (JL _)
def wL (ha:DE X WX c a f)(hb:DE X WX c b g):DT X WX (.Compare a [.Gt] [b] pos) (λ ρ=>((f ρ).bind λ x=>(g ρ).bind λ y=>dGt x y).bind SQ):=Gm vL (Nw λ _ _ _ _=>.bl _) ha hb (JL _)
def Ki (hu:X.A.units+n<cLine)(ha:DE X WX c a f)(hb:DE X WX c b g):DT X WX (.Compare a [.Eq] [b] pos) (λ ρ=>((f ρ).bind λ x=>(g ρ).bind λ y=>XU n x y).bind SQ):=Gm bP (bU hu) ha hb (JL _)
def FJ (hu:X.A.units+n<cLine)(ha:DE X WX c a f)(hb:DE X WX c b g):DT X WX (.Compare a [.NotEq] [b] pos) (λ ρ=>((f ρ).bind λ x=>(g ρ).bind λ y=>Vt n x y).bind SQ):=Gm bQ (bV hu) ha hb (JL _)
def EE {j pos'}(ha:DE X WX c a f):DT X WX (.Compare a [.Is] [.Constant .none j pos'] pos) (λ ρ=>(f ρ).bind λ x=>.ok (Bz x)):=by
 obtain⟨ta,a1,a2⟩:=ha;refine⟨_,Zp (Zn a1),λ P0 P σ H Q ρ E h=>?_⟩;dsimp only at h;refine a2 P0 P σ H _ ρ E ?_;cases e:f ρ with
 |bad|ex x=>rw[e] at h;exact h
 |ok x=>rw[e] at h;exact λ v H1 s1 hv=>⟨_,rfl,by rw[hv.zC];exact h H1 s1⟩
def Nx {j pos'}(ha:DE X WX c a f):DT X WX (.Compare a [.IsNot] [.Constant .none j pos'] pos) (λ ρ=>(f ρ).bind λ x=>.ok (!Bz x)):=by
 obtain⟨ta,a1,a2⟩:=ha;refine⟨_,Zp (Wr a1),λ P0 P σ H Q ρ E h=>?_⟩;dsimp only at h;refine a2 P0 P σ H _ ρ E ?_;cases e:f ρ with
 |bad|ex x=>rw[e] at h;exact h
 |ok x=>rw[e] at h;exact λ v H1 s1 hv=>⟨_,rfl,by rw[hv.zC];exact h H1 s1⟩
def Bn (ha:DT X WX a ft):DT X WX (.UnaryOp .Not a pos) (λ ρ=>(ft ρ).bind λ b=>.ok (!b)):=by
 obtain⟨ta,a1,a2⟩:=ha;refine⟨_,pN a1,λ P0 P σ H Q ρ E h=>?_⟩;dsimp only at h;refine a2 P0 P σ H _ ρ E ?_;cases e:ft ρ with
 |bad|ex x=>rw[e] at h;exact h
 |ok x=>rw[e] at h;exact λ H1 s1=>h H1 s1
def Ny (ha:DT X WX a ft):DW X WX (.BoolOp .And [a] pos) ft:=let ⟨ta,a1,a2⟩:=ha;⟨_,pw_and1 a1,a2⟩
def Ce (ha:DT X WX a ft):DW X WX (.BoolOp .Or [a] pos) ft:=let ⟨ta,a1,a2⟩:=ha;⟨_,pw_or1 a1,a2⟩
def RX {rest}(ha:DT X WX a ft)(hb:DW X WX (.BoolOp .And (b::rest) pos) gt):DW X WX (.BoolOp .And (a::b::rest) pos) (λ ρ=>(ft ρ).bind λ k=>if k=true then gt ρ else .ok false):=by
 obtain⟨ta,a1,a2⟩:=ha;obtain⟨tb,b1,b2⟩:=hb;refine⟨_,pw_and a1 b1,λ P0 P σ H Q ρ E h=>?_⟩;dsimp only at h;refine a2 P0 P σ H _ ρ E ?_;cases e:ft ρ with
 |bad|ex x=>rw[e] at h;exact h
 |ok k =>
  rw[e] at h;intro H1 s1;cases k with
  |true =>
   simp only[M.A8,if_true] at h ⊢;exact b2 P0 P σ H1 _ ρ (E.same s1) (h.same s1)
  |false =>
   simp only[M.A8,zaz,if_false] at h ⊢;exact h H1 s1
def CY {rest}(ha:DT X WX a ft)(hb:DW X WX (.BoolOp .Or (b::rest) pos) gt):DW X WX (.BoolOp .Or (a::b::rest) pos) (λ ρ=>(ft ρ).bind λ k=>if k=true then .ok true else gt ρ):=by
 obtain⟨ta,a1,a2⟩:=ha;obtain⟨tb,b1,b2⟩:=hb;refine⟨_,pw_or a1 b1,λ P0 P σ H Q ρ E h=>?_⟩;dsimp only at h;refine a2 P0 P σ H _ ρ E ?_;cases e:ft ρ with
 |bad|ex x=>rw[e] at h;exact h
 |ok k =>
  rw[e] at h;intro H1 s1;cases k with
  |true =>
   simp only[M.A8,if_true] at h ⊢;exact h H1 s1
  |false =>
   simp only[M.A8,zaz,if_false] at h ⊢;exact b2 P0 P σ H1 _ ρ (E.same s1) (h.same s1)
def Lz {op}(ha:DE X WX c a f):DE X WX c (.BoolOp op [a] pos) f:=let ⟨ta,a1,a2⟩:=ha;⟨_,pO a1,a2⟩
def JQ {rest}(ha:DE X WX c a f)(hb:DE X WX c (.BoolOp .And (b::rest) pos) g):DE X WX c (.BoolOp .And (a::b::rest) pos) (λ ρ=>((f ρ).bind SQ).bind λ k=>if k=true then g ρ else .ok (.bl false)):=by
 obtain⟨ta,a1,a2⟩:=ha;obtain⟨tb,b1,b2⟩:=hb;refine⟨_,pQ a1 b1,λ P0 P σ H Q ρ E h=>?_⟩;dsimp only at h;refine a2 P0 P σ H _ ρ E ?_;cases e:f ρ with
 |bad|ex x=>rw[e] at h;exact h
 |ok d =>
  rw[e] at h;simp only[M.A8] at h;unfold SQ at h;split at h
  ·rename_i k;intro v H1 s1 hv;refine⟨k,hv.O3,?_⟩;cases k with
   |true =>
    simp only[M.A8,if_true] at h ⊢;exact b2 P0 P σ H1 _ ρ (E.same s1) (h.same s1)
   |false =>
    simp only[M.A8,zaz,if_false] at h ⊢;exact h _ H1 s1 (.bl _)
  ·exact h.elim
def wM {rest}(ha:DE X WX c a f)(hb:DE X WX c (.BoolOp .Or (b::rest) pos) g):DE X WX c (.BoolOp .Or (a::b::rest) pos) (λ ρ=>((f ρ).bind SQ).bind λ k=>if k=true then .ok (.bl true) else g ρ):=by
 obtain⟨ta,a1,a2⟩:=ha;obtain⟨tb,b1,b2⟩:=hb;refine⟨_,vA a1 b1,λ P0 P σ H Q ρ E h=>?_⟩;dsimp only at h;refine a2 P0 P σ H _ ρ E ?_;cases e:f ρ with
 |bad|ex x=>rw[e] at h;exact h
 |ok d =>
  rw[e] at h;simp only[M.A8] at h;unfold SQ at h;split at h
  ·rename_i k;intro v H1 s1 hv;refine⟨k,hv.O3,?_⟩;cases k with
   |true =>
    simp only[M.A8,if_true] at h ⊢;exact h _ H1 s1 (.bl _)
   |false =>
    simp only[M.A8,zaz,if_false] at h ⊢;exact b2 P0 P σ H1 _ ρ (E.same s1) (h.same s1)
  ·exact h.elim
def rJ (ha:DE X WX c a f):DE X WX c (.UnaryOp .Not a pos) (λ ρ=>((f ρ).bind SQ).bind λ k=>.ok (.bl (!k))):=by
 obtain⟨ta,a1,a2⟩:=ha;refine⟨_,pR a1,λ P0 P σ H Q ρ E h=>?_⟩;dsimp only at h;refine a2 P0 P σ H _ ρ E ?_;cases e:f ρ with
 |bad|ex x=>rw[e] at h;exact h
 |ok d =>
  rw[e] at h;simp only[M.A8] at h;unfold SQ at h;split at h
  ·rename_i k;exact λ v H1 s1 hv=>⟨k,hv.O3,h _ H1 s1 (.bl _)⟩
  ·exact h.elim
def aaA (ha:DE X WX c a f):DE X WX c (.UnaryOp .USub a pos) (λ ρ=>(f ρ).bind λ d=>match d with | .int i=>.ok (.int (-i)) | _=>.bad):=by
 obtain⟨ta,a1,a2⟩:=ha;refine⟨_,vJ qG a1,λ P0 P σ H Q ρ E h=>?_⟩;dsimp only at h;refine a2 P0 P σ H _ ρ E ?_;cases e:f ρ with
 |bad|ex x=>rw[e] at h;exact h
 |ok d =>
  rw[e] at h;simp only[M.A8] at h;split at h
  ·rename_i i;exact λ v H1 s1 hv=>⟨i,hv.int_inv,h _ H1 s1 (.int _)⟩
  ·exact h.elim
def XW {p q:Int->Int->Bool}(ho:Gf X (compareOp op) (Zd λ i j=>.bl (p i j)))(aH:Gf X (compareOp bj) (Zd λ i j=>.bl (q i j)))(ha:DE X WX c a f)(hb:DE X WX c b g)(hd:DE X WX c d h)(hm:lastMarks [op,bj] [b,d]=false:=by with_unfolding_all rfl):DE X WX c (.Compare a [op,bj] [b,d] pos) (λ ρ=>(f ρ).bind λ x=>(g ρ).bind λ y=>Bh (λ i j=>if p i j=true then (h ρ).bind λ z=>Bh (λ _ k=>.ok (.bl (q j k))) (.int 0) z else .ok (.bl false)) x y):=by
 obtain⟨ta,a1,a2⟩:=ha;obtain⟨tb,b1,b2⟩:=hb;obtain⟨td,d1,d2⟩:=hd;refine⟨_,ZD ho aH a1 b1 d1 hm,λ P0 P σ H Q ρ E hh=>?_⟩;dsimp only at hh;refine a2 P0 P σ H _ ρ E ?_;cases e:f ρ with
 |bad|ex x=>rw[e] at hh;exact hh
 |ok x =>
  rw[e] at hh;intro v H1 s1 hv;refine b2 P0 P σ H1 _ ρ (E.same s1) ?_;cases e2:g ρ with
  |bad=>rw[e2] at hh;exact hh
  |ex y=>rw[e2] at hh;exact gV.same (m:=.ex y) hh s1
  |ok y =>
   rw[e2] at hh;simp only[M.A8] at hh;unfold Bh at hh;split at hh
   ·rename_i i j;intro w H2 s2 hw;refine⟨i,j,hv.int_inv,hw.int_inv,p i j,rfl,?_⟩;dsimp only at hh;by_cases hp:p i j=true
    ·rw[if_pos hp] at hh ⊢;refine d2 P0 P σ H2 _ ρ ((E.same s1).same s2) ?_;cases e3:h ρ with
     |bad=>rw[e3] at hh;exact hh
     |ex z=>rw[e3] at hh;exact gV.same (gV.same (m:=.ex z) hh s1) s2
     |ok z =>
      rw[e3] at hh;simp only[M.A8] at hh;cases z with
      |int k=>exact λ u H3 s3 hu=>⟨j,k,hw.int_inv,hu.int_inv,hh _ H3 ((s1.trans s2).trans s3) (.bl _)⟩
      |_=>exact hh.elim
    ·rw[if_neg hp] at hh ⊢;exact hh _ H2 (s1.trans s2) (.bl _)
   ·exact hh.elim
abbrev Mm (K:za1)(WX:Str->Hp->Prop)(r:List V->Hp->VK->Prop)(dF:List D->M D):Prop:=
 ∀(P:Addr->Prop) (H:Hp) (ds:List D) (vs:List V) (Q:VK),(∀a,P a->ED H a)->Ak K (del H P) vs ds->gV K WX P H Q (dF ds)->r vs H Q
variable {x:Str}{p:Pos}{es:List Expr}{fs:Ah->M (List D)}{id T:String}{r:List V->Hp->VK->Prop}{dF:List D->M D}
def bW (ha:∀P0 P σ H Q ρ,Am X.K P0 P H σ ρ->gA X.K WX (Lv c P0 P) H Q (fs ρ)->ta σ H Q)(hr:Mm X.K WX r dF)(E:Am X.K P0 P H σ ρ)(h:gV X.K WX (Lv c P0 P) H Q ((fs ρ).bind dF)):tCB r ta σ H Q:=by
 refine ha P0 P σ H _ ρ E ?_;cases e:fs ρ with
 |bad|ex x=>rw[e] at h;exact h
 |ok ds =>
  rw[e] at h;exact λ vs H1 s1 ay=>hr _ H1 ds vs Q (λ a q=>(E.same s1).wF c a q) ay (h.same s1)
def O4 (hc:GY X (.builtin id) r)(hr:Mm X.K WX r dF)(hg:Gl X x)(hm:X.mg x=none)(hv:bootBuiltins x=some (.builtin id))(ha:DA X WX c (e::es) fs)(hn:x ≠ "__name__" := by decide)(aI:(x==("__debug__" : Str))=false:=by decide)(he: ~~~(starEach (e::es) X.env=(false,eval e X.env)::starEach es X.env))(hpl: ~~~((backTo pos (starEach es X.env)).any (·.1)=false)):DE X WX c (.Call (.Name x p) (e::es) [] pos) (λ ρ=>(fs ρ).bind dF):=by
 obtain⟨ta,a1,a2,a3⟩:=ha;exact⟨_,Tb hc hg hm hv a1 hn aI he hpl,λ P0 P σ H Q ρ E h=>bW a2 hr E h⟩
def QS (hc:GY X (.type T) r)(hr:Mm X.K WX r dF)(hg:Gl X x)(hm:X.mg x=none)(hv:bootBuiltins x=some (.type T))(ha:DA X WX c (e::es) fs)(hn:x ≠ "__name__" := by decide)(aI:(x==("__debug__" : Str))=false:=by decide)(he: ~~~(starEach (e::es) X.env=(false,eval e X.env)::starEach es X.env))(hpl: ~~~((backTo pos (starEach es X.env)).any (·.1)=false)):DE X WX c (.Call (.Name x p) (e::es) [] pos) (λ ρ=>(fs ρ).bind dF):=by
 obtain⟨ta,a1,a2,a3⟩:=ha;exact⟨_,Lu hc hg hm hv a1 hn aI he hpl,λ P0 P σ H Q ρ E h=>bW a2 hr E h⟩
abbrev XX (ds:List D):M D:=match ds with
 |[.lst xs]|[.tup xs]=>.ok (.int xs.length)
 |_=>.bad
def Ak.one {K}(h:Ak K H vs [d]):∃v,vs=[v]/\BF K H v d:=by
 cases h with
 |cons h t=>cases t;exact⟨_,rfl,h⟩
def Ak.two {K}{e}(h:Ak K H vs [d,e]):∃v w,vs=[v,w]/\BF K H v d/\BF K H w e:=by
 cases h with
 |cons h t =>
  obtain⟨w,rfl,hw⟩:=t.one;exact⟨_,w,rfl,h,hw⟩
def rK:Mm X.K WX (λ xs H Q=>∃p ys,xs=[.ref p]/\(DB X.K H p ys\/Fq X.K H p ys)/\Q (.int ys.length) H) XX:=by
 intro P H ds vs Q ht hl h;unfold XX at h;split at h
 ·obtain⟨v,rfl,hv⟩:=hl.one;cases hv with
  |lst hs hh=>exact⟨_,_,rfl,.inl hs.Bf,by rw[hh.length];exact h _ H (Aj.refl H) (.int _)⟩
 ·obtain⟨v,rfl,hv⟩:=hl.one;cases hv with
  |tup hs hh=>exact⟨_,_,rfl,.inr (Fq.of (Al hs).2),by rw[hh.length];exact h _ H (Aj.refl H) (.int _)⟩
 ·exact h.elim
def CZ (hg:Gl X "len")(hm:X.mg "len" = none)(ha:DE X WX c e f)(hs: ~~~(starEach [e] X.env=[(false,eval e X.env)])):DE X WX c (.Call (.Name "len" p) [e] [] pos) (λ ρ=>((f ρ).bind λ d=>(M.ok []).bind λ ds=>.ok (d::ds)).bind XX):=
 O4 RN rK hg hm PySem.boot_len (A1 ha A6 hs) (he:=hs)
abbrev Vu (ds:List D):M D:=match ds with
 |[.lst xs]|[.tup xs]=>.ok (.tup xs)
 |_=>.bad
def bX:Mm X.K WX (λ xs H Q=>∃p ys,xs=[.ref p]/\((DB X.K H p ys/\∀l,H l=none->Q (.ref l) (upd H l (.tup ys)))\/(Fq X.K H p ys/\Q (.ref p) H))) Vu:=by
 intro P H ds vs Q ht hl h;unfold Vu at h;split at h
 ·obtain⟨v,rfl,hv⟩:=hl.one;cases hv with
  |lst hs hh=>exact⟨_,_,rfl,.inl ⟨hs.Bf,λ l hn=>h _ _ (AK hn _) (.tup (Kh hn ht) (hh.mono (AK hn _).del))⟩⟩
 ·obtain⟨v,rfl,hv⟩:=hl.one;cases hv with
  |tup hs hh=>exact⟨_,_,rfl,.inr ⟨Fq.of (Al hs).2,h _ H (Aj.refl H) (.tup hs hh)⟩⟩
 ·exact h.elim
def bY (hg:Gl X "tuple")(hm:X.mg "tuple" = none)(ha:DE X WX c e f)(hb:bootBuiltins "tuple" = some (.type "tuple"):=by decide +kernel)(hs: ~~~(starEach [e] X.env=[(false,eval e X.env)])):DE X WX c (.Call (.Name "tuple" p) [e] [] pos) (λ ρ=>((f ρ).bind λ d=>(M.ok []).bind λ ds=>.ok (d::ds)).bind Vu):=
 QS Qj bX hg hm hb (A1 ha A6 hs) (he:=hs)
abbrev nS:D->String
 | .Ax => "NoneType"
 | .bl _ => "bool"
 | .int _ => "int"
 | .str _ => "str"
 | .tup _ => "tuple"
 | .lst _ => "list"
 | .Lo _ => "NoneType"
 | .BN _ _ _ => "dict"
 | .ins _ _ _ => "NoneType"
abbrev F9 (T:String)(d:D):Bool:=(nS d==T)||(nS d == "bool" && T == "int")
abbrev Jl (T:String)(d:D):M D:=match d with
 | .Lo _| .ins _ _ _=>.bad
 |d=>.ok (.bl (F9 T d))
abbrev wN:D->Bool
 | .Lo _| .ins _ _ _=>true
 |_=>false
def bZ (h:wN d=false):Jl T d=.ok (.bl (F9 T d)):=by cases d<;>first | rfl | cases h
abbrev aaB (K:za1)(T:String):List V->Hp->VK->Prop:=λ xs H Q=>∃x d,xs=[x,.ty T]/\BF K H x d/\wN d=false/\Q (.bl (F9 T d)) H
def cB (hk:∀d:D,PySem.W.kitOne X.K (.type (nS d)) (.type T)=some (F9 T d)):GY X (.builtin "isinstance") (aaB X.K T):=by
 intro pins s σ H xs us Q I r h;obtain⟨x,d,rfl,hd,hx,q⟩:=h;obtain⟨u,w,rfl,rx,ba⟩:=r.two;cases ba;have fin:∀tk,EP X pins σ Q (.bool (F9 T d)) {s with toks:=tk}:=λ tk=>⟨.bl _,H,I.tok tk,rfl,q⟩;have e:=hk d;cases hd with
 |Lo _ _|ins _ _ _=>cases hx
 |SN hs hl =>
  cases rx;obtain⟨⟨o,h1,h2⟩,_,_⟩:=RQ I (.inl ⟨_,hs⟩);exact zck PySem.W.kitx_dict I.Mh ⟨o,h1,h2⟩ e (λ z=>nomatch z) fin
 |Ts hs hl =>
  cases rx;obtain⟨⟨o,h1,h2⟩,_,_⟩:=RQ I (.inr ⟨_,hs⟩);exact zck PySem.W.kitx_dict I.Mh ⟨o,h1,h2⟩ e (λ z=>nomatch z) fin
 |Ax=>cases rx;exact zck PySem.W.kitx_none I.Mh zcp e (λ z=>nomatch z) fin
 |bl b=>cases rx;exact zck PySem.W.kitx_bool I.Mh zcp e (λ z=>nomatch z) fin
 |int b=>obtain⟨t,rfl⟩:=rx;exact zck PySem.W.kitx_int I.Mh zcp e (λ z=>nomatch z) fin
 |str b=>obtain⟨t,rfl⟩:=rx;exact zck PySem.W.kitx_str I.Mh zcp e (λ z=>nomatch z) fin
 |tup hs hl =>
  cases rx;obtain⟨_,_,⟨o,h1,h2,_⟩,_⟩:=I.tuple (.of hs);exact zck PySem.W.kitx_tuple I.Mh ⟨o,h1,h2⟩ e (λ z=>nomatch z) fin
 |lst hs hl =>
  cases rx;obtain⟨_,_,⟨o,n,h1,h2,_⟩,_⟩:=I.list hs;exact zck PySem.W.kitx_list I.Mh ⟨o,h1,h2⟩ e (λ z=>nomatch z) fin
def Dh (hk:∀d:D,PySem.W.kitOne X.K (.type (nS d)) (.type T)=some (F9 T d))(hg:Gl X "isinstance")(hm:X.mg "isinstance" = none)(jk:Gl X x2)(aG:X.mg x2=none)(pi:bootBuiltins x2=some (.type T))(ha:DE X WX c e f)(hb:bootBuiltins "isinstance" = some (.builtin "isinstance"):=by decide +kernel)(a6:x2 ≠ "__name__" := by decide)(pj:(x2==("__debug__" : Str))=false:=by decide)(hs: ~~~(starEach [e,.Name x2 p2] X.env=(false,eval e X.env)::starEach [.Name x2 p2] X.env))(a9: ~~~(starEach [.Name x2 p2] X.env=[(false,eval (.Name x2 p2) X.env)]))(hpl: ~~~((backTo pos (starEach [.Name x2 p2] X.env)).any (·.1)=false)):
 DE X WX c (.Call (.Name "isinstance" p) [e,.Name x2 p2] [] pos) (λ ρ=>(f ρ).bind λ d=>Jl T d):=by
 obtain⟨ta,a1,a2⟩:=ha;refine⟨_,Tb (cB hk) hg hm hb (Bc a1 (Bc (iM (v:=.ty T) jk aG pi rfl a6 pj) Cd a9) hs) (by decide) (by decide) hs hpl,λ P0 P σ H Q ρ E h=>?_⟩;dsimp only at h;refine a2 P0 P σ H _ ρ E ?_;refine XR h λ d h=>?_;cases hx:wN d with
 |true=>cases d<;>first|exact h.elim|cases hx
 |false =>
  rw[bZ hx] at h;exact λ v H1 s1 hv=>⟨v,d,rfl,hv.mono EC,hx,h _ H1 s1 (.bl _)⟩
def Gn (K:za1)(d:D):PySem.W.kitOne K (.type (nS d)) (.type "tuple")=some (F9 "tuple" d):=by cases d<;>rfl
def LB (K:za1)(d:D):PySem.W.kitOne K (.type (nS d)) (.type "list")=some (F9 "list" d):=by cases d<;>rfl
def LC (K:za1)(d:D):PySem.W.kitOne K (.type (nS d)) (.type "bool")=some (F9 "bool" d):=by cases d<;>rfl
def O5 (K:za1)(d:D):PySem.W.kitOne K (.type (nS d)) (.type "int")=some (F9 "int" d):=by cases d<;>rfl
abbrev nT (lo hi:Option Int)(d:D):M D:=match d with
 | .lst ds=>.ok (.lst ((ds.drop (HT.NS ds.length 0 lo)).take (HT.NS ds.length ds.length hi-HT.NS ds.length 0 lo)))
 |_=>.bad
abbrev DO (X:Cx)(WX:Str->Hp->Prop)(c:Bool)(e:Option Expr)(f:Ah->M (Option Int)):Prop:=
 ∃t,PO X e t/\∀P0 P σ H Q ρ,Am X.K P0 P H σ ρ->(match f ρ with | .ok o=>∀H',Aj H H'->Q o H' | .ex x=>∀H',Aj H H'->WX x H' | .bad=>False)->t σ H Q
def Kj:DO X WX c none (λ _=>.ok none):=⟨_,jA,λ P0 P σ H Q ρ E h=>h H (Aj.refl H)⟩
abbrev asI (d:D):M (Option Int):=match d with | .int i=>.ok (some i) | _=>.bad
def Gp (ha:DE X WX c e f):DO X WX c (some e) (λ ρ=>(f ρ).bind asI):=by
 obtain⟨ta,a1,a2⟩:=ha;refine⟨_,jB a1,λ P0 P σ H Q ρ E h=>?_⟩;dsimp only at h;refine a2 P0 P σ H _ ρ E ?_;cases q:f ρ with
 |bad|ex x=>rw[q] at h;exact h
 |ok d =>
  rw[q] at h;cases d with
  |int i=>exact λ v H1 s1 hv=>⟨i,hv.int_inv,h H1 s1⟩
  |_=>exact h.elim
end
inductive Out where
 |ret (d:D)|next (ρ:Ah)|brk (ρ:Ah)|cont (ρ:Ah)|Cq (c:Cl)|Fv (t:OT) (ρ:Ah)
variable {g1 g2:Ah->M Out}
abbrev Tr (P0 P:Addr->Prop)(H:Hp)(P':Addr->Prop)(H':Hp):Prop:=Aj (del H P) (del H' P')/\∀a,P0 a->H' a=H a
def Tr.refl:Tr P0 P H P H:=⟨Aj.refl _,λ _ _=>rfl⟩
def Tr.trans (a:Tr P0 P H P1 H1)(b:Tr P0 P1 H1 P2 H2):Tr P0 P H P2 H2:=⟨a.1.trans b.1,λ x h=>(b.2 x h).trans (a.2 x h)⟩
def Am.tr {K}(E:Am K P0 P H σ ρ)(e:Aj H H'):Tr P0 P H P H':=
 ⟨e.del,λ a h=>by obtain⟨o,q,_⟩:=E.BX a (E.sub a h);rw[e a o q,q]⟩
abbrev gS (K:za1)(WX:Str->Hp->Prop)(P0:DZ)(P:Addr->Prop)(H:Hp)(Z:Ends):M Out->Prop
 | .ok (.ret d)=>∀v H' P',Tr P0 P H P' H'->BF K (del H' P0) v d->Z.rt v H'
 | .ok (.next ρ)=>∀σ' H' P',Tr P0 P H P' H'->Am K P0 P' H' σ' ρ->Z.nx σ' H'
 | .ok (.brk ρ)=>∀σ' H' P',Tr P0 P H P' H'->Am K P0 P' H' σ' ρ->Z.bk σ' H'
 | .ok (.cont ρ)=>∀σ' H' P',Tr P0 P H P' H'->Am K P0 P' H' σ' ρ->Z.ct σ' H'
 | .ok (.Cq c)=>∀v fp H' P',Tr P0 P H P' H'->(∀a,P0 a->P' a)->(∀a,P' a->ED H' a)->CU K H' P' c v fp->(∀a∈fp,P' a/\¬ P0 a)->fp.Nodup->Z.rt v H'
 | .ok (.Fv t ρ)=>∀v fp σ' H' P',Tr P0 P H P' H'->Am K P0 P' H' σ' ρ->BS K H' P' v t fp->fp.Nodup->(∀a∈fp,P' a/\¬ P0 a/\∀(j:Nat) c v' fq,ρ[j]?=some (some c)->σ'[j]?=some (some v')->CU K H' P' c v' fq->a∉fq)->Z.rt v H'
 | .ex x=>∀H' P',Tr P0 P H P' H'->WX x H'
 | .bad=>False
def gS.tr {K}(h:gS K WX P0 P H Z m)(t:Tr P0 P H P' H'):gS K WX P0 P' H' Z m:=by
 cases m with
 |bad=>exact h
 |ex x=>exact λ H2 P2 t2=>h H2 P2 (t.trans t2)
 |ok o =>
  cases o with
  |ret d=>exact λ v H2 P2 t2 hv=>h v H2 P2 (t.trans t2) hv
  |next ρ|brk ρ|cont ρ=>exact λ σ2 H2 P2 t2 hv=>h σ2 H2 P2 (t.trans t2) hv
  |Cq c=>exact λ v fp H2 P2 t2=>h v fp H2 P2 (t.trans t2)
  |Fv c ρ=>exact λ v fp σ2 H2 P2 t2=>h v fp σ2 H2 P2 (t.trans t2)
abbrev DS (X:Cx)(WX:Str->Hp->Prop)(st:Stmt)(g:Ah->M Out):Prop:=
 ∃t,PS X st t/\∀P0 P σ H Z ρ,Am X.K P0 P H σ ρ->gS X.K WX P0 P H Z (g ρ)->t Z σ H
abbrev SR (X:Cx)(WX:Str->Hp->Prop)(st:List Stmt)(g:Ah->M Out):Prop:=
 ∃t,Wq X st t/\∀P0 P σ H Z ρ,Am X.K P0 P H σ ρ->gS X.K WX P0 P H Z (g ρ)->t Z σ H
abbrev XY (m:M Out)(k:Ah->M Out):M Out:=match m with
 | .ok (.next ρ)=>k ρ
 |m=>m
section
variable {c:Bool}{P0:DZ}{P:Addr->Prop}{a b:Expr}{f:Ah->M D}{st:Stmt}{rest:List Stmt}
def Ap:SR X WX [] (λ ρ=>.ok (.next ρ)):=⟨_,iN,λ P0 P σ H Z ρ E h=>h σ H P Tr.refl E⟩
def A5 (h:DS X WX st g1):SR X WX [st] g1:=let ⟨t,h1,h2⟩:=h;⟨_,iO h1,h2⟩
def A2 (h:DS X WX st g1)(hr:SR X WX rest g2):SR X WX (st::rest) (λ ρ=>XY (g1 ρ) g2):=by
 obtain⟨t,h1,h2⟩:=h;obtain⟨u,r1,r2⟩:=hr;refine⟨_,Zq h1 r1,λ P0 P σ H Z ρ E h=>?_⟩;dsimp only at h;refine h2 P0 P σ H {Z with nx:=u Z} ρ E ?_;cases q:g1 ρ with
 |bad|ex x=>rw[q] at h;exact h
 |ok o =>
  rw[q] at h;cases o with
  |ret d|brk d|cont d|Cq d|Fv d ρ2=>exact h
  |next ρ'=>exact λ σ' H' P' t E'=>r2 P0 P' σ' H' Z ρ' E' (gS.tr h t)
def cC (ha:DE X WX false e f):DS X WX (.Return (some e) pos) (λ ρ=>(f ρ).bind λ d=>.ok (.ret d)):=by
 obtain⟨ta,a1,a2⟩:=ha;refine⟨_,RI a1,λ P0 P σ H Z ρ E h=>?_⟩;dsimp only at h;refine a2 P0 P σ H _ ρ E ?_;cases q:f ρ with
 |bad=>rw[q] at h;exact h
 |ex x=>rw[q] at h;exact λ H' s=>h H' P (E.tr s)
 |ok d=>rw[q] at h;exact λ v H' s hv=>h v H' P (E.tr s) hv
def AZ {c}(hc:DT X WX c ft)(ha:SR X WX sa g1)(hb:SR X WX sb g2):DS X WX (.If c sa sb pos) (λ ρ=>(ft ρ).bind λ k=>if k=true then g1 ρ else g2 ρ):=by
 obtain⟨tc,c1,c2⟩:=hc;obtain⟨ta,a1,a2⟩:=ha;obtain⟨tb,b1,b2⟩:=hb;refine⟨_,vE c1 a1 b1,λ P0 P σ H Z ρ E h=>?_⟩;dsimp only at h;refine c2 P0 P σ H _ ρ E ?_;cases q:ft ρ with
 |bad=>rw[q] at h;exact h
 |ex x=>rw[q] at h;exact λ H' s=>h H' P (E.tr s)
 |ok k =>
  rw[q] at h;intro H1 s1;cases k with
  |true =>
   simp only[M.A8,if_true] at h ⊢;exact a2 P0 P σ H1 Z ρ (E.same s1) (h.tr (E.tr s1))
  |false =>
   simp only[M.A8,zaz,if_false] at h ⊢;exact b2 P0 P σ H1 Z ρ (E.same s1) (h.tr (E.tr s1))
def get_set {α:Type}{l:List α}{x y}(h:(l.set i x)[j]?=some y):(i=j/\i<l.length/\x=y)\/(i≠j/\l[j]?=some y):=by
 by_cases e:i=j
 ·subst e;rw[List.getElem?_set_self'] at h;cases q:l[i]? with
  |none=>rw[q] at h;cases h
  |some z =>
   rw[q] at h;exact .inl ⟨rfl,(zae.mp q).1,by simpa using h⟩
 ·rw[zbs e] at h;exact .inr ⟨e,h⟩
def Am.Vv {K}(E:Am K P0 P H σ ρ)(hv:BF K (del H P) v d):Am K P0 P H (σ.set i (some v)) (ρ.set i (some (.val d))):=by
 have gs:∀ {j:Nat},i≠j->(σ.set i (some v))[j]?=σ[j]? :=λ h=>zbs h;refine⟨E.sub,E.BX,λ j e h=>?_,λ j c h io=>?_,λ j k c c' u u' fp ag h1 h2 h3 h4 h5 h6 ad=>?_,by rw[zc7,zc7];exact E.len,λ j c n h hp=>?_⟩
 rotate_left 3
 ·rcases get_set h with ⟨rfl,hl,e1⟩|⟨ad,h⟩
  ·cases e1;cases hp
  ·rw[gs ad];exact E.pin j c n h hp
 ·rcases get_set h with ⟨rfl,hl,e1⟩|⟨ad,h⟩
  ·cases e1;exact⟨v,zb3 (by rw[E.len];exact hl),hv⟩
  ·obtain⟨w,h1,h2⟩:=E.val j e h;exact⟨w,by rw[gs ad];exact h1,h2⟩
 ·rcases get_set h with ⟨rfl,hl,e1⟩|⟨ad,h⟩
  ·cases e1;cases io
  ·obtain⟨w,fp,h1,h2⟩:=E.ows j c h io;exact⟨w,fp,by rw[gs ad];exact h1,h2⟩
 ·rcases get_set h1 with ⟨rfl,hl,e1⟩|⟨cb,h1⟩
  ·cases e1;exact h5.elim
  ·rcases get_set h2 with ⟨rfl,hl,e1⟩|⟨a6,h2⟩
   ·cases e1;exact h6.elim
   ·rw[gs cb] at h3;rw[gs a6] at h4;exact E.apart j k c c' u u' fp ag h1 h2 h3 h4 h5 h6 ad
def Am.jV {K}(E:Am K P0 P H σ ρ){c}(hs:∀a,P a->P' a)(ht:∀a,P' a->ED H' a)(sm:Aj (del H P) (del H' P'))(keep:∀(j:Nat) c' v' ag,i≠j->ρ[j]?=some (some c')->σ[j]?=some (some v')->CU K H P c' v' ag->∀a∈ag,H' a=H a/\a∉fp)(new:CU K H' P' c v fp)(hp:∀a∈fp,P' a/\¬ P0 a)(nd:fp.Nodup)(fm:∀n,QQ c=some n->v=.ref (P0.g n):=by intro n z;cases z):Am K P0 P' H' (σ.set i (some v)) (ρ.set i (some c)):=by
 have gs:∀ {j:Nat},i≠j->(σ.set i (some v))[j]?=σ[j]? :=λ h=>zbs h;refine⟨λ a h=>hs a (E.sub a h),ht,λ j e h=>?_,λ j c' h io=>?_,λ j k c1 c2 u u' ap b6 h1 h2 h3 h4 h5 h6 ad=>?_,by rw[zc7,zc7];exact E.len,λ j c' n h hp=>?_⟩
 rotate_left 3
 ·rcases get_set h with ⟨rfl,hl,e1⟩|⟨ad,h⟩
  ·cases e1;rw[zb3 (by rw[E.len];exact hl),fm n hp]
  ·rw[gs ad];exact E.pin j c' n h hp
 ·rcases get_set h with ⟨rfl,hl,e1⟩|⟨ad,h⟩
  ·cases e1;exact new.elim
  ·obtain⟨w,h1,h2⟩:=E.val j e h;exact⟨w,by rw[gs ad];exact h1,h2.mono sm⟩
 ·rcases get_set h with ⟨rfl,hl,e1⟩|⟨ad,h⟩
  ·cases e1;exact⟨v,fp,zb3 (by rw[E.len];exact hl),new,hp,nd⟩
  ·obtain⟨w,fq,h1,h2,h3,h4⟩:=E.ows j c' h io;exact⟨w,fq,by rw[gs ad];exact h1,h2.move sm λ a ha=>(keep j c' w fq ad h h1 h2 a ha).1,λ a ha=>⟨hs a (h3 a ha).1,(h3 a ha).2⟩,h4⟩
 ·have back:∀(l:Nat) (d:Cl) (w:V) (fq:List Addr),i≠l->ρ[l]?=some (some d)->σ[l]?=some (some w)->CU K H' P' d w fq->∃fr,CU K H P d w fr/\fr=fq:=λ l d w fq hn hk sk ho=>by
   have io:Gk d=true:=by cases d<;>first|rfl|exact ho.elim
   obtain⟨w',b6,s2,o2,_⟩:=E.ows l d hk io;rw[sk] at s2;cases s2;exact⟨b6,o2,(o2.move sm λ a ha=>(keep l d w b6 hn hk sk o2 a ha).1).C5 ho⟩
  rcases get_set h1 with ⟨rfl,hl,e1⟩|⟨cb,h1⟩
  ·cases e1;rw[zb3 (by rw[E.len];exact hl)] at h3;cases h3;rcases get_set h2 with ⟨e,_⟩|⟨a6,h2⟩
   ·exact (ad e).elim
   ·rw[gs a6] at h4;obtain⟨fr,o,rfl⟩:=back k c2 u' b6 a6 h2 h4 h6;intro a ha hb;rw[new.C5 h5] at keep;exact (keep k c2 u' fr a6 h2 h4 o a hb).2 ha
  ·rw[gs cb] at h3;obtain⟨fr,o,rfl⟩:=back j c1 u ap cb h1 h3 h5;rcases get_set h2 with ⟨rfl,hl,e1⟩|⟨a6,h2⟩
   ·cases e1;rw[zb3 (by rw[E.len];exact hl)] at h4;cases h4;intro a ha;rw[new.C5 h6] at keep;exact (keep j c1 u fr cb h1 h3 o a ha).2
   ·rw[gs a6] at h4;obtain⟨pk,o2,rfl⟩:=back k c2 u' b6 a6 h2 h4 h6;exact E.apart j k c1 c2 u u' fr pk h1 h2 h3 h4 o o2 ad
def Am.wO {K}(E:Am K P0 P H σ ρ){c}(hs:∀a,P0 a->P' a)(ht:∀a,P' a->ED H' a)(sm:Aj (del H P) (del H' P'))(keep:∀(j:Nat) c' v' ag,i≠j->ρ[j]?=some (some c')->σ[j]?=some (some v')->CU K H P c' v' ag->∀a∈ag,H' a=H a/\a∉fp/\P' a)(new:CU K H' P' c v fp)(hp:∀a∈fp,P' a/\¬ P0 a)(nd:fp.Nodup)(fm:∀n,QQ c=some n->v=.ref (P0.g n):=by intro n z;cases z):Am K P0 P' H' (σ.set i (some v)) (ρ.set i (some c)):=by
 have gs:∀ {j:Nat},i≠j->(σ.set i (some v))[j]?=σ[j]? :=λ h=>zbs h;refine⟨hs,ht,λ j e h=>?_,λ j c' h io=>?_,λ j k c1 c2 u u' ap b6 h1 h2 h3 h4 h5 h6 ad=>?_,by rw[zc7,zc7];exact E.len,λ j c' n h hp=>?_⟩
 rotate_left 3
 ·rcases get_set h with ⟨rfl,hl,e1⟩|⟨ad,h⟩
  ·cases e1;rw[zb3 (by rw[E.len];exact hl),fm n hp]
  ·rw[gs ad];exact E.pin j c' n h hp
 ·rcases get_set h with ⟨rfl,hl,e1⟩|⟨ad,h⟩
  ·cases e1;exact new.elim
  ·obtain⟨w,h1,h2⟩:=E.val j e h;exact⟨w,by rw[gs ad];exact h1,h2.mono sm⟩
 ·rcases get_set h with ⟨rfl,hl,e1⟩|⟨ad,h⟩
  ·cases e1;exact⟨v,fp,zb3 (by rw[E.len];exact hl),new,hp,nd⟩
  ·obtain⟨w,fq,h1,h2,h3,h4⟩:=E.ows j c' h io;exact⟨w,fq,by rw[gs ad];exact h1,h2.move sm λ a ha=>(keep j c' w fq ad h h1 h2 a ha).1,λ a ha=>⟨(keep j c' w fq ad h h1 h2 a ha).2.2,(h3 a ha).2⟩,h4⟩
 ·have back:∀(l:Nat) (d:Cl) (w:V) (fq:List Addr),i≠l->ρ[l]?=some (some d)->σ[l]?=some (some w)->CU K H' P' d w fq->∃fr,CU K H P d w fr/\fr=fq:=λ l d w fq hn hk sk ho=>by
   have io:Gk d=true:=by cases d<;>first|rfl|exact ho.elim
   obtain⟨w',b6,s2,o2,_⟩:=E.ows l d hk io;rw[sk] at s2;cases s2;exact⟨b6,o2,(o2.move sm λ a ha=>(keep l d w b6 hn hk sk o2 a ha).1).C5 ho⟩
  rcases get_set h1 with ⟨rfl,hl,e1⟩|⟨cb,h1⟩
  ·cases e1;rw[zb3 (by rw[E.len];exact hl)] at h3;cases h3;rcases get_set h2 with ⟨e,_⟩|⟨a6,h2⟩
   ·exact (ad e).elim
   ·rw[gs a6] at h4;obtain⟨fr,o,rfl⟩:=back k c2 u' b6 a6 h2 h4 h6;intro a ha hb;rw[new.C5 h5] at keep;exact (keep k c2 u' fr a6 h2 h4 o a hb).2.1 ha
  ·rw[gs cb] at h3;obtain⟨fr,o,rfl⟩:=back j c1 u ap cb h1 h3 h5;rcases get_set h2 with ⟨rfl,hl,e1⟩|⟨a6,h2⟩
   ·cases e1;rw[zb3 (by rw[E.len];exact hl)] at h4;cases h4;intro a ha;rw[new.C5 h6] at keep;exact (keep j c1 u fr cb h1 h3 o a ha).2.1
   ·rw[gs a6] at h4;obtain⟨pk,o2,rfl⟩:=back k c2 u' b6 a6 h2 h4 h6;exact E.apart j k c1 c2 u u' fr pk h1 h2 h3 h4 o o2 ad
def RY {α:Type}:∀ {l:List α}{i:Nat}{x:α},l[i]?=some x->l.set i x=l
 |[],_,_,h=>by cases h
 |y::r,0,x,h=>by cases h;rfl
 |y::r,i+1,x,h=>by rw[zag,RY (by simpa using h)]
def Am.mut {K}(E:Am K P0 P H σ ρ)(ho:ρ[i]?=some (some (.own ds)))(hs:σ[i]?=some (some (.ref p)))(pP:P p)(mi:¬ P0 p)(hx:Ak K (del H P) xs mh):
 Am K P0 P (upd H p (.lst xs)) σ (ρ.set i (some (.own mh)))/\Tr P0 P H P (upd H p (.lst xs)):=by
 have sd:del (upd H p (.lst xs)) P=del H P:=by
  funext b;by_cases hb:P b
  ·rw[Gj hb,Gj hb]
  ·rw[AB hb,AB hb,Ai (λ z=>hb (by rw[z];exact pP))]
 have sm:Aj (del H P) (del (upd H p (.lst xs)) P):=by rw[sd];exact Aj.refl _
 obtain⟨v,fp,s1,o1,_⟩:=E.ows i _ ho rfl;rw[hs] at s1;cases s1;have key:=E.jV (P':=P) (H':=upd H p (.lst xs)) (i:=i) (v:=.ref p) (c:=.own mh) (fp:=[p]) (λ a h=>h) (λ a h=>?_) sm (λ j c' v' ag ad h1 h2 h3 a ha=>?_) ⟨p,xs,rfl,rfl,An,by rw[sd];exact hx⟩ (λ a ha=>by rw[za9.mp ha];exact⟨pP,mi⟩) (by simp)
 ·rw[RY hs] at key;exact⟨key,sm,λ a h=>by rw[Ai (λ z=>mi (by rw[<-z];exact h))]⟩
 ·by_cases ha:a=p
  ·subst ha;exact ED.lst An
  ·unfold ED;rw[Ai ha];exact E.BX a h
 ·obtain⟨p',d4,e,rfl,_⟩:=o1;cases e;have hn:a≠p:=λ z=>E.apart j i c' _ v' _ ag [p] h1 ho h2 hs h3 ⟨p,d4,rfl,rfl,by assumption⟩ (zbl ad) a ha (by rw[z];exact za9.mpr rfl);exact⟨Ai hn,λ z=>hn (za9.mp z)⟩
def Am.grow {K}(E:Am K P0 P H σ ρ)(ho:ρ[i]?=some (some (.own ds)))(hs:σ[i]?=some (some (.ref p)))(hp:H p=some (.lst xs))(pP:P p)(mi:¬ P0 p)(hx:Ak K (del H P) xs ds)(hv:BF K (del H P) v d):
 Am K P0 P (upd H p (.lst (xs++[v]))) σ (ρ.set i (some (.own (ds++[d]))))/\Tr P0 P H P (upd H p (.lst (xs++[v]))):=E.mut ho hs pP mi (hx.snoc hv)
def Aq (i:Nat)(hN:X.N.Nodup)(hi:X.N[i]?=some x)(hx:Loc X.env.scope x)(ha:DE X WX true e f)(hs: ~~~(swapsWith e (some (.Name x pos')) pos.line X.env=pure false))(hf:X.fn x=true\/X.env.scope.names.lookup x=some .local:=by first | exact .inl rfl | exact .inr rfl | assumption):
 DS X WX (.Assign [.Name x pos'] e pos) (λ ρ=>(f ρ).bind λ d=>.ok (.next (ρ.set i (some (.val d))))):=by
 obtain⟨ta,a1,a2⟩:=ha;refine⟨_,V6 hN hi hx a1 hs hf,λ P0 P σ H Z ρ E h=>?_⟩;dsimp only at h;refine a2 P0 P σ H _ ρ E ?_;cases q:f ρ with
 |bad=>rw[q] at h;exact h
 |ex x=>rw[q] at h;exact λ H' s=>h H' P (E.tr s)
 |ok d=>rw[q] at h;exact λ v H' s hv=>h _ H' P (E.tr s) ((E.same s).Vv hv)
def iF {K}{α:Type}{m}{k}{R:M α->Prop}(h:gS K WX P0 P H Z (m.bind k))(E:Am K P0 P H σ ρ)(hk:∀a,gS K WX P0 P H Z (k a)->R (.ok a))(hb:False->R .bad:=by exact λ h=>h)(hx:∀x,(∀H',Aj H H'->WX x H')->R (.ex x):=by exact λ _ h=>h):R m:=by
 cases m with
 |ok a=>exact hk a h
 |ex x=>exact hx x λ H' s=>h H' P (E.tr s)
 |bad=>exact hb h
abbrev XZ (i:Nat)(ρ:Ah)(m:M D):M Out:=match ρ[i]? with
 |some (some (.own ds))=>m.bind λ d=>if ds.length<1000 then .ok (.next (ρ.set i (some (.own (ds++[d]))))) else .bad
 |_=>.bad
def LD (i:Nat)(hv:PE X (.Name x p1) (Qf i))(ha:DE X WX true e f)(hs: ~~~(starEach [e] X.env=[(false,eval e X.env)]))(bo: ~~~(swapsWith (.Call (.Attribute (.Name x p1) "append" apos) [e] [] ac) none pos.line X.env=pure false))(aj: ~~~(attributeBase (.Name x p1) "append" X.env (eval (.Name x p1) X.env)=eval (.Name x p1) X.env))(aT: ~~~(((backTo ac (starEach [e] X.env)).all (λ x => !x.1)&&(backToKw ac (keywordEach [] X.env)).all (λ x=>x.1.isSome)&&decide (([e]:List Expr).length+([]:List Keyword).length+(if ([]:List Keyword).isEmpty then 0 else 1)<30))=true))(ak: ~~~((apos.endLine==ac.line)=true))(aq: ~~~((backTo ac (starEach [] X.env)).any (·.1)=false)):
 DS X WX (.Expr (.Call (.Attribute (.Name x p1) "append" apos) [e] [] ac) pos) (λ ρ=>XZ i ρ (f ρ)):=by
 obtain⟨ta,a1,a2⟩:=ha;refine⟨_,Gd (Wz zc9 PySem.F.slot_list_append PySem.F.type_list_append QL hv (Bc a1 Cd hs) aj aT ak hs aq) bo,λ P0 P σ H Z ρ E h=>?_⟩;dsimp only at h;unfold XZ at h;split at h
 ·rename_i ds e1;obtain⟨p,xs,h1,h2,h3,h4,h5⟩:=E.own i ds e1;refine⟨_,h1,.inl ⟨rfl,xs,.of h2⟩,?_⟩;refine a2 P0 P σ H _ ρ E ?_;refine iF h E λ d h=>?_;by_cases hl:ds.length<1000
  ·rw[if_pos hl] at h;intro v H1 s1 hv;have E1:=E.same s1;have ib:H1 p=some (.lst xs):=s1 _ _ h2;refine⟨p,xs,v,rfl,rfl,ib,AA (by rw[h5.length];omega),?_⟩;obtain⟨E2,t2⟩:=E1.grow e1 h1 ib h3 h4 (h5.mono s1.del) hv;exact h _ _ _ ((E.tr s1).trans t2) E2
  ·rw[if_neg hl] at h;exact h.elim
 ·exact h.elim
def WK (ha:DE X WX c e f)(hs: ~~~(swapsWith e none pos.line X.env=pure false)):DS X WX (.Expr e pos) (λ ρ=>(f ρ).bind λ _=>.ok (.next ρ)):=by
 obtain⟨ta,a1,a2⟩:=ha;refine⟨_,Gd a1 hs,λ P0 P σ H Z ρ E h=>?_⟩;dsimp only at h;refine a2 P0 P σ H _ ρ E ?_;cases q:f ρ with
 |bad=>rw[q] at h;exact h
 |ex x=>rw[q] at h;exact λ H' s=>h H' P (E.tr s)
 |ok d=>rw[q] at h;exact λ v H' s hv=>h _ H' P (E.tr s) (E.same s)
end
abbrev gG (K:za1)(P0:DZ)(P:Addr->Prop)(H:Hp)(Q:St->Hp->Prop):M Ah->Prop
 | .ok ρ=>∀σ',Am K P0 P H σ' ρ->Q σ' H
 |_=>False
abbrev DG (X:Cx)(tg:Expr)(gt:D->Ah->M Ah):Prop:=
 ∃g:TG,PG X tg g/\∀P0 P σ H Q ρ v d,Am X.K P0 P H σ ρ->BF X.K (del H P) v d->gG X.K P0 P H Q (gt d ρ)->g v σ H Q
abbrev zD (X:Cx)(wt:List Expr)(gt:List D->Ah->M Ah):Prop:=
 ∃g:Zc,uG X wt g/\∀P0 P σ H Q ρ v d,Am X.K P0 P H σ ρ->Ak X.K (del H P) v d->gG X.K P0 P H Q (gt d ρ)->g v σ H Q
structure Vw (K:za1)(J:It)(P:Addr->Prop)(H:Hp)(ds:List D):Prop where
 go:∀(i:Nat) P' H',Aj (del H P) (del H' P')->i<ds.length->J.go i H'
 stop:∀(i:Nat) P' H',Aj (del H P) (del H' P')->ds.length<=i->J.stop i H'
 iP:∀(i:Nat) P' H' v db d,Aj (del H P) (del H' P')->(∀a,P' a->ED H' a)->ds[i]?=some d->J.iP i H' v db->Aj H' db/\BF K (del db P') v d
abbrev DI (X:Cx)(WX:Str->Hp->Prop)(tg iter:Expr)(f:Ah->M (List D)):Prop:=
 ∃wi,PI X tg iter wi/\∀P0 P σ H R ρ,Am X.K P0 P H σ ρ->(match f ρ with | .ok ds=>∀J H',Aj H H'->Vw X.K J P H' ds->R J H' | .ex x=>∀H',Aj H H'->WX x H' | .bad=>False)->wi σ H R
abbrev forM (gt:D->Ah->M Ah)(body:Ah->M Out):List D->Ah->M Out
 |[],ρ=>.ok (.next ρ)
 |d::r,ρ=>match gt d ρ with
  | .ok ρ1=>(match body ρ1 with
   | .ok (.next ρ2)| .ok (.cont ρ2)=>forM gt body r ρ2
   | .ok (.brk ρ2)=>.ok (.next ρ2)
   |m=>m)
  |_=>.bad
section
variable {c:Bool}{P0:DZ}{P:Addr->Prop}{a b:Expr}{f:Ah->M D}{gt:D->Ah->M Ah}{de:List D->Ah->M Ah}{gb:Ah->M Out}
def AW (i:Nat)(hN:X.N.Nodup)(hi:X.N[i]?=some x)(hx:Loc X.env.scope x)(hf:X.fn x=true\/X.env.scope.names.lookup x=some .local:=by first | exact .inl rfl | exact .inr rfl | assumption):DG X (.Name x pos) (λ d ρ=>.ok (ρ.set i (some (.val d)))):=
 ⟨_,RJ hN hi hx hf,λ P0 P σ H Q ρ v d E hv h=>h _ (E.Vv hv)⟩
def Nz:zD X [] (λ ds ρ=>match ds with | []=>.ok ρ | _=>.bad):=⟨_,Ws,λ P0 P σ H Q ρ v d E hv h=>by
 cases hv with
 |nil=>exact⟨rfl,h σ E⟩
 |cons _ _=>exact h.elim⟩
def BU (h1:DG X e gt)(h2:zD X es de)(hs: ~~~((assignEach (e::es) X.env).map (·.2)=assign e X.env::(assignEach es X.env).map (·.2))):
 zD X (e::es) (λ ds ρ=>match ds with|d::r=>(gt d ρ).bind (de r)|[]=>.bad):=by
 obtain⟨t,a1,a2⟩:=h1;obtain⟨u,b1,b2⟩:=h2;refine⟨_,T5 a1 b1 hs,λ P0 P σ H Q ρ v d E hv h=>?_⟩;cases hv with
 |nil=>exact h.elim
 | @cons x d xs ds hx cy =>
  refine⟨x,xs,rfl,a2 P0 P σ H _ ρ x d E hx ?_⟩;dsimp only at h;cases q:gt d ρ with
  |bad|ex y=>rw[q] at h;exact h
  |ok ρ1=>rw[q] at h;exact λ σ' E'=>b2 P0 P σ' H Q ρ1 xs ds E' cy h
def RZ (hc:X.calm=true)(h:zD X es de)(hn: ~~~((assignEach es X.env).length=n))(a7: ~~~((assignEach es X.env).findIdx? (·.1)=none)):
 DG X (.Tuple es k pos) (λ d ρ=>match d with | .tup ds=>if ds.length=n then de ds ρ else .bad|_=>.bad):=by
 obtain⟨t,a1,a2⟩:=h;refine⟨_,Zs hc a1 hn a7,λ P0 P σ H Q ρ v d E hv h=>?_⟩;cases hv with
 | @tup a xs ds hs hl =>
  dsimp only at h;by_cases hd:ds.length=n
  ·rw[if_pos hd] at h;exact⟨a,xs,rfl,Fq.of (Al hs).2,by rw[hl.length];exact hd,a2 P0 P σ H Q ρ xs ds E hl h⟩
  ·rw[if_neg hd] at h;exact h.elim
 |_=>exact h.elim
def cD (ha:DE X WX true e f)(hg:DG X tg gt)(hs: ~~~(swapsWithSole [tg] e pos.line X.env=pure false))(hw: ~~~(swappedStores [tg] e X.env=pure none))(h1: ~~~((assignEach [tg] X.env).map (·.2)=[assign tg X.env])):
 DS X WX (.Assign [tg] e pos) (λ ρ=>(f ρ).bind λ d=>match gt d ρ with | .ok ρ'=>.ok (.next ρ')|_=>.bad):=by
 obtain⟨ta,a1,a2⟩:=ha;obtain⟨t,b1,b2⟩:=hg;refine⟨_,Zt a1 b1 hs hw h1,λ P0 P σ H Z ρ E h=>?_⟩;dsimp only at h;refine a2 P0 P σ H _ ρ E ?_;refine iF h E λ d h=>?_;intro v H' s hv;refine b2 P0 P σ H' _ ρ v d (E.same s) hv ?_;cases q2:gt d ρ with
 |ok ρ'=>rw[q2] at h;exact λ σ' E'=>h σ' H' P (E.tr s) E'
 |_=>rw[q2] at h;exact h.elim
def Bw (ha:DE X WX true e f):DI X WX tg e (λ ρ=>(f ρ).bind λ d=>match d with | .lst ds=>.ok ds | _=>.bad):=by
 obtain⟨ta,a1,a2⟩:=ha;refine⟨_,iQ a1,λ P0 P σ H R ρ E h=>?_⟩;dsimp only at h;refine a2 P0 P σ H _ ρ E ?_;cases q:f ρ with
 |bad|ex x=>rw[q] at h;exact h
 |ok d =>
  rw[q] at h;cases d with
  |lst ds =>
   intro v H1 s1 hv;cases hv with
   | @lst a xs _ hs hl =>
    refine⟨a,rfl,⟨xs,hs.Bf⟩,h _ H1 s1 ⟨λ i P' H' s hi=>?_,λ i P' H' s hi=>?_,λ i P' H' v db d s ht hd y=>?_⟩⟩
    ·obtain⟨x,hx,_⟩:=hl.get (za7 hi);exact⟨xs,x,(s.seq hs).Bf,hx⟩
    ·exact⟨xs,(s.seq hs).Bf,by rw[hl.length];exact hi⟩
    ·obtain⟨rfl,y⟩:=y;obtain⟨x,hx,bh⟩:=hl.get hd;have e:=y xs (s.seq hs).Bf;rw[hx] at e;cases e;exact⟨Aj.refl _,bh.mono s⟩
  |_=>exact h.elim
abbrev Cz (lo:Int):Nat->List D
 |0=>[]
 |n+1=>.int lo::Cz (lo+1) n
def CB (lo:Int):∀n:Nat,(Cz lo n).length=n:=by
 intro n;induction n generalizing lo with
 |zero=>rfl
 |succ n ih=>rw[Cz,za8,ih]
def Gq {lo}{i:Nat}(h:(Cz lo n)[i]?=some d):d=.int (lo+i)/\i<n:=by
 have hi:i<n:=by
  have:=(zae.mp h).1;rw[CB] at this;exact this
 refine⟨?_,hi⟩;induction n generalizing lo i with
 |zero=>omega
 |succ n ih =>
  cases i with
  |zero=>rw[Cz] at h;simp at h;rw[<-h];simp
  |succ i =>
   rw[Cz,zb5] at h;rw[ih h (by omega)];congr 1;omega
def Vx {K}(lo:Int)(n:Nat):Vw K (yW lo n) P H (Cz lo n):=
 ⟨λ i P' H' _ hi=>by rw[CB] at hi;exact hi,λ i P' H' _ hi=>by rw[CB] at hi;exact hi,λ i P' H' v db d _ _ hd y=>by
  obtain⟨rfl,rfl⟩:=y;obtain⟨rfl,_⟩:=Gq hd;exact⟨Aj.refl _,.int _⟩⟩
abbrev Y0:D->M (List D)
 | .int j=>@ite _ (-(2^62)<=j/\j<2^62) (zda _) (.ok (Cz 0 j.toNat)) .bad
 |_=>.bad
def Tx (h1 : -(2^62)<=j)(h2:j<2^62):Y0 (.int j)=.ok (Cz 0 j.toNat):=if_pos ⟨h1,h2⟩
def Kk {n:Nat}(h:n<=1000):Y0 (.int (n:Int))=.ok (Cz 0 n):=by
 rw[Tx (by omega) (by omega),zbg]
def FK (hg:Gl X "range")(hm:X.mg "range" = none)(ha:DE X WX c a f)(hs: ~~~(starEach [a] X.env=[(false,eval a X.env)])):
 DI X WX tg (.Call (.Name "range" p) [a] [] pos) (λ ρ=>(f ρ).bind Y0):=by
 obtain⟨ta,a1,a2⟩:=ha;refine⟨_,Xz hg hm (Bc a1 Cd hs) hs,λ P0 P σ H R ρ E h=>?_⟩;dsimp only at h;refine a2 P0 P σ H _ ρ E ?_;cases q:f ρ with
 |bad|ex x=>rw[q] at h;exact h
 |ok d =>
  rw[q] at h;cases d with
  |int j =>
   simp only[M.A8] at h;by_cases hj : -(2^62)<=j/\j<2^62
   ·rw[Tx hj.1 hj.2] at h;exact λ v H1 s1 hv=>⟨j,by rw[hv.int_inv],hj.1,hj.2,h _ H1 s1 (Vx 0 _)⟩
   ·have e:Y0 (.int j)=.bad:=if_neg hj;rw[e] at h;exact h.elim
  |_=>exact h.elim
abbrev GZ (k:Nat):List D->List D
 |[]=>[]
 |d::r=>.tup [.int k,d]::GZ (k+1) r
def CM (k:Nat)(ds:List D):(GZ k ds).length=ds.length:=by
 induction ds generalizing k with
 |nil=>rfl
 |cons d r ih=>rw[GZ,za8,za8,ih]
def FL {e:D}(h:(GZ k ds)[i]?=some e):∃d,ds[i]?=some d/\e=.tup [.int ((k+i:Nat):Int),d]:=by
 induction ds generalizing k i with
 |nil=>rw[GZ] at h;simp at h
 |cons d r ih =>
  cases i with
  |zero=>rw[GZ] at h;simp at h;exact⟨d,rfl,by rw[<-h];rfl⟩
  |succ i =>
   rw[GZ,zb5] at h;obtain⟨d',h1,h2⟩:=ih h;refine⟨d',by simpa using h1,?_⟩;rw[h2];congr 3;omega
def Kl {x1}(hg:Gl X "enumerate")(hm:X.mg "enumerate" = none)(ha:DE X WX true a f)(hb:bootBuiltins "enumerate" = some (.type "enumerate"):=by decide +kernel)(hs: ~~~(starEach [a] X.env=[(false,eval a X.env)])):
 DI X WX (.Tuple bH x1 aS) (.Call (.Name "enumerate" p) [a] [] pos) (λ ρ=>(f ρ).bind λ d=>match d with | .lst ds=>.ok (GZ 0 ds)|_=>.bad):=by
 obtain⟨ta,a1,a2⟩:=ha;refine⟨_,jQ hg hm (Bc a1 Cd hs) hb hs,λ P0 P σ H R ρ E h=>?_⟩;dsimp only at h;refine a2 P0 P σ H _ ρ E ?_;cases q:f ρ with
 |bad|ex x=>rw[q] at h;exact h
 |ok d =>
  rw[q] at h;cases d with
  |lst ds =>
   intro v H1 s1 hv;cases hv with
   | @lst a xs _ hs hl =>
    refine⟨a,rfl,⟨xs,hs.Bf⟩,h _ H1 s1 ⟨λ i P' H' s hi=>?_,λ i P' H' s hi=>?_,λ i P' H' v db d s ht hd y=>?_⟩⟩
    ·rw[CM] at hi;obtain⟨x,hx,_⟩:=hl.get (za7 hi);exact⟨xs,x,(s.seq hs).Bf,hx⟩
    ·rw[CM] at hi;exact⟨xs,(s.seq hs).Bf,by rw[hl.length];exact hi⟩
    ·obtain⟨p,x,hn,rfl,y,rfl⟩:=y;obtain⟨d',ce,rfl⟩:=FL hd;obtain⟨x',hx,bh⟩:=hl.get ce;have e:=y xs (s.seq hs).Bf;rw[hx] at e;cases e;refine⟨AK hn _,.tup (Kh hn ht) (.cons ?_ (.cons ((bh.mono s).mono (AK hn _).del) .nil))⟩;rw[Nat.zero_add];exact .int _
  |_=>exact h.elim
def HF {α:Type}{l:List α}(h:i<l.length):l.drop i=l[i]::l.drop (i+1):=zd6 h
def Cg (hp:PassesOwn (model X.prog X.w) X.A X.env X.xe)(hc:X.calm=true)(hi:DI X WX tg iter fi)(hg:DG X tg gt)(hb:SR X WX body gb)(hs:∀x,foldedSetIterable iter X.env x=pure x:=by intro _;rfl):
 DS X WX (.For tg iter body [] pos) (λ ρ=>(fi ρ).bind λ ds=>forM gt gb ds ρ):=by
 obtain⟨wi,i1,i2⟩:=hi;obtain⟨t,a1,a2⟩:=hg;obtain⟨tb,b1,b2⟩:=hb;refine⟨_,pY hp hc i1 a1 b1 hs,λ P0 P σ H Z ρ E h=>?_⟩;dsimp only at h;refine i2 P0 P σ H _ ρ E ?_;cases q:fi ρ with
 |bad=>rw[q] at h;exact h
 |ex x=>rw[q] at h;exact λ H' s=>h H' P (E.tr s)
 |ok ds =>
  rw[q] at h;simp only[M.A8] at h;intro J H1 s1 ok;refine⟨λ i m σ' H'=>m=ds.length-i/\i<=ds.length/\∃P' ρ',Tr P0 P H1 P' H'/\Am X.K P0 P' H' σ' ρ'/\gS X.K WX P0 P' H' Z (forM gt gb (ds.drop i) ρ'),
   ⟨ds.length,by simp,zba _,P,ρ,Tr.refl,E.same s1,by rw[zd5];exact h.tr (E.tr s1)⟩,?_⟩
  rintro i m σ' H' ⟨rfl,hi,P',ρ',t',E',g'⟩;by_cases ah:i<ds.length
  ·refine .inr ⟨ok.go i P' H' t'.1 ah,λ σ2 H2=>i+1<=ds.length/\∃P2 ρ2,Tr P0 P H1 P2 H2/\Am X.K P0 P2 H2 σ2 ρ2/\gS X.K WX P0 P2 H2 Z (forM gt gb (ds.drop (i+1)) ρ2),λ σ2 H2 hq=>⟨ds.length-(i+1),by omega,rfl,hq.1,hq.2⟩,λ v H2 y=>?_⟩;obtain⟨s2,hv⟩:=ok.iP i P' H' v H2 ds[i] t'.1 E'.BX (za7 ah) y;rw[HF ah,forM] at g';have E2:=E'.same s2;refine a2 P0 P' σ' H2 _ ρ' v ds[i] E2 hv ?_;cases q1:gt ds[i] ρ' with
   |bad=>rw[q1] at g';exact g'
   |ex x=>rw[q1] at g';exact g'.elim
   |ok ρ1 =>
    rw[q1] at g';dsimp only at g';intro σ3 E3;refine b2 P0 P' σ3 H2 _ ρ1 E3 ?_;have tt:Tr P0 P H1 P' H2:=t'.trans (E'.tr s2);cases q2:gb ρ1 with
    |bad=>rw[q2] at g';exact g'
    |ex x=>rw[q2] at g';exact gS.tr (m:=.ex x) g' (E'.tr s2)
    |ok o =>
     rw[q2] at g';cases o with
     |ret d=>exact gS.tr (m:=.ok (.ret d)) g' (E'.tr s2)
     |Cq d=>exact gS.tr (m:=.ok (.Cq d)) g' (E'.tr s2)
     |Fv d ρ2=>exact gS.tr (m:=.ok (.Fv d ρ2)) g' (E'.tr s2)
     |next ρ2|cont ρ2=>exact λ σ4 H4 P4 t4 E4=>⟨ah,P4,ρ2,tt.trans t4,E4,gS.tr g' ((E'.tr s2).trans t4)⟩
     |brk ρ2=>exact λ σ4 H4 P4 t4 E4=>g' σ4 H4 P4 ((E'.tr s2).trans t4) E4
  ·have e:i=ds.length:=by omega
   subst e;refine .inl ⟨ok.stop _ P' H' t'.1 (zaf _),?_⟩;rw[zco,forM] at g';exact g' σ' H' P' Tr.refl E'
end
abbrev Vy (K:za1)(n:Nat)(F:List D->M D):Sp:=λ vs H Q _=>vs.length=n/\∃P ds,(∀a,P a->ED H a)/\Ak K (del H P) vs ds/\gV K (λ _ _=>False) P H Q (F ds)
abbrev CN (N:List Str)(ds:List D):Ah:=ds.map (λ d=>some (.val d))++zak (N.length-ds.length) none
abbrev clD:Cl->M D
 | .val d=>.ok d
 | .own ds=>.ok (.lst ds)
 | .ow (.rows Hq)=>.ok (.lst (Hq.map D.lst))
 | .ow (.Nv _ _)=>.bad
 | .ow (.tree _ t)=>.ok (er t)
abbrev fin (m:M Out):M D:=match m with
 | .ok (.ret d)=>.ok d
 | .ok (.Cq c)=>clD c
 | .ok (.next _)=>.ok .Ax
 |_=>.bad
def LF {K}(ht:∀a,P a->ED H a)(h:Ak K (del H P) vs ds):Am K ⟨P,λ _=>0⟩ P H (start N vs) (CN N ds):=by
 have hl:=h.length;have key:∀(i:Nat) (c:Cl),(CN N ds)[i]?=some (some c)->∃d,ds[i]?=some d/\c=.val d:=λ i c e=>by
  unfold CN at e;by_cases hi:i<ds.length
  ·rw[zc6 (by simpa using hi),zaw] at e;cases q:ds[i]? with
   |none=>rw[q] at e;cases e
   |some d=>rw[q] at e;cases e;exact⟨d,rfl,rfl⟩
  ·rw[zd2 (by simpa using hi),zcm] at e;split at e<;>cases e
 refine⟨λ _ h=>h,ht,λ i d e=>?_,λ i es e io=>?_,λ i j c c' v v' fp ag e _ _ _ ho _ _=>?_,?_,λ i c n e hp=>?_⟩
 rotate_left 4
 ·obtain⟨d',q,z⟩:=key i _ e;cases z;cases hp
 ·obtain⟨d',q,z⟩:=key i _ e;cases z;obtain⟨v,hv,hd⟩:=h.get q;refine⟨v,?_,hd⟩;unfold start;rw[zc6 (by rw[za2];exact (zae.mp hv).1),zaw,hv];rfl
 ·obtain⟨d',q,z⟩:=key i _ e;cases z;cases io
 ·obtain⟨d',q,z⟩:=key i _ e;cases z;exact ho.elim
 ·unfold start CN;simp[hl]
def Cv (t:Tr P P H P' H'):Aj H H':=λ b o e=>by
 by_cases hb:P b
 ·rw[t.2 b hb];exact e
 ·exact (Al (t.1 b o (by rw[AB hb];exact e))).2
def CW.rL {K:za1}{H:Hp}{P P0:Addr->Prop}(hs:∀a,P0 a->P a):∀ {ps:List Addr}{Hq:List (List D)},(∀a∈ps,¬ P0 a)->CW K H P ps Hq->Ak K (del H P0) (ps.map V.ref) (Hq.map D.lst):=by
 intro _ _ k x_;cases x_ with
 |nil=>exact .nil
 |cons h r t=>exact .cons (.lst (.of (show del H P0 _=_ by rw[AB (k _ za3)];exact h)) (r.mono (CV hs))) (CW.rL hs (λ a ha=>k a (za4 _ ha)) t)
def jW {K}(h:gV K WX P H Q (clD c))(t':Tr P P H P2 H')(hs:∀a,P a->P2 a)(ht:∀a,P2 a->ED H' a)(ho:CU K H' P2 c v fp)(hp:∀a∈fp,P2 a/\¬ P a):Q v H':=by
 cases c with
 |val d=>exact ho.elim
 |own ds =>
  obtain⟨p,xs,rfl,rfl,h1,h2⟩:=ho;exact h _ H' (Cv t') (.lst (.of (show del H' P p=_ by rw[AB (hp p za3).2];exact h1)) (h2.mono (CV hs)))
 |ow o =>
  cases o with
  |rows Hq =>
   obtain⟨p,ps,rfl,rfl,h1,h2⟩:=ho;exact h _ H' (Cv t') (.lst (.of (show del H' P p=_ by rw[AB (hp p za3).2];exact h1)) (h2.rL hs λ a ha=>(hp a (za4 _ ha)).2))
  |Nv p ds=>exact h.elim
  |tree p t=>exact h _ H' (Cv t') (BS.has hs (λ a ha=>(hp a ha).2) ho)
section
variable {P:Program}{K:za1}
def wQ {st}(F:Ze K x qual st f fd)(S:Ac N ps (A3 st))(g:Ah->M Out)(hb:∀(AX:Value) (A:Around) (outer:List Env) (s:Shared) (H:Hp) (E:XK),Bm k (A.deeper (envOfC qual (A3 st) s.heap.objs.size f AX))->SR (T7 jH P w K mg base N qual (A3 st) f AX A outer s H E).vB (λ _ _=>False) (Az st) g):
 Cw P w K mg base jH (k+1) f fd ps (Vy K ps.length λ ds=>fin (g (CN N ds))):=by
 refine F.ok S (λ vs H Q E h=>h.1) λ AX A outer s H vs Q E hr h=>?_;obtain⟨hl,P',ds,ht,hv,hq⟩:=h;obtain⟨t,h1,h2⟩:=hb AX A outer s H E hr;refine⟨t,h1,h2 ⟨P',λ _=>0⟩ P' _ H _ _ (LF ht hv) ?_⟩;dsimp only at hq;revert hq;cases g (CN N ds) with
 |bad|ex x=>exact λ h=>h.elim
 |ok o =>
  cases o with
  |ret d=>exact λ h v H' P2 t hv=>h v H' (Cv t) hv
  |next ρ=>exact λ h σ' H' P2 t E=>h .Ax H' (Cv t) .Ax
  |brk ρ|cont ρ=>exact λ h=>h.elim
  |Cq c=>exact λ h v fp H' P2 t hs ht ho hp nd=>jW h t hs ht ho hp
  |Fv d ρ=>exact λ h=>h.elim
end
section
variable {c:Bool}{P0:DZ}{P:Addr->Prop}{a b:Expr}{f:Ah->M D}{gt:D->Ah->M Ah}{es:List Expr}{fs:Ah->M (List D)}
abbrev Bb (μ:List (Option Nat))(ρ:Ah):Ah:=μ.map λ o=>o.bind λ i=>match ρ[i]? with | some (some (.val d))=>some (.val d) | _=>none
def J2 {j:Nat}(h:(Bb μ ρ)[j]?=some (some cl)):∃i d,μ[j]?=some (some i)/\ρ[i]?=some (some (.val d))/\cl=.val d:=by
 unfold Bb at h;rw[zaw] at h;cases q:μ[j]? with
 |none=>rw[q] at h;cases h
 |some o =>
  rw[q] at h;cases o with
  |none=>cases h
  |some i =>
   simp only[zbw,Option.bind_some,Option.some.injEq] at h;split at h
   ·rename_i d e;cases h;exact⟨i,d,rfl,e,rfl⟩
   ·cases h
def Am.block {K}(E:Am K P0 P H σ ρ)(μ:List (Option Nat)):Am K P0 P H (Fu μ σ) (Bb μ ρ):=by
 refine⟨E.sub,E.BX,λ j d h=>?_,λ j ds h io=>?_,λ j k c c' v v' fp ag h _ _ _ ho _ _=>?_,by unfold Fu Bb;simp,λ j c n h hp=>by obtain⟨i,d',h1,h2,h3⟩:=J2 h;subst h3;cases hp⟩
 ·obtain⟨i,d',h1,h2,h3⟩:=J2 h;cases h3;obtain⟨v,h4,h5⟩:=E.val i d h2;refine⟨v,?_,h5⟩;unfold Fu;rw[zaw,h1];simp[h4]
 ·obtain⟨i,d',h1,h2,h3⟩:=J2 h;cases h3;cases io
 ·obtain⟨i,d',h1,h2,h3⟩:=J2 h;cases h3;exact ho.elim
abbrev B6 (gt:D->Ah->M Ah)(ft:Ah->M Bool)(fe:Ah->M D):List D->Ah->M (List D)
 |[],_=>.ok []
 |d::r,ρ=>match gt d ρ with
  | .ok ρ1=>(match ft ρ1 with
   | .ok k=>if k=true then (match fe ρ1 with
    | .ok y=>(match B6 gt ft fe r ρ with | .ok ys=>.ok (y::ys)|_=>.bad)
    |_=>.bad) else B6 gt ft fe r ρ
   |_=>.bad)
  |_=>.bad
abbrev uK (X:Cx)(scope:Scope)(NB:List Str)(μ:List (Option Nat))(tg:Expr)(gt:D->Ah->M Ah):Prop:=
 ∃g:TG,(∀s H C ex,PG (blockOf X s H scope C NB ex) tg g)/\Lx μ g/\∀P0 P σ H Q ρ v d,Am X.K P0 P H σ ρ->BF X.K (del H P) v d->gG X.K P0 P H Q (gt d ρ)->g v σ H Q
def Cr (i:Nat)(hN:NB.Nodup)(hi:NB[i]?=some x)(hx:(relabel scope X.env).names.lookup x=some .local)(hm:μ[i]?=some none):uK X scope NB μ (.Name x pos) (λ d ρ=>.ok (ρ.set i (some (.val d)))):=
 ⟨QF i,λ s H C ex=>RJ (X:=blockOf X s H scope C NB ex) hN hi (.inl hx) (.inr hx),jP hm,λ P0 P σ H Q ρ v d E hv h=>h _ (E.Vv hv)⟩
abbrev uL (X:Cx)(cs:List Expr)(f:Ah->M Bool):Prop:=
 ∃t,uI X cs t/\∀P0 P σ H Q ρ,Am X.K P0 P H σ ρ->gT (λ _ _=>False) H Q (f ρ)->t σ H Q
def El:uL X [] (λ _=>.ok true):=⟨_,jN,λ P0 P σ H Q ρ E h=>h H (Aj.refl H)⟩
def J3 (h:DT X (λ _ _=>False) a ft):uL X [a] ft:=let ⟨t,h1,h2⟩:=h;⟨_,jO h1,h2⟩
abbrev QT (m:M (List D)):M D:=match m with | .ok ys=>.ok (.lst ys) | _=>.bad
def rM (i2:∀P0 P σ H R ρ,Am X.K P0 P H σ ρ->(match fi ρ with | .ok ds=>∀J H',Aj H H'->Vw X.K J P H' ds->R J H' | .ex x=>∀H',Aj H H'->WX x H' | .bad=>False)->wi σ H R)(g2:∀P0 P σ H Q ρ v d,Am X.K P0 P H σ ρ->BF X.K (del H P) v d->gG X.K P0 P H Q (gt d ρ)->gg v σ H Q)(t2:∀s H' C ex P0 P σ H Q ρ,Am X.K P0 P H σ ρ->gT (λ _ _=>False) H Q (ft ρ)->tc s H' C ex σ H Q)(e2:∀s H' C ex P0 P σ H Q ρ,Am X.K P0 P H σ ρ->gV X.K (λ _ _=>False) (Lv c P0 P) H Q (fe ρ)->te s H' C ex σ H Q)(E:Am X.K P0 P H σ ρ)(h:gV X.K WX (Lv c P0 P) H Q ((fi ρ).bind λ ds=>if ds.length<=1000 then QT (B6 gt ft fe ds (Bb μ ρ)) else .bad)):Tq wi μ gg tc te σ H Q:=by
 refine i2 P0 P σ H _ ρ E ?_;cases q:fi ρ with
 |bad|ex x=>rw[q] at h;exact h
 |ok ds =>
  rw[q] at h;simp only[M.A8] at h;by_cases hd:¬ ds.length<=1000
  ·rw[if_neg hd] at h;exact h.elim
  have hd:ds.length<=1000:=by omega
  rw[if_pos hd] at h;intro J H1 s1 ok s C ex;cases qc:B6 gt ft fe ds (Bb μ ρ) with
  |bad|ex x=>rw[qc] at h;exact h.elim
  |ok total =>
   rw[qc] at h;unfold QT at h;dsimp only at h;have E1:=E.same s1;refine⟨λ i m ys H2=>m=ds.length-i/\i<=ds.length/\ys.length<=i/\Aj H1 H2/\∃es rest,Ak X.K (del H2 (Lv c P0 P)) ys es/\B6 gt ft fe (ds.drop i) (Bb μ ρ)=.ok rest/\es++rest=total,
    ⟨ds.length,by simp,zba _,zaf _,Aj.refl _,[],total,.nil,by rw[zd5];exact qc,rfl⟩,?_⟩
   rintro i m ys H2 ⟨rfl,hi,hy,s2,es,rest,b9,ae,a8⟩;by_cases ah:i<ds.length
   ·refine .inr ⟨ok.go i P H2 s2.del ah,Nat.lt_of_le_of_lt hy (AA (by omega)),λ aP H'=>i+1<=ds.length/\aP.length<=i+1/\Aj H1 H'/\∃es rest,Ak X.K (del H' (Lv c P0 P)) aP es/\B6 gt ft fe (ds.drop (i+1)) (Bb μ ρ)=.ok rest/\es++rest=total,λ aP H' hq=>⟨ds.length-(i+1),by omega,rfl,hq.1,hq.2.1,hq.2.2.1,hq.2.2.2⟩,λ v H3 y=>?_⟩;have E2:=E1.same s2;obtain⟨s3,hv⟩:=ok.iP i P H2 v H3 ds[i] s2.del E2.BX (za7 ah) y;rw[HF ah,B6] at ae;have E3:=(E2.same s3).block μ;refine g2 P0 P _ H3 _ (Bb μ ρ) v ds[i] E3 hv ?_;cases q1:gt ds[i] (Bb μ ρ) with
    |bad|ex x=>rw[q1] at ae;cases ae
    |ok ρ1 =>
     rw[q1] at ae;dsimp only at ae;intro σ4 E4;refine t2 s H1 C ex P0 P σ4 H3 _ ρ1 E4 ?_;cases q2:ft ρ1 with
     |bad|ex x=>rw[q2] at ae;cases ae
     |ok k =>
      rw[q2] at ae;dsimp only at ae;intro H5 s5;cases k with
      |false =>
       simp only[zaz,if_false] at ae ⊢;exact⟨ah,by omega,(s2.trans s3).trans s5,es,rest,(b9.mono s3.del).mono s5.del,ae,a8⟩
      |true =>
       simp only[if_true] at ae ⊢;refine e2 s H1 C ex P0 P σ4 H5 _ ρ1 (E4.same s5) ?_;cases q3:fe ρ1 with
       |bad|ex x=>rw[q3] at ae;cases ae
       |ok y' =>
        rw[q3] at ae;dsimp only at ae;cases q4:B6 gt ft fe (ds.drop (i+1)) (Bb μ ρ) with
        |bad|ex x=>rw[q4] at ae;cases ae
        |ok jl =>
         rw[q4] at ae;cases ae;intro w H6 s6 hw;refine⟨ah,by rw[zah,zbh];omega,((s2.trans s3).trans s5).trans s6,es++[y'],jl,(((b9.mono s3.del).mono s5.del).mono s6.del).snoc hw,rfl,?_⟩;rw[zbk];exact a8
   ·have e:i=ds.length:=by omega
    subst e;rw[zco,B6] at ae;cases ae;rw[zbi] at a8;subst a8;refine .inl ⟨ok.stop _ P H2 s2.del (zaf _),λ D0 hn=>h _ _ ((s1.trans s2).trans (AK hn _)) (.lst (.of (Kh hn λ a q=>(E1.same s2).wF c a q)) (b9.mono (AK hn _).del))⟩
def S0 (i:Nat)(μ:List (Option Nat))(hN:X.N.Nodup)(jf:X.N[i]?=some x)(hx:Loc X.env.scope x)(hc:X.calm=true)(hi:DI X WX tg iter fi)(av:Ho scope X.env.scope=true)(bc:Ql X.N NB scope μ=true)(hg:uK X scope NB μ tg gt)(ht:∀s H C ex,uL (blockOf X s H scope C NB ex) ifs ft)(he:∀s H C ex,DE (blockOf X s H scope C NB ex) (λ _ _=>False) true elt fe)(bo: ~~~(swapsWith (.ListComp elt [⟨tg,iter,ifs,0⟩] scope pos) (some (.Name x px)) ax.line X.env=pure true))(hs:∀x,foldedSetIterable iter X.env x=pure x:=by intro _;rfl)(hf:X.fn x=true\/X.env.scope.names.lookup x=some .local:=by first|exact .inl rfl|exact .inr rfl|assumption):
 DS X WX (.Assign [.Name x px] (.ListComp elt [⟨tg,iter,ifs,0⟩] scope pos) ax) (λ ρ=>((fi ρ).bind λ ds=>if ds.length<=1000 then QT (B6 gt ft fe ds (Bb μ ρ)) else .bad).bind λ d=>.ok (.next (ρ.set i (some (.val d))))):=by
 obtain⟨wi,i1,i2⟩:=hi;obtain⟨gg,g1,gk,g2⟩:=hg;refine⟨_,WD hN jf hx hc i1 av bc gk (λ s H C ex=>⟨g1 s H C ex,(za0 (ht s H C ex)).1,(za0 (he s H C ex)).1⟩) bo hs hf,λ P0 P σ H Z ρ E h=>?_⟩;refine rM (c:=true) i2 g2 (λ s H' C ex P0 P σ H Q ρ E h=>(za0 (ht s H' C ex)).2 P0 P σ H Q ρ E h) (λ s H' C ex P0 P σ H Q ρ E h=>(za0 (he s H' C ex)).2 P0 P σ H Q ρ E h) E ?_;dsimp only at h;revert h;cases ((fi ρ).bind λ ds=>if ds.length<=1000 then QT (B6 gt ft fe ds (Bb μ ρ)) else .bad) with
 |bad=>exact λ h=>h
 |ex y=>exact λ h H' s=>h H' P (E.tr s)
 |ok d=>exact λ h v H' s hv=>h _ H' P (E.tr s) ((E.same s).Vv hv)
end
section
variable {c:Bool}{P0:DZ}{P:Addr->Prop}{a b k:Expr}{f:Ah->M D}{te tk:TE}{p2:Pos}
abbrev abM (x y:D):M D:=match x,y with | .lst ds,.int i=>if i = -1 then .ok (.lst ds.reverse) else .bad | _,_=>.bad
abbrev DF:List D->Option (List Int)
 |[]=>some []
 | .int i::r=>(DF r).map (i::·)
 |_=>none
abbrev jX:D->Option (List Int)
 | .tup ds=>DF ds
 |_=>none
abbrev Mn:List D->Option (List (D×List Int))
 |[]=>some []
 |d::r=>(jX d).bind λ k=>(Mn r).map ((d,k)::·)
abbrev WL (l d:D):M D:=match l with
 | .lst ds=>(match Mn ds with|some ks=>.ok (match C2 ks with|none=>d|some b=>b.1)|none=>.bad)
 |_=>.bad
def LG {K:za1}{H:Hp}:∀ {xs:List V}{ds:List D}{ns:List Int},Ak K H xs ds->DF ds=some ns->xs=ns.map V.int
 |_,_,_,.nil,e=>by simp only[DF] at e;cases e;rfl
 |_,_,_,.cons (d:=d) h t,e=>by
  cases d with
  |int i =>
   simp only[DF] at e;cases q:DF _ with
   |none=>rw[q] at e;cases e
   |some ns =>
    rw[q] at e;cases e;rw[h.int_inv,LG t q];rfl
  |_=>simp[DF] at e
noncomputable abbrev Alike (K:za1)(H:Hp):List (Addr×List Int)->List (D×List Int)->Prop:=Paired λ p q=>p.2=q.2/\BF K H (.ref p.1) q.1
def O6 {K:za1}{H:Hp}:∀ {xs:List V}{ds:List D}{ks:List (D×List Int)},Ak K H xs ds->Mn ds=some ks->∃bs:List (Addr×List Int),xs=bs.map (λ b=>V.ref b.1)/\(∀b∈bs,Fq K H b.1 (b.2.map V.int))/\Alike K H bs ks
 |_,_,_,.nil,e=>by simp only[Mn] at e;cases e;exact⟨[],rfl,by simp,.nil⟩
 |_,_,_,.cons (d:=d) h t,e=>by
  simp only[Mn] at e;cases q:jX d with
  |none=>rw[q] at e;cases e
  |some k =>
   rw[q] at e;simp only[Option.bind_some] at e;cases q2:Mn _ with
   |none=>rw[q2] at e;cases e
   |some ks =>
    rw[q2] at e;cases e;obtain⟨bs,h1,h2,h3⟩:=O6 t q2;cases d with
    |tup es =>
     have h':=h;cases h with
     | @tup a xs _ hs hl =>
      simp only[jX] at q;have e1:=LG hl q;subst e1;refine⟨(a,k)::bs,by rw[h1];rfl,λ b hb=>?_,.cons ⟨rfl,h'⟩ h3⟩;rcases zab.mp hb with z|z
      ·subst z;exact Fq.of hs
      ·exact h2 b z
    |_=>simp[jX] at q
def Vz {K}(h:Alike K H bs ks):(C2 bs=none/\C2 ks=none)\/∃b k,C2 bs=some b/\C2 ks=some k/\b.2=k.2/\BF K H (.ref b.1) k.1:=by
 unfold C2
 suffices z:∀(o:Option (Addr×List Int)) (o':Option (D×List Int)),((o=none/\o'=none)\/∃b k,o=some b/\o'=some k/\b.2=k.2/\BF K H (.ref b.1) k.1)->
  ((bs.foldl FI o=none/\ks.foldl FI o'=none) \/
   ∃b k,bs.foldl FI o=some b/\ks.foldl FI o'=some k/\b.2=k.2/\BF K H (.ref b.1) k.1) from z none none (.inl ⟨rfl,rfl⟩)
 induction h with
 |nil=>intro o o' h;exact h
 | @cons b k bs ks hh t ih =>
  intro o o' h;rw[zat,zat];refine ih _ _ ?_;rcases h with ⟨rfl,rfl⟩|⟨b',k',rfl,rfl,e1,e2⟩
  ·exact .inr ⟨b,k,rfl,rfl,hh⟩
  ·unfold FI;dsimp only;rw[hh.1,e1];by_cases hl:HT.lexLt k.2 k'.2=true
   ·rw[if_pos hl,if_pos hl];exact .inr ⟨b,k,rfl,rfl,hh⟩
   ·rw[if_neg hl,if_neg hl];exact .inr ⟨b',k',rfl,rfl,e1,e2⟩
def jY (hc:X.calm=true)(hu:X.A.units+1<cLine)(hg:Gl X "min")(hm:X.mg "min" = none)(ha:DE X WX c e f)(hb:DE X WX c e2 g)(a7: ~~~(starEach [e] X.env=[(false,eval e X.env)]))(a5: ~~~((backToKw pos (keywordEach [⟨some "default",e2,kp⟩] X.env)).all (·.1.isSome)=true))(fj: ~~~((backToKw pos (keywordEach [⟨some "default",e2,kp⟩] X.env)).filterMap (·.1)=([("default" : Str)]:List Str)))(pe: ~~~((backToKw pos (keywordEach [⟨some "default",e2,kp⟩] X.env)).any (·.1.isNone)=false))(bN: ~~~(backTo pos (starEach [e] X.env)=(false,eval e X.env)::backTo pos (starEach [] X.env)))(hpl: ~~~((backTo pos (starEach [e] X.env)).any (·.1)=false)):
 DE X WX c (.Call (.Name "min" p) [e] [⟨some "default",e2,kp⟩] pos) (λ ρ=>(f ρ).bind λ x=>(g ρ).bind λ y=>WL x y):=by
 obtain⟨ta,a1,a2⟩:=ha;obtain⟨tb,b1,b2⟩:=hb;refine⟨_,jR hc hu hg hm a1 b1 a7 a5 fj pe bN hpl,λ P0 P σ H Q ρ E h=>Tv (r:=λ x d H2 Q=>∃(a:Addr) (bs:List (Addr×List Int)),x=.ref a/\DB X.K H2 a (bs.map λ b=>V.ref b.1)/\(∀b∈bs,Fq X.K H2 b.1 (b.2.map V.int))/\Q (match C2 bs with|none=>d|some b=>.ref b.1) H2) a2 b2 ?_ E h⟩;intro P H x y v w Q ht hx hy h;unfold WL at h;split at h
 ·rename_i ds;split at h
  ·rename_i ks e1;cases hx with
   | @lst a xs _ hs hl =>
    obtain⟨bs,rfl,h2,h3⟩:=O6 hl e1;refine⟨a,bs,rfl,hs.Bf,λ b hb=>(h2 b hb).Bf,?_⟩;rcases Vz h3 with ⟨q1,q2⟩|⟨b,k,q1,q2,_,q3⟩
    ·rw[q1];rw[q2] at h;exact h _ H (Aj.refl H) hy
    ·rw[q1];rw[q2] at h;exact h _ H (Aj.refl H) q3
  ·exact h.elim
 ·exact h.elim
end
def huR (hr:Bm k A)(n:Nat)(hn:n<=64):A.units+n<cLine:=by have:=hr.units;omega
structure AJ (K:za1)(mg:Str->Option Value)(x:Str)(st:Stmt)(ps:List Str):Prop where
 ex:∃f fd,Ze K x x st f fd/\mg x=some (.ref f)/\Binds K fd ps []
def cE (ds:List D)(n:Nat):nT none (some (n:Int)) (.lst ds)=.ok (.lst (ds.take n)):=by
 unfold nT;dsimp only;rw[HT.Tc,HT.Nt,zd5,Nat.sub_zero];congr 2;rw[Nat.min_def];split
 ·rfl
 ·rw[zcf (zaf _),zcf (by omega)]
abbrev Q7 (P:Program)(w:World)(base:Heap):Wt:=λ _ _ _ _ _ _=>False
noncomputable abbrev iG (P:Program)(w:World)(K:za1)(mg:Str->Option Value)(base:Heap)(N:List Str)(qual:Str)(scope:Scope)(f:Addr)(cd:Value)(A:Around)(outer:List Env)(s:Shared)(H:Hp)(E:XK):Cx:=
 T7 (Q7 P w base) P w K mg base N qual scope f cd A outer s H E
structure FN (X:Cx)(E:XK):Prop where
 call:Fs (Q7 X.prog X.w X.base) X E
 own:PassesOwn (model X.prog X.w) X.A X.env X.xe
def A7 {K}{E}:
 FN (iG P w K mg base N qual scope f cd A outer s H E) E:=⟨λ _ _ _ _ _ _ _ h=>h.elim,PassesOwn.leaving⟩
def BI (h:X.xe=λ _ _=>False):FN X E0:=⟨λ _ _ _ _ _ _ _ h=>h.elim,by rw[h];exact PassesOwn.never⟩
def FN.toXCall {E}(h:FN X E):FN X E:=h
abbrev CC (K:za1)(E:XK):Str->Hp->Prop:=λ x H=>∃c,zan K mainGlobals x=some (some (.ref c))/\E (.ref c) none H
section
variable {c:Bool}{a b:Expr}{f:Ah->M D}{p:Pos}
abbrev nU (K:za1):R2:=λ x y H Q=>∃l b xs zs,x=.ref l/\y=.ref b/\DB K H l xs/\DB K H b zs/\xs.length+zs.length<=sizeLine/\∀p,H p=none->Q (.ref p) (upd H p (.lst (xs++zs)))
def jZ:Gf X (binaryOp .Add) (nU X.K):=by
 intro pins s σ H x y v u Q I rx ry h;obtain⟨l,b,xs,zs,rfl,rfl,h1,h2,hz,q⟩:=h;cases rx;cases ry;obtain⟨aa,r,⟨⟨c1,d1,t1,wu⟩,n,e1,q1,q2,q3⟩,cf⟩:=I.list h1;obtain⟨aJ,r2,⟨⟨c2,d2,t2,i7⟩,n2,e2,q4,q5,q6⟩,hz2⟩:=I.list h2;dsimp only at q1 q2 q3 q4 q5 q6;subst q1 q2 q3 q4 q5 q6;have l1:=r.length;have l2:=r2.length;refine concat_meets ⟨_,e1,rfl⟩ ⟨_,e2,rfl⟩ noFill_list_add seq_list_add PySem.F.slot_list_add PySem.F.entry_list_add (PySem.F.args_list_add_2 _ _) (list_addW l b aa.toArray aJ.toArray n n2 none none wu i7 (by rw[zac,zac];omega)) ⟨e1,e2,?_⟩;rw[show aa.toArray++aJ.toArray=(aa++aJ).toArray by simp];exact⟨.ref _,_,I.vV (t':=s.toks) (r.append r2) (by rw[zah];omega),rfl,q _ I.fresh⟩
abbrev abn (x y:D):M D:=match x,y with
 | .int i,.int j=>.ok (.int (i+j))
 | .lst ds,.lst es=>if ds.length+es.length<=1000 then .ok (.lst (ds++es)) else .bad
 |_,_=>.bad
def Ak.wR {K:za1}{H:Hp}:∀ {xs ys:List V}{ds es:List D},Ak K H xs ds->Ak K H ys es->Ak K H (xs++ys) (ds++es):=by
 intro _ _ _ _ x_ h;cases x_ with
 |nil=>exact h
 |cons a t=>exact .cons a (t.wR h)
abbrev zE (neg:Bool)(x y:D):M D:=match x,y with
 | .int i,.lst ds=>(match DF ds with|some ns=>.ok (.bl (if neg then !ns.contains i else ns.contains i))|none=>.bad)
 |_,_=>.bad
def cF (i:Int)(ns:List Int):yY (.int i) (ns.map V.int)=ns.contains i:=by
 unfold yY;induction ns with
 |nil=>rfl
 |cons n r ih =>
  rw[za6,zd1,ih,List.contains_cons];congr 1;show (n==i)=(i==n);rw[zcw,beq_iff_eq,beq_iff_eq];exact eq_comm
def Y1 (ns:List Int):(ns.map V.int).all Kb=true:=by
 induction ns with
 |nil=>rfl
 |cons n r ih=>rw[za6,List.all_cons,ih];rfl
def HG:WJ X.K WX (yZ X.K neg) (zE neg):=by
 intro P H x y v w Q ht hx hy h;unfold zE at h;split at h
 ·rename_i i ds;split at h
  ·rename_i ns hn;cases hx;cases hy with
   |lst h1 h2 =>
    have e:=LG h2 hn;subst e;refine⟨_,_,rfl,.inl h1.Bf,rfl,Y1 ns,?_⟩;rw[cF];exact h _ H (Aj.refl H) (.bl _)
  ·exact h.elim
 ·exact h.elim
end
def LH {st}:DS X WX st (λ _=>.bad):=⟨λ _ _ _=>False,λ _ _ _ _ _ _ h=>h.elim,λ _ _ _ _ _ _ _ h=>h.elim⟩
abbrev Tz (i j:Int):Prop:=(i.natAbs<2^1000/\j.natAbs<2^1000)\/Zy i j
instance (i j:Int):Decidable (Tz i j):=by unfold Tz;infer_instance
def QU (h:i.natAbs<2^1000):zbt i<=2^20:=by
 unfold zbt;split
 ·exact zba _
 ·rename_i z;have h0:i.natAbs≠0:=λ q=>z (by rw[Int.natAbs_eq_zero.mp q];rfl);have:=(Nat.log2_lt h0).mpr h;have h3:(1000:Nat)<=2^20:=by decide
  exact zc0 this h3
def Tz.ok (h:Tz i j):IntMulOk i j:=by
 rcases h with ⟨h1,h2⟩|h
 ·exact IntMulOk.of_bits (QU h1) (QU h2)
 ·exact h.ok
def O7 (n:Nat):Cz 0 n=(zb8 n).map λ i:Nat=>D.int (i:Int):=by
 apply zd0;intro i;rw[zaw];by_cases h:i<n
 ·have hi:i<(Cz 0 n).length:=by rw[CB];exact h
  have e:=za7 hi;obtain⟨h1,_⟩:=Gq e;rw[e,h1,List.getElem?_range h,Int.zero_add];rfl
 ·rw[zbn (by rw[CB];omega),zbn (by simp;omega)];rfl
def LI (ns:List Int):DF (ns.map D.int)=some ns:=by
 induction ns with
 |nil=>rfl
 |cons n r ih=>rw[za6,DF,ih];rfl
def cG (ds:List D)(n:Nat):nT (some (n:Int)) none (.lst ds)=.ok (.lst (ds.drop n)):=by
 unfold nT;dsimp only;rw[HT.Tc,HT.Nt];congr 2;by_cases h:n<=ds.length
 ·rw[Nat.min_eq_left h,zcf (by rw[zci];exact zaf _)]
 ·rw[Nat.min_eq_right (by omega),List.drop_of_length_le (zaf _),List.drop_of_length_le (by omega),List.take_nil]
abbrev Pl (n:Nat)(d:D):Prop:=SO d<=n/\Cp d=true
def S1:∀ {ds:List D},(∀d∈ds,SO d<=n)->RU ds<=n
 |[],_=>by rw[RU];exact zba _
 |d::r,h=>by
  rw[RU];exact Nat.max_le.mpr ⟨h d za3,S1 λ d hd=>h d (za4 _ hd)⟩
def S2:∀ {ds:List D},(∀d∈ds,Cp d=true)->Ly ds=true
 |[],_=>by rw[Ly]
 |d::r,h=>by
  rw[Ly,h d za3,S2 λ d hd=>h d (za4 _ hd)];rfl
def Ci (i:Int):Pl n (.int i):=⟨by rw[SO];exact zba _;all_goals simp,by rw[Cp];all_goals simp⟩
def cH:Pl n .Ax:=⟨by rw[SO];exact zba _;all_goals simp,by rw[Cp];all_goals simp⟩
def S4 (h:∀d∈ds,Pl n d):Pl (n+1) (.tup ds):=
 ⟨by rw[SO];exact Nat.succ_le_succ (S1 λ d hd=>(h d hd).1),by rw[Cp];exact S2 λ d hd=>(h d hd).2⟩
def O8 (h:∀d∈ds,Pl n d):Pl (n+1) (.lst ds):=
 ⟨by rw[SO];exact Nat.succ_le_succ (S1 λ d hd=>(h d hd).1),by rw[Cp];exact S2 λ d hd=>(h d hd).2⟩
def NA (ns:List Int):Pl (n+1) (.lst (ns.map D.int)):=O8 λ d hd=>by
 obtain⟨i,_,rfl⟩:=zar.mp hd;exact Ci i
def Pl.le (h:Pl n d)(k:n<=m):Pl m d:=⟨zc0 h.1 k,h.2⟩
def S5:∀d∈([]:List D),Pl n d:=λ d h=>by cases h
def Dy (h:Pl n d)(t:∀d∈ds,Pl n d):∀e∈d::ds,Pl n e:=λ e he=>by
 rcases zab.mp he with rfl|he
 ·exact h
 ·exact t e he
def O9 (h:Pl n x)(k:Pl n y):XU n x y=.ok (.bl (Br x y)):=by
 unfold XU;rw[if_pos ⟨h.1,h.2,k.2⟩]
def Oa (h:Pl n x)(k:Pl n y):Vt n x y=.ok (.bl (!Br x y)):=by
 unfold Vt;rw[if_pos ⟨h.1,h.2,k.2⟩]
def Ob (h:Pl n x):Vt n x x=.ok (.bl false):=by rw[Oa h h,O2];rfl
def kA (ds:List D)(a b:Nat):nT (some (a:Int)) (some (b:Int)) (.lst ds)=.ok (.lst ((ds.drop a).take (b-a))):=by
 unfold nT;dsimp only;rw[HT.Nt,HT.Nt];congr 2;by_cases h:a<=ds.length
 ·rw[Nat.min_eq_left h];by_cases h2:b<=ds.length
  ·rw[Nat.min_eq_left h2]
  ·rw[Nat.min_eq_right (by omega),zcf (by rw[zci];exact zaf _),zcf (by rw[zci];omega)]
 ·rw[Nat.min_eq_right (show ds.length<=a by omega),List.drop_of_length_le (zaf _),List.drop_of_length_le (show ds.length<=a by omega),List.take_nil,List.take_nil]
section
variable {c:Bool}{P0:DZ}{P:Addr->Prop}{a b:Expr}{f:Ah->M D}{st:Stmt}{rest:List Stmt}
def TB {K}(h:BF K H v d):∀n:Nat,Ak K H (zak n v) (zak n d)
 |0=>.nil
 |n+1=>by rw[zc3,zc3];exact .cons h (TB h n)
def TC {K}(h:BF K H v d):∀ {vs:List V}{ds:List D}(n:Nat),Ak K H vs ds->Ak K H (vs.set n v) (ds.set n d)
 |_,_,_,.nil=>.nil
 |_,_,0,.cons _ t=>.cons h t
 |_,_,n+1,.cons a t=>.cons a (TC h n t)
abbrev abN (i:Nat)(ρ:Ah)(d k:D):M Out:=match k with
 | .int j=>if 0<=j/\j.toNat<=1000 then .ok (.next (ρ.set i (some (.own (zak j.toNat d))))) else .bad
 |_=>.bad
def QV {α:Type}(v:α):∀n:Nat,(zak n [v]).flatten=zak n v
 |0=>rfl
 |n+1=>by rw[zc3,List.flatten_cons,QV v n];rfl
abbrev rN (i:Nat)(ρ:Ah)(ds:List D)(d k:D):M Out:=match k with
 | .int j=>(match Wv ds.length j with|some n=>.ok (.next (ρ.set i (some (.own (ds.set n d)))))|none=>.bad)
 |_=>.bad
abbrev kB (i:Nat)(ρ:Ah)(m:M D)(d:D):M Out:=match ρ[i]? with
 |some (some (.own ds))=>m.bind (rN i ρ ds d)
 |_=>.bad
def VA (i:Nat)(hv:PE X (.Name x p1) (Qf i))(ha:DE X WX true a f)(hk:DE X WX true b g)(hs: ~~~(swapsWithSole [.Subscript (.Name x p1) b ax] a pos.line X.env=pure false))(hw: ~~~(swappedStores [.Subscript (.Name x p1) b ax] a X.env=pure none))(h1: ~~~((assignEach [.Subscript (.Name x p1) b ax] X.env).map (·.2)=[assign (.Subscript (.Name x p1) b ax) X.env]))(pq:∀v,assign (.Subscript (.Name x p1) b ax) X.env v=(do
  let ov <-holding [v] (eval (.Name x p1) X.env);let iv <-holding [v,ov] (eval b X.env)
  standAt ax
  holding [v,ov,iv] (setItem ov iv v)
  release [v,ov,iv] []):=by intro _;rfl):
 DS X WX (.Assign [.Subscript (.Name x p1) b ax] a pos) (λ ρ=>(f ρ).bind (kB i ρ (g ρ))):=by
 obtain⟨ta,a1,a2⟩:=ha;obtain⟨tb,b1,b2⟩:=hk;refine⟨_,Zt a1 (pV hv b1 set_list pq) hs hw h1,λ P0 P σ H Z ρ E h=>?_⟩;dsimp only at h;refine a2 P0 P σ H _ ρ E ?_;refine iF h E λ d h=>?_;intro v H1 s1 hv;have E1:=E.same s1;unfold kB at h;split at h
 ·rename_i ds e1;obtain⟨p,xs,h1,h2,h3,h4,h5⟩:=E1.own i ds e1;refine⟨_,h1,b2 P0 P σ H1 _ ρ E1 ?_⟩;cases q2:g ρ with
  |bad=>rw[q2] at h;exact h.elim
  |ex x=>rw[q2] at h;exact λ H' s2=>h H' P ((E.tr s1).trans (E1.tr s2))
  |ok k =>
   rw[q2] at h;simp only[M.A8] at h;unfold rN at h;intro w H2 s2 hw;split at h
   ·rename_i j;cases hw;split at h
    ·rename_i n en;have E2:=E1.same s2;refine⟨p,xs,j,n,rfl,rfl,s2 _ _ h2,by rw[h5.length];exact en,?_⟩;obtain⟨E3,t3⟩:=E2.mut e1 h1 h3 h4 (TC (hv.mono s2.del) n (h5.mono s2.del));exact h _ _ _ ((E.tr s1).trans ((E1.tr s2).trans t3)) E3
    ·exact h.elim
   ·exact h.elim
 ·exact h.elim
abbrev Ay (c:Ah->M Bool)(b:Ah->M Out):Nat->Ah->M Out
 |0,_=>.bad
 |n+1,ρ=>match c ρ with
  | .ok true=>(match b ρ with
   | .ok (.next ρ')| .ok (.cont ρ')=>Ay c b n ρ'
   | .ok (.brk ρ')=>.ok (.next ρ')
   |r=>r)
  | .ok false=>.ok (.next ρ)
  | .ex x=>.ex x
  | .bad=>.bad
abbrev Mo (c:Ah->M Bool)(b:Ah->M Out)(ρ:Ah):M Out:=
 @dite _ (∃n,Ay c b n ρ≠.bad) (zda _) (λ h=>Ay c b (za5 h) ρ) (λ _=>.bad)
def CO {c}{b}:∀ {n:Nat}{ρ:Ah},Ay c b n ρ≠.bad->∀m,Ay c b (n+m) ρ=Ay c b n ρ
 |0,ρ,h,m=>(h rfl).elim
 |n+1,ρ,h,m=>by
  rw[show n+1+m=(n+m)+1 by omega];rw[Ay] at h;rw[Ay,Ay];cases q:c ρ with
  |bad|ex x=>rfl
  |ok k =>
   rw[q] at h;cases k with
   |false=>rfl
   |true =>
    dsimp only at h ⊢;cases q2:b ρ with
    |bad|ex x=>rfl
    |ok o =>
     rw[q2] at h;cases o with
     |next ρ'=>dsimp only at h ⊢;exact CO h m
     |cont ρ'=>dsimp only at h ⊢;exact CO h m
     |brk ρ'=>rfl
     |ret d|Cq d|Fv d ρ2=>rfl
def cI {c}{b}(h:Ay c b n ρ≠.bad):Mo c b ρ=Ay c b n ρ:=by
 unfold Mo;have hx:∃n,Ay c b n ρ≠.bad:=⟨n,h⟩;rw[dif_pos hx];have hc:=za0 hx;have e1:=CO h (za5 hx);have e2:=CO hc n;rw[Nat.add_comm] at e2;rw[<-e1,e2]
def Y2 {c}{b}(h:Mo c b ρ≠.bad):∃n,Ay c b n ρ≠.bad/\Mo c b ρ=Ay c b n ρ:=by
 by_cases hx:∃n,Ay c b n ρ≠.bad
 ·obtain⟨n,hn⟩:=hx;exact⟨n,hn,cI hn⟩
 ·exact (h (by unfold Mo;rw[dif_neg hx])).elim
def wU {K}(h:gS K WX P0 P H Z m):m≠.bad:=λ e=>by rw[e] at h;exact h
def Oc (hp:PassesOwn (model X.prog X.w) X.A X.env X.xe)(hc:DT X WX a ft)(hb:SR X WX body g1):DS X WX (.While a body [] pos) (Mo ft g1):=by
 obtain⟨tc,c1,c2⟩:=hc;obtain⟨tb,b1,b2⟩:=hb;refine⟨_,Zu hp c1 b1,λ P0 P σ H Z ρ E h=>?_⟩;obtain⟨n,hn,en⟩:=Y2 (wU h);rw[en] at h;refine⟨λ m σ' H'=>∃ρ' P',Am X.K P0 P' H' σ' ρ'/\Tr P0 P H P' H'/\gS X.K WX P0 P' H' Z (Ay ft g1 m ρ'),⟨n,ρ,P,E,Tr.refl,h⟩,?_⟩;rintro m σ1 H1 ⟨ρ1,P1,E1,t1,h1⟩;cases m with
 |zero=>exact h1.elim
 |succ m =>
  rw[Ay] at h1;refine c2 P0 P1 σ1 H1 _ ρ1 E1 ?_;cases q:ft ρ1 with
  |bad=>rw[q] at h1;exact h1
  |ex x=>rw[q] at h1;exact λ H2 s2=>h1 H2 P1 (E1.tr s2)
  |ok k =>
   rw[q] at h1;intro H2 s2;have E2:=E1.same s2;cases k with
   |false =>
    rw[if_neg (by simp)];exact h1 σ1 H2 P1 (E1.tr s2) E2
   |true =>
    rw[if_pos rfl];dsimp only at h1;refine⟨λ σ' H'=>∃ρ' P',Am X.K P0 P' H' σ' ρ'/\Tr P0 P H P' H'/\gS X.K WX P0 P' H' Z (Ay ft g1 m ρ'),λ σ' H' z=>⟨m,Nat.lt_succ_self m,z⟩,?_⟩;refine b2 P0 P1 σ1 H2 _ ρ1 E2 ?_;cases q2:g1 ρ1 with
    |bad=>rw[q2] at h1;exact h1
    |ex x=>rw[q2] at h1;exact λ H3 P3 t3=>h1 H3 P3 ((E1.tr s2).trans t3)
    |ok o =>
     rw[q2] at h1;have t2:=t1.trans (E1.tr s2);cases o with
     |next ρ'=>exact λ σ3 H3 P3 t3 E3=>⟨ρ',P3,E3,t2.trans t3,h1.tr ((E1.tr s2).trans t3)⟩
     |cont ρ'=>exact λ σ3 H3 P3 t3 E3=>⟨ρ',P3,E3,t2.trans t3,h1.tr ((E1.tr s2).trans t3)⟩
     |brk ρ'=>exact λ σ3 H3 P3 t3 E3=>h1 σ3 H3 P3 ((E1.tr s2).trans t3) E3
     |ret d=>exact λ v H3 P3 t3 hv=>h1 v H3 P3 ((E1.tr s2).trans t3) hv
     |Cq d=>exact λ v fp H3 P3 t3=>h1 v fp H3 P3 ((E1.tr s2).trans t3)
     |Fv d ρ2=>exact λ v fp σ3 H3 P3 t3=>h1 v fp σ3 H3 P3 ((E1.tr s2).trans t3)
abbrev WM (ds:List D):M D:=match ds with
 |[.int i]=>.ok (.int i)
 |[.bl b]=>.ok (.int (if b then 1 else 0))
 |_=>.bad
def kC:Mm X.K WX (λ xs H Q=>(∃i,xs=[.int i]/\Q (.int i) H)\/∃k,xs=[.bl k]/\Q (.int (if k then 1 else 0)) H) WM:=by
 intro P H ds vs Q ht hl h;unfold WM at h;split at h
 ·obtain⟨v,rfl,hv⟩:=hl.one;cases hv;exact .inl ⟨_,rfl,h _ H (Aj.refl H) (.int _)⟩
 ·obtain⟨v,rfl,hv⟩:=hl.one;cases hv;exact .inr ⟨_,rfl,h _ H (Aj.refl H) (.int _)⟩
 ·exact h.elim
def kD (hg:Gl X "int")(hm:X.mg "int" = none)(ha:DE X WX c e f)(hb:bootBuiltins "int" = some (.type "int"):=by decide +kernel)(hs: ~~~(starEach [e] X.env=[(false,eval e X.env)])):DE X WX c (.Call (.Name "int" p) [e] [] pos) (λ ρ=>((f ρ).bind λ d=>(M.ok []).bind λ ds=>.ok (d::ds)).bind WM):=
 QS XB kC hg hm hb (A1 ha A6 hs) (he:=hs)
abbrev HH:List D->Option (List Bool)
 |[]=>some []
 | .bl b::r=>(HH r).map (b::·)
 |_=>none
def Od (bs:List Bool):HH (bs.map D.bl)=some bs:=by
 induction bs with
 |nil=>rfl
 |cons b r ih=>rw[za6,HH,ih];rfl
def Oe:∀ {ds:List D}{bs:List Bool},HH ds=some bs->ds=bs.map D.bl
 |[],bs,h=>by cases h;rfl
 | .bl b::r,bs,h=>by
  rw[HH] at h;cases q:HH r with
  |none=>rw[q] at h;cases h
  |some wv=>rw[q] at h;cases h;rw[Oe q];rfl
 | .Ax::r,bs,h| .int _::r,bs,h| .str _::r,bs,h| .tup _::r,bs,h| .lst _::r,bs,h| .Lo _::r,bs,h| .BN _ _ _::r,bs,h| .ins _ _ _::r,bs,h=>by cases h
def Of {K}:∀ {vs:List V}{bs:List Bool},Ak K H vs (bs.map D.bl)->vs=bs.map V.bl
 |_,[],.nil=>rfl
 |_,b::r,.cons h t=>by cases h;rw[Of t];rfl
def Og:∀ {bs:List Bool}{us:List Value},Vals (bs.map V.bl) us->LSm.BoolsAre us bs
 |[],_,.nil=>.nil
 |b::r,_,.cons h t=>by cases h;exact .cons b (Og t)
def Oh (hc:X.calm=true):GY X (.builtin "all") (λ xs H Q=>∃p bs,xs=[.ref p]/\DB X.K H p (List.map V.bl bs)/\Q (.bl (bs.all id)) H):=by
 intro pins s σ H xs us Q I r h;obtain⟨p,bs,rfl,hq,q⟩:=h;obtain⟨u,rfl,rx⟩:=vals1 r;cases rx;obtain⟨aa,r',pl,hz⟩:=I.list hq;have hl:=pl.isList;have hb:=Og r';have ah:p<s.heap.objs.size:=by obtain⟨_,e,_⟩:=hl;exact zai e
 refine call_all_walk (wpAny_pyIter_list hl ?_);refine⟨s.heap.objs.size,[s.heap.objs.size,p],[s.heap.objs.size],aa.toArray.size,_,_,λ i=>(bs[i]?).getD true,rfl,Walks.list (A:=X.A.in1) (I.ok.hd hc) _ p (zax ah) aa.toArray,
  ⟨⟨_,zap _ rfl,rfl,rfl⟩,hl.push _⟩,λ i v s' Q' E' hP hQ=>?_,λ h' tk hk=>?_⟩
 ·obtain⟨b,e,rfl⟩:=hb.get i v (by simpa using hP);simp only[e,Option.getD_some] at hQ;exact wpAny_truthy_bool hQ
 ·have e:((zb8 aa.toArray.size).all λ i=>(bs[i]?).getD true)=bs.all id:=by
   rw[zac,hb.length];exact LSm.range_all bs
  rw[e];exact⟨.bl _,H,I.kept (t':=tk) (LSm.kept_iter hk),rfl,q⟩
abbrev Y3 (ds:List D):M D:=match ds with
 |[.lst xs]=>(match HH xs with|some bs=>.ok (.bl (bs.all id))|none=>.bad)
 |_=>.bad
def rO:Mm X.K WX (λ xs H Q=>∃p bs,xs=[.ref p]/\DB X.K H p (List.map V.bl bs)/\Q (.bl (bs.all id)) H) Y3:=by
 intro P H ds vs Q ht hl h;unfold Y3 at h;split at h
 ·rename_i xs;obtain⟨v,rfl,hv⟩:=hl.one;split at h
  ·rename_i bs eb;have:=Oe eb;subst this;cases hv with
   |lst hs hh =>
    have:=Of hh;subst this;exact⟨_,bs,rfl,hs.Bf,h _ H (Aj.refl H) (.bl _)⟩
  ·exact h.elim
 ·exact h.elim
def cJ (hc:X.calm=true)(hg:Gl X "all")(hm:X.mg "all" = none)(ha:DE X WX c e f)(hb:bootBuiltins "all" = some (.builtin "all"):=by decide +kernel)(hs: ~~~(starEach [e] X.env=[(false,eval e X.env)])):DE X WX c (.Call (.Name "all" p) [e] [] pos) (λ ρ=>((f ρ).bind λ d=>(M.ok []).bind λ ds=>.ok (d::ds)).bind Y3):=
 O4 (Oh hc) rO hg hm hb (A1 ha A6 hs) (he:=hs)
end
abbrev Sm (n:Int):Prop:=zbt n<=2^20
def cK:∀ {ns:List Int},W.WData.weightAll (ns.map W.WData.int)<=2^20->∀n∈ns,Sm n
 |m::r,h,n,hn=>by
  rw[za6,W.WData.weightAll,W.WData.weight] at h;rcases zab.mp hn with rfl|hn
  ·unfold Sm zbt;omega
  ·exact cK (by omega) n hn
def wV {ns:List Int}(h:W.WData.layableAll [W.WData.list (ns.map W.WData.int)]=true):∀n∈ns,Sm n:=by
 unfold W.WData.layableAll at h;rw[List.all_cons,zb4] at h;have h1:=h.1;unfold W.WData.layable at h1;rw[zb4,decide_eq_true_eq,W.WData.weight] at h1;exact cK h1.2
end L2
namespace HT
open PySem PySem.W PyProof.Rows Spec Calls ue
def QW {l:OpenLaw}(hn:l.most=some n)(f6:d.params.defaults=[])(run:∀(w:World) (s₀ s₁:Shared) (mg mb:Str->Option Value) (fa:Addr) (o:Obj) (pm cd doc:Value) (a:Addr) (vs:List Value) (ns:List Int),(∀n∈ns,L2.Sm n)->
  Ground q loose [] XP w s₀ mg mb s₁.heap->YP w s₁.heap->s₁.heap.get? fa=some o->o.data=.func (docDef d.name d.params d.body d.scope pm cd doc)->s₁.heap.CodeRec cd d.name->mg d.name=some (.ref fa)->
  s₁.heap.get? a=some {cls:=.type "list",data:=.seq vs.toArray}->IntsAre vs ns->ns.length<=n->s₁.gens=#[]->
  codeAny (model l.prog w) callerA (.call (.ref fa) ⟨[.ref a],[]⟩) (λ r s'=>r=.ok (.ret (.bool true))/\OldK s₁.heap s'.heap/\s'.os=s₁.os/\AllBare s'.gens) s₁):
 WalkO q loose XP YP l.row.toRowW d [] (λ f vs=>PySem.call f vs):=by
 intro w s₀ s₁ mg mb G Y fa o pm cd doc dV kV ho hd aO hD f7 hg args vals as c6 pw aQ e9 hlo;obtain rfl:dV=.none:=Dflts.none hD f6;obtain rfl:kV=.none:=Dflts.noKw hD;obtain⟨a,vs,ns,rfl,rfl,cg,bf,hlen⟩:=XH hn c6 e9;refine enter_call (codeAny_mono (run w s₀ s₁ mg mb fa o pm cd doc a vs ns (L2.wV pw) G Y ho (fd_plain hd) aO f7 cg bf hlen hg) λ r s' hq=>?_);obtain⟨rfl,h2,h3,h4⟩:=hq;exact⟨.inl ⟨.bool true,.bool true,[],rfl,λ _=>rfl,.bool true,XI l _,λ _=>⟨List.Pairwise.nil,λ _ hm=>(nomatch hm)⟩⟩,h2,h3,h4⟩
end HT
namespace L2
open PySem PySem.Spec PyProof.Rows
def zF {l:PySem.W.OpenLaw}{K:Params->za1}{CX:World->Wt}{sp:World->Sp}(hn:l.most=some n)(a6:n<=sizeLine)(f6:d.params.defaults=[])(hr:Bm k callerA)(hY:∀(w:World) (h:Heap),YP w h->(K w.params).In h)(F:∀(w:World) (mg:Str->Option Value) (fa:Addr) (h:Heap),(K w.params).In h->h.Ns mainGlobals mg->mg d.name=some (.ref fa)->∃fd:FuncData,(∀(s:Shared) (u:Value),BindsTo s fd ⟨[u],[]⟩ [(x,u)])/\
  ∀base:Heap,(K w.params).In base->base.Ns mainGlobals mg->Cw l.prog w (K w.params) mg base (CX w) k fa fd [x] (sp w))(bx:∀(w:World) (H:Hp) (a:Addr) (ns:List Int),(∀n∈ns,Sm n)->ns.length<=n->jG H->DB (K w.params) H a (ns.map V.int)->sp w [.ref a] H (λ v _=>v=.bl true) λ _ _ _=>False)(jb:∀(w:World) (H:Hp) (s:Shared) (e:Value) (s':Shared),CX w [] H s (λ _ _ _=>False) e s'->False):PySem.W.WalkO q loose XP YP l.row.toRowW d [] (λ f vs=>PySem.call f vs):=by
 refine HT.QW hn f6 λ w s₀ s₁ mg mb fa o pm cd doc a vs ns aV G Y ho hd aO f7 cg bf hlen hg=>?_;have KX:=hY w _ Y;obtain⟨fd,hb,hF⟩:=F w mg fa _ KX G.T.g f7;exact Tf KX G.T.g G.T.b G.T.builtins G.T.nolimit hg cg bf (zc0 hlen a6) hr hF hb (λ H hO hS=>bx w H a ns aV hlen hO hS) λ H e s'=>jb w H s₁ e s'
variable {X:Cx}{WX:Str->Hp->Prop}{c:Bool}{P0:DZ}{P P':Addr->Prop}{H H':Hp}{σ:St}{ρ ρ':Ah}{a b e:Expr}{f g g2:Ah->M D}{pos:Pos}{fn:Ah->M OT}{es:List Expr}{mg:Str->Option Value}{base:Heap}{E:XK}{ft:Ah->M Bool}{gt:D->Ah->M Ah}{fx:Ah->M (Ah×OT)}
def kE (h:∀ns:List Int,ns.length<=63->(∀n∈ns,Sm n)->F [.lst (ns.map D.int)]=.ok (.bl true))(K:za1)(H:Hp)(a:Addr)(ns:List Int)(aV:∀n∈ns,Sm n)(hl:ns.length<=63)(hS:DB K H a (ns.map V.int)):Vy K 1 F [.ref a] H (λ v _=>v=.bl true) λ _ _ _=>False:=by
 refine⟨rfl,λ _=>False,[.lst (ns.map D.int)],λ _ z=>z.elim,.cons (.lst ?_ (Ak.ints ns)) .nil,?_⟩
 ·have e:del H (λ _=>False)=H:=by funext b;exact AB (λ z=>z)
  rw[e];exact hS
 ·rw[h ns hl aV];exact λ v H' s hv=>hv.O3
abbrev QX (i j:Int):Prop:=(zbt i<=2^20+1/\zbt j<=2^10)\/Tz i j
def Y4 {a b}(h:zbt a+zbt b<=2^21):IntMulOk a b:=by
 have e:(2:Nat)^21=2097152:=by decide
 have h2:Builtin.Int.intTooBig (zbt a+zbt b)=false:=by
  unfold Builtin.Int.intTooBig bitsLine;exact decide_eq_false (by omega)
 unfold IntMulOk;rw[h2];simp
def QX.ok (h:QX i j):IntMulOk i j:=by
 rcases h with ⟨h1,h2⟩|h
 ·exact Y4 (by omega)
 ·exact h.ok
def kF:Gf X (binaryOp .Mult) (rI QX λ i j=>.int (i*j)):=yX λ _ _ _ _ _ _ _ hc q=>mul_int q hc.ok
noncomputable instance (i j:Int):Decidable (QX i j):=zda _
abbrev HI:=Bh λ i j=>if QX i j then .ok (.int (i*j)) else .bad
def EF (h:QX i j):HI (.int i) (.int j)=.ok (.int (i*j)):=by
 unfold HI Bh;dsimp only;rw[if_pos h]
def J4 (ha:DE X WX c a f)(hb:DE X WX c b g):DE X WX c (.BinOp a .Mult b pos) (λ ρ=>(f ρ).bind λ x=>(g ρ).bind λ y=>HI x y):=QR kF (RV λ _ _ _ _=>.int _) ha hb
mutual
noncomputable def MT:D->Bool
 | .tup a=>Y5 a
 | .lst _| .Lo _| .BN _ _ _| .ins _ _ _=>false
 |_=>true
noncomputable def Y5:List D->Bool
 |[]=>true
 |a::r=>MT a&&Y5 r
end
def WN {P0}{a}(ht:∀a,P a->ED H a)(h:del H P0 a=some (.tup xs)):del H P a=some (.tup xs):=by
 obtain⟨h1,h2⟩:=Al h;rw[AB λ z=>by
  obtain⟨o',q,r⟩:=ht a z;rw[h2] at q;cases q;exact (r xs).1 rfl]
 exact h2
mutual
theorem BF.MT {K:za1}{H:Hp}{P0 P:Addr->Prop}(ht:∀a,P a->ED H a):∀ {v:V}{d:D},MT d=true->BF K (del H P0) v d->BF K (del H P) v d
 |_,_,_,.Ax=>.Ax
 |_,_,_,.bl b=>.bl b
 |_,_,_,.int i=>.int i
 |_,_,_,.str x=>.str x
 |_,_,n,.tup h r=>.tup (WN ht h) (Ak.MT ht (by rw[L2.MT] at n;exact n) r)
 |_,_,n,.lst h r|_,_,n,.Lo h r|_,_,n,.SN h r|_,_,n,.Ts h r|_,_,n,.ins _ h r=>by rw[L2.MT] at n;cases n
theorem Ak.MT {K:za1}{H:Hp}{P0 P:Addr->Prop}(ht:∀a,P a->ED H a):∀ {vs:List V}{ds:List D},Y5 ds=true->Ak K (del H P0) vs ds->Ak K (del H P) vs ds:=by
 intro _ _ n x_;cases x_ with
 |nil=>exact .nil
 |cons h t =>
  rw[Y5,zb4] at n;exact .cons (BF.MT ht n.1 h) (Ak.MT ht n.2 t)
end
abbrev dp (m:M D):M D:=m.bind λ d=>if MT d=true then .ok d else .bad
def WO (h:DE X WX false e f):DE X WX true e (λ ρ=>dp (f ρ)):=by
 obtain⟨t,h1,h2⟩:=h;refine⟨t,h1,λ P0 P σ H Q ρ E g=>h2 P0 P σ H Q ρ E ?_⟩;unfold dp at g;dsimp only at g;cases e:f ρ with
 |ok d =>
  rw[e] at g;simp only[M.A8] at g;by_cases hf:MT d=true
  ·rw[if_pos hf] at g;exact λ v H' s hv=>g v H' s (hv.MT (E.same s).BX hf)
  ·rw[if_neg hf] at g;exact g.elim
 |ex x|bad=>rw[e] at g;exact g
section
variable {α:Type}(lt:α->α->Prop)
abbrev Q8:List α->List α->Prop
 |y::ys,x::xs=>(lt y x/\ys.length=xs.length)\/(y=x/\Q8 ys xs)
 |_,_=>False
def Q8.len:∀ {ys xs:List α},Q8 lt ys xs->ys.length=xs.length
 |y::ys,x::xs,h=>by
  rcases h with ⟨_,h⟩|⟨_,h⟩
  ·rw[za8,za8,h]
  ·rw[za8,za8,Q8.len h]
 |[],[],h|[],_::_,h|_::_,[],h=>h.elim
def cL (n:Nat)(ih:∀xs:List α,xs.length=n->Acc (Q8 lt) xs){x:α}(hx:Acc lt x):∀ {xs:List α},xs.length=n->Acc (Q8 lt) xs->Acc (Q8 lt) (x::xs):=by
 induction hx with
 |intro x _ ww =>
  intro xs hl cy;induction cy with
  |intro xs _ pz =>
   refine .intro _ λ zs h=>?_;cases zs with
   |nil=>exact h.elim
   |cons y ys =>
    rcases h with ⟨h1,h2⟩|⟨h1,h2⟩
    ·exact ww y h1 (h2.trans hl) (ih ys (h2.trans hl))
    ·subst h1;exact pz ys h2 ((Q8.len lt h2).trans hl)
def Oi (h:∀x,Acc lt x):∀(n:Nat) (xs:List α),xs.length=n->Acc (Q8 lt) xs
 |0,[],_=>.intro _ λ zs h=>by cases zs<;>exact h.elim
 |n+1,x::xs,e=>cL lt n (Oi h n) (h x) (by simpa using e) (Oi h n xs (by simpa using e))
def WQ:∀ {xs:List α}{i:Nat}{y:α}{x:α},xs[i]?=some x->lt y x->Q8 lt (xs.set i y) xs
 |[],_,_,_,h,_=>by cases h
 |z::zs,0,y,x,h,hl=>by
  cases h;exact .inl ⟨hl,rfl⟩
 |z::zs,i+1,y,x,h,hl=>.inr ⟨rfl,WQ (by simpa using h) hl⟩
def Q8.trans (ht:∀a b c,lt a b->lt b c->lt a c):∀ {xs ys zs:List α},Q8 lt xs ys->Q8 lt ys zs->Q8 lt xs zs
 |x::xs,y::ys,z::zs,h1,h2=>by
  rcases h1 with ⟨a,b⟩|⟨rfl,b⟩
  ·rcases h2 with ⟨c,d⟩|⟨rfl,d⟩
   ·exact .inl ⟨ht _ _ _ a c,b.trans d⟩
   ·exact .inl ⟨a,b.trans (Q8.len lt d)⟩
  ·rcases h2 with ⟨c,d⟩|⟨rfl,d⟩
   ·exact .inl ⟨c,(Q8.len lt b).trans d⟩
   ·exact .inr ⟨rfl,Q8.trans ht b d⟩
 |[],_,_,h,_|_::_,[],_,h,_|_::_,_::_,[],_,h=>by cases h
end
def cM (h:Wv m k=some n):n<m:=by
 unfold Wv at h;split at h
 ·split at h
  ·cases h;omega
  ·cases h
 ·split at h
  ·cases h;omega
  ·cases h
def J5:∀ {ds:List D}{ns:List Int},DF ds=some ns->ds=ns.map D.int
 |[],ns,h=>by cases h;rfl
 | .int b::r,bs,h=>by
  rw[DF] at h;cases q:DF r with
  |none=>rw[q] at h;cases h
  |some wv=>rw[q] at h;cases h;rw[J5 q];rfl
 | .Ax::r,bs,h| .bl _::r,bs,h| .str _::r,bs,h| .tup _::r,bs,h| .lst _::r,bs,h| .Lo _::r,bs,h| .BN _ _ _::r,bs,h| .ins _ _ _::r,bs,h=>by cases h
def Gr {K}:∀ {vs:List V}{bs:List Int},Ak K H vs (bs.map D.int)->vs=bs.map V.int
 |_,[],.nil=>rfl
 |_,b::r,.cons h t=>by cases h;rw[Gr t];rfl
abbrev gN (K:za1)(P:Addr->Prop)(H:Hp)(Q:VK):M Cl->Prop
 | .ok c=>∀v fp H' P',Aj H H'->(∀a,P a->P' a)->(∀a,P' a->ED H' a)->Aj (del H P) (del H' P')->CU K H' P' c v fp->(∀a∈fp,P' a/\H a=none)->fp.Nodup->Q v H'
 |_=>False
abbrev spN (K:za1)(n:Nat)(F:List D->M Cl):Sp:=λ vs H Q _=>vs.length=n/\∃P ds,(∀a,P a->ED H a)/\Ak K (del H P) vs ds/\gN K P H Q (F ds)
def rP (t:Tr P P H P2 H'){a}(h:P2 a)(hn:¬ P a):H a=none:=by
 cases q:H a with
 |none=>rfl
 |some o =>
  have:=t.1 a o (by rw[AB hn];exact q);exact ((Al this).1 h).elim
abbrev kG:V->List V->Hp->VK->Prop:=λ x vs H Q=>∃(l:Addr) (xs:List V) (k:Nat) (y:V),x=.ref l/\vs=[.int (k:Int),y]/\H l=some (.lst xs)/\k<=xs.length/\xs.length<sizeLine/\Q .Ax (upd H l (.lst (xs.take k++y::xs.drop k)))
def TF:∀ {xs:List V}{us:List Value}{y:V}{w:Value},Vals xs us->∀k:Nat,RelV y w->Vals (xs.take k++y::xs.drop k) (us.take k++w::us.drop k)
 |_,_,_,_,r,0,h=>.cons h r
 |_,_,_,_,.nil,k+1,h=>.cons h .nil
 |_,_,_,_,.cons a t,k+1,h=>.cons a (TF t k h)
def cN {E}(x:Int)(u:Tok)(y:Value)(hc:¬(!Builtin.List.listFitsIndex x)=true)(hs:items.size<=sizeLine)(e:s.heap.get? l=some {cls:=.type "list",data:=.seq items n})(h:Q .none {s with heap:=s.heap.update l (Obj.mapSeq λ xs=>(xs.extract 0 (if x<0 then (x+(xs.size:Int)).toNat else min x.toNat xs.size)).push y++xs.extract (if x<0 then (x+(xs.size:Int)).toNat else min x.toNat xs.size)),toks:=s.toks}):wpAny (model prog wd) A (call (.builtin "list.insert") [.ref l,.int x u,y]) Q E s:=by
 have hm:=PySem.AutoSeq1.list_insert_list_int_val_1 l items n x u y hc hs;have ha:=PySem.F.args_list_insert_3 (.ref l) (.int x u) y;exact call_meets PySem.F.slot_list_insert ⟨_,e,rfl⟩ PySem.F.entry_list_insert ha hm ⟨e,h⟩
def Y6:vU X "list.insert" kG:=by
 intro pins s σ H x vs v us Q I rx rv h;obtain⟨l,xs,k,y,rfl,rfl,hH,hk,hz,q⟩:=h;cases rx;obtain⟨u,w,rfl,ru,ba⟩:=rv.two;obtain⟨tk,rfl⟩:=ru;obtain⟨z,aa,n,r,hl,e⟩:=I.Vm hH;have hlen:=r.length;have h63:=Lq;have e8:¬ (!Builtin.List.listFitsIndex (k:Int))=true:=by
  unfold Builtin.List.listFitsIndex;simp;omega
 have hsz:aa.toArray.size<=sizeLine:=by rw[zac,<-hl];exact zbo hz
 refine cN (k:Int) tk w e8 hsz e ?_;refine⟨.Ax,_,I.ZR (its':=aa.take k++w::aa.drop k) hH e ?_ ?_ ?_,rfl,q⟩
 ·have e1:¬ ((k:Int)<0):=by omega
  have e2:min (k:Int).toNat aa.toArray.size=k:=by rw[zbg,zac];omega
  simp only[e1,if_false,e2];apply Array.toList_inj.mp;simp;rw[zcf (by rw[zci];exact zaf _)]
 ·exact TF r k ba
 ·rw[zah,za8,zbf,zci];omega
abbrev Y7 (i:Nat)(ρ:Ah)(mk md:M D):M Out:=match ρ[i]? with
 |some (some (.own ds))=>mk.bind λ k=>md.bind λ d=>match k with
  | .int j=>if 0<=j/\j.toNat<=ds.length/\ds.length<1000 then .ok (.next (ρ.set i (some (.own (ds.take j.toNat++d::ds.drop j.toNat))))) else .bad
  |_=>.bad
 |_=>.bad
def LJ {K}:∀ {vs:List V}{ds:List D}(n:Nat),Ak K H vs ds->Ak K H (vs.take n) (ds.take n)
 |_,_,0,_=>by rw[List.take_zero,List.take_zero];exact .nil
 |_,_,_+1,.nil=>.nil
 |_,_,n+1,.cons h t=>by rw[List.take_succ_cons,List.take_succ_cons];exact .cons h (LJ n t)
def QY {K}:∀ {vs:List V}{ds:List D}(n:Nat),Ak K H vs ds->Ak K H (vs.drop n) (ds.drop n)
 |_,_,0,h=>h
 |_,_,_+1,.nil=>.nil
 |_,_,n+1,.cons h t=>by rw[List.drop_succ_cons,List.drop_succ_cons];exact QY n t
def TH {K:za1}{H:Hp}:∀ {vs ws:List V}{ds es:List D},Ak K H vs ds->Ak K H ws es->Ak K H (vs++ws) (ds++es):=by
 intro _ _ _ _ x_ k;cases x_ with
 |nil=>exact k
 |cons h t=>exact .cons h (TH t k)
def QZ (i:Nat)(hv:PE X (.Name x p1) (Qf i))(hk:DE X WX true a f)(hd:DE X WX true b g)(hs: ~~~(starEach [a,b] X.env=(false,eval a X.env)::starEach [b] X.env))(a9: ~~~(starEach [b] X.env=[(false,eval b X.env)]))(bo: ~~~(swapsWith (.Call (.Attribute (.Name x p1) "insert" apos) [a,b] [] ac) none pos.line X.env=pure false))(aj: ~~~(attributeBase (.Name x p1) "insert" X.env (eval (.Name x p1) X.env)=eval (.Name x p1) X.env))(aT: ~~~(((backTo ac (starEach [a,b] X.env)).all (λ x => !x.1)&&(backToKw ac (keywordEach [] X.env)).all (λ x=>x.1.isSome)&&decide (([a,b]:List Expr).length+([]:List Keyword).length+(if ([]:List Keyword).isEmpty then 0 else 1)<30))=true))(ak: ~~~((apos.endLine==ac.line)=true))(aq: ~~~((backTo ac (starEach [b] X.env)).any (·.1)=false)):
 DS X WX (.Expr (.Call (.Attribute (.Name x p1) "insert" apos) [a,b] [] ac) pos) (λ ρ=>Y7 i ρ (f ρ) (g ρ)):=by
 obtain⟨ta,a1,a2⟩:=hk;obtain⟨tb,b1,b2⟩:=hd;refine⟨_,Gd (Wz zc9 PySem.F.slot_list_insert PySem.F.type_list_insert Y6 hv (Bc a1 (Bc b1 Cd a9) hs) aj aT ak hs aq) bo,λ P0 P σ H Z ρ E h=>?_⟩;dsimp only at h;unfold Y7 at h;split at h
 ·rename_i ds e1;obtain⟨p,xs,h1,h2,h3,h4,h5⟩:=E.own i ds e1;refine⟨_,h1,.inl ⟨rfl,xs,.of h2⟩,a2 P0 P σ H _ ρ E ?_⟩;refine iF h E λ k h=>?_;intro w H1 s1 hw;have E1:=E.same s1;refine b2 P0 P σ H1 _ ρ E1 ?_;cases q2:g ρ with
  |bad=>rw[q2] at h;exact h
  |ex y=>rw[q2] at h;exact λ H' s=>h H' P ((E.tr s1).trans (E1.tr s))
  |ok d =>
   rw[q2] at h;simp only[M.A8] at h;intro v H2 s2 wx;have E2:=E1.same s2;have p6:=s1.trans s2;split at h
   ·rename_i j;cases hw;by_cases hj:0<=j/\j.toNat<=ds.length/\ds.length<1000
    ·rw[if_pos hj] at h;have wy:((j.toNat:Nat):Int)=j:=Int.toNat_of_nonneg hj.1;have ul:=h5.mono p6.del;refine⟨p,xs,j.toNat,v,rfl,by rw[wy],p6 _ _ h2,by rw[h5.length];exact hj.2.1,AA (by rw[h5.length];exact zbo hj.2.2),?_⟩;obtain⟨E3,t3⟩:=E2.mut e1 h1 h3 h4 (TH (LJ j.toNat ul) (.cons wx (QY j.toNat ul)));exact h _ _ _ ((E.tr p6).trans t3) E3
    ·rw[if_neg hj] at h;exact h.elim
   ·exact h.elim
 ·exact h.elim
abbrev wW (ds:List D):M D:=match ds with
 |[.lst xs]=>(match HH xs with|some bs=>.ok (.bl (bs.any id))|none=>.bad)
 |_=>.bad
abbrev kids:OT->List OT
 | .sh _=>[]
 | .lst ts| .tup ts| .BN _ _ ts| .ins _ _ ts=>ts
abbrev NC:OT->List OT->OT
 | .sh d,_=>.sh d
 | .lst _,ts=>.lst ts
 | .tup _,ts=>.tup ts
 | .BN b ks _,ts=>.BN b ks ts
 | .ins x ns _,ts=>.ins x ns ts
abbrev LK:OT->List Nat->Option OT
 |t,[]=>some t
 |t,j::π=>match (kids t)[j]? with|some s=>LK s π|none=>none
abbrev EG:OT->List Nat->OT->OT
 |_,[],u=>u
 |t,j::π,u=>match (kids t)[j]? with|some s=>NC t ((kids t).set j (EG s π u))|none=>t
@[simp] theorem Oj (t:OT):LK t []=some t:=by unfold LK;rfl
@[simp] theorem HJ (t u:OT):EG t [] u=u:=by unfold EG;rfl
def Y8 (h:(kids t)[j]?=some s):LK t (j::π)=LK s π:=by rw[LK,h]
def Y9 (h:(kids t)[j]?=some s):EG t (j::π) u=NC t ((kids t).set j (EG s π u)):=by rw[EG,h]
section
variable {K:za1}
abbrev Cs (K:za1)(H:Hp)(P:Addr->Prop)(v:V)(t:OT)(q:List Addr)(xs:List V):Prop:=match t with
 | .sh _=>False
 | .lst ts=>∃p,v=.ref p/\q=[p]/\H p=some (.lst xs)
 | .tup ts=>∃p,v=.ref p/\q=[]/\del H P p=some (.tup xs)
 | .BN false ks ts=>∃p kvs,v=.ref p/\q=[p]/\H p=some (.dK kvs)/\ks=(kvs.map λ kv=>Cn kv.1)/\xs=kvs.map zbu
 | .BN true ks ts=>∃p kvs,v=.ref p/\q=[p]/\H p=some (.dT kvs)/\ks=(kvs.map λ kv=>.tup (kv.1.map Cn))/\xs=kvs.map zbu
 | .ins x ns ts=>∃p C dx fs,v=.ref p/\q=[p]/\zan K mainGlobals x=some (some (.ref C))/\H p=some (.ins C dx fs)/\ns=fs.map zay/\xs=fs.map zbu
def Cs.own (h:Cs K H P v t q xs)(r:Av K H P xs (kids t) fp):BS K H P v t (q++fp):=by
 cases t with
 |sh d=>exact h.elim
 |lst ts=>obtain⟨p,rfl,rfl,h⟩:=h;exact .lst h r
 |tup ts=>obtain⟨p,rfl,rfl,h⟩:=h;exact .tup h r
 |BN b ks ts =>
  cases b with
  |false=>obtain⟨p,kvs,rfl,rfl,h,rfl,rfl⟩:=h;exact .dK h r
  |true=>obtain⟨p,kvs,rfl,rfl,h,rfl,rfl⟩:=h;exact .dT h r
 |ins x ns ts=>obtain⟨p,C,dx,fs,rfl,rfl,n,h,rfl,rfl⟩:=h;exact .ins n h r
def BS.node (h:BS K H P v t fp)(hk:kids t≠[]\/∀d,t≠.sh d):∃q xs fq,fp=q++fq/\Cs K H P v t q xs/\Av K H P xs (kids t) fq:=by
 cases h with
 |sh h=>rcases hk with hk|hk;exact (hk rfl).elim;exact (hk _ rfl).elim
 |lst h r=>exact⟨[_],_,_,rfl,⟨_,rfl,rfl,h⟩,r⟩
 |tup h r=>exact⟨[],_,_,rfl,⟨_,rfl,rfl,h⟩,r⟩
 |dK h r|dT h r=>exact⟨[_],_,_,rfl,⟨_,_,rfl,rfl,h,rfl,rfl⟩,r⟩
 |ins n h r=>exact⟨[_],_,_,rfl,⟨_,_,_,_,rfl,rfl,n,h,rfl,rfl⟩,r⟩
def Cs.move (sm:Aj (del H P) (del H' P'))(k:∀a∈q,H' a=H a)(h:Cs K H P v t q xs):Cs K H' P' v t q xs:=by
 cases t with
 |sh d=>exact h.elim
 |lst ts=>obtain⟨p,rfl,rfl,h⟩:=h;exact⟨p,rfl,rfl,(k p za3).trans h⟩
 |tup ts=>obtain⟨p,rfl,rfl,h⟩:=h;exact⟨p,rfl,rfl,sm _ _ h⟩
 |BN b ks ts =>
  cases b with
  |false|true=>obtain⟨p,kvs,rfl,rfl,h,rfl,rfl⟩:=h;exact⟨p,kvs,rfl,rfl,(k p za3).trans h,rfl,rfl⟩
 |ins x ns ts=>obtain⟨p,C,dx,fs,rfl,rfl,n,h,rfl,rfl⟩:=h;exact⟨p,C,dx,fs,rfl,rfl,n,(k p za3).trans h,rfl,rfl⟩
def Cs.kids (h:Cs K H P v t q xs)(ts:List OT):Cs K H P v (NC t ts) q xs:=by
 cases t with
 |sh d=>exact h.elim
 |lst us|tup us=>exact h
 |BN b ks us=>cases b<;>exact h
 |ins x ns us=>exact h
def S6 (h:Cs K H P v t q xs)(ts:List OT):L2.kids (NC t ts)=ts:=by
 cases t with
 |sh d=>exact h.elim
 |lst us|tup us|BN b ks us|ins x ns us=>rfl
def Cs.inj (h:Cs K H P v t q xs)(h':Cs K H P v t q' d4):q=q'/\xs=d4:=by
 cases t with
 |sh d=>exact h.elim
 |lst ts|tup ts=>obtain⟨p,rfl,rfl,h⟩:=h;obtain⟨p',e,rfl,h'⟩:=h';cases e;rw[h] at h';cases h';exact⟨rfl,rfl⟩
 |BN b ks ts =>
  cases b with
  |false|true=>obtain⟨p,kvs,rfl,rfl,h,_,rfl⟩:=h;obtain⟨p',p7,e,rfl,h',_,rfl⟩:=h';cases e;rw[h] at h';cases h';exact⟨rfl,rfl⟩
 |ins x ns ts=>obtain⟨p,C,dx,fs,rfl,rfl,n,h,_,rfl⟩:=h;obtain⟨p',C',dx',bA,e,rfl,n',h',_,rfl⟩:=h';cases e;rw[h] at h';cases h';exact⟨rfl,rfl⟩
inductive HK (K:za1) (H:Hp) (P:Addr->Prop):V->OT->List Nat->V->OT->Prop
 |nil {v t}:HK K H P v t [] v t
 |cons {v t q xs j x s π v1 t1}:Cs K H P v t q xs->xs[j]?=some x->(kids t)[j]?=some s->HK K H P x s π v1 t1->HK K H P v t (j::π) v1 t1
def HK.sub (h:HK K H P v t π v1 t1):LK t π=some t1:=by
 induction h with
 |nil=>exact Oj _
 |cons _ _ hs _ ih=>rw[Y8 hs];exact ih
def HK.snoc (h:HK K H P v t π v1 t1)(n:Cs K H P v1 t1 q xs)(hx:xs[j]?=some x)(hs:(kids t1)[j]?=some s):HK K H P v t (π++[j]) x s:=by
 induction h with
 |nil=>exact .cons n hx hs .nil
 |cons n' ml wz _ ih=>exact .cons n' ml wz (ih n hs)
def Av.get:∀ {xs:List V}{ts:List OT}{fp:List Addr}{j:Nat}{x:V}{s:OT},Av K H P xs ts fp->xs[j]?=some x->ts[j]?=some s->∃pre fs post,fp=pre++fs++post/\BS K H P x s fs
 |_,_,_,_,_,_,.nil,e,_=>by simp at e
 |_,_,_,0,_,_,.cons h r,e,e'=>by
  simp at e e';subst e;subst e';exact⟨[],_,_,rfl,h⟩
 |_,_,_,j+1,_,_,.cons (fp:=f1) h r,e,e'=>by
  obtain⟨pre,fs,post,z,q⟩:=Av.get r (by simpa using e) (by simpa using e');exact⟨f1++pre,fs,post,by rw[z];simp,q⟩
def Av.len:∀ {xs:List V}{ts:List OT}{fp:List Addr},Av K H P xs ts fp->xs.length=ts.length
 |_,_,_,.nil=>rfl
 |_,_,_,.cons _ r=>by rw[za8,za8,r.len]
def Av.exV:∀ {xs:List V}{ts:List OT}{fp:List Addr}{j:Nat}{s:OT},Av K H P xs ts fp->ts[j]?=some s->∃x,xs[j]?=some x:=fun {xs ts fp j s} h e=>by
 have hl:j<xs.length:=by rw[h.len];exact (zae.mp e).1
 exact⟨_,za7 hl⟩
def BS.part (h:BS K H P v t fp)(s:HK K H P v t π v1 t1):∃ap,BS K H P v1 t1 ap/\(∀a∈ap,a∈fp)/\(fp.Nodup->ap.Nodup):=by
 induction s generalizing fp with
 |nil=>exact⟨fp,h,λ _ h=>h,λ h=>h⟩
 |cons n hx hs _ ih =>
  obtain⟨q,xs,fq,rfl,n',r⟩:=h.node (.inl λ z=>by rw[z] at hs;cases hs);obtain⟨rfl,rfl⟩:=n.inj n';obtain⟨pre,fs,post,rfl,o⟩:=r.get hx hs;obtain⟨ap,o1,k,kn⟩:=ih o;exact⟨ap,o1,λ a ha=>zaa _ (zb2 _ (zaa _ (k a ha))),λ nd=>kn (zav.mp (zav.mp (zav.mp nd).2.1).1).2.1⟩
def Av.put (sm:Aj (del H P) (del H' P')):∀ {xs:List V}{ts:List OT}{fp:List Addr}{j:Nat}{x:V}{s s':OT}{fs bA:List Addr},Av K H P xs ts fp->xs[j]?=some x->ts[j]?=some s->BS K H P x s fs->BS K H' P' x s' bA->(∀a∈fp,a∉fs->H' a=H a)->fp.Nodup->bA.Nodup->(∀a∈bA,a∈fp->a∈fs)->
 ∃ag,Av K H' P' xs (ts.set j s') ag/\ag.Nodup/\∀a∈ag,a∈bA\/(a∈fp/\a∉fs)
 |_,_,_,_,_,_,_,_,_,.nil,e,_,_,_,_,_,_,_=>by simp at e
 |_,_,_,0,x,s,s',fs,bA,.cons (fp:=f1) (fq:=f2) h r,e,e',o,o',k,nd,jm,dj=>by
  simp at e e';subst e;subst e';have:=h.C5 o;subst this;have aL:=zav.mp nd;have k2:∀a∈f2,a∉f1:=λ a ha hb=>aL.2.2 a hb a ha rfl;refine⟨bA++f2,.cons o' (r.move sm λ a ha=>k a (zaa _ ha) (k2 a ha)),zav.mpr ⟨jm,aL.2.1,λ a ha b hb z=>?_⟩,λ a ha=>?_⟩
  ·subst z;exact k2 a hb (dj a ha (zaa _ hb))
  ·rcases zal.mp ha with ha|ha
   ·exact .inl ha
   ·exact .inr ⟨zaa _ ha,k2 a ha⟩
 |_,_,_,j+1,x,s,s',fs,bA,.cons (vs:=ug) (ts:=w4) (fp:=f1) (fq:=f2) h r,e,e',o,o',k,nd,jm,dj=>by
  have aL:=zav.mp nd;have e2:ug[j]?=some x:=by simpa using e
  have e3:w4[j]?=some s:=by simpa using e'
  obtain⟨pre,fx,post,hf,ox⟩:=r.get e2 e3;have:=ox.C5 o;subst this;have k1:∀a∈f1,a∉fx:=λ a ha hb=>aL.2.2 a ha a (by rw[hf];exact zb2 _ (zaa _ hb)) rfl;obtain⟨ag,q1,q2,q3⟩:=Av.put sm r e2 e3 o o' (λ a ha hn=>k a (zaa _ ha) hn) aL.2.1 jm (λ a ha hb=>dj a ha (zaa _ hb));refine⟨f1++ag,.cons (h.move sm λ a ha=>k a (zb2 _ ha) (k1 a ha)) q1,zav.mpr ⟨aL.1,q2,λ a ha b hb z=>?_⟩,λ a ha=>?_⟩
  ·subst z;rcases q3 a hb with z|z
   ·exact k1 a ha (dj a z (zb2 _ ha))
   ·exact aL.2.2 a ha a z.1 rfl
  ·rcases zal.mp ha with ha|ha
   ·exact .inr ⟨zb2 _ ha,k1 a ha⟩
   ·rcases q3 a ha with z|z
    ·exact .inl z
    ·exact .inr ⟨zaa _ z.1,z.2⟩
def BS.put (sm:Aj (del H P) (del H' P'))(h:BS K H P v t fp)(s:HK K H P v t π v1 t1)(o:BS K H P v1 t1 ap)(o':BS K H' P' v1 u fu)(k:∀a∈fp,a∉ap->H' a=H a)(nd:fp.Nodup)(jm:fu.Nodup)(dj:∀a∈fu,a∈fp->a∈ap):
 ∃ag,BS K H' P' v (EG t π u) ag/\ag.Nodup/\∀a∈ag,a∈fu\/(a∈fp/\a∉ap):=by
 induction s generalizing fp with
 |nil =>
  rw[HJ];exact⟨fu,o',jm,λ a ha=>.inl ha⟩
 | @cons v t q xs j x s π v1 t1 n hx hs s1 ih =>
  obtain⟨q',d4,fq,rfl,n',r⟩:=h.node (.inl λ z=>by rw[z] at hs;cases hs);obtain⟨rfl,rfl⟩:=n.inj n';have jn:=zav.mp nd;obtain⟨pre,fs,post,hf,ox⟩:=r.get hx hs;have sub:∀a∈fs,a∈fq:=λ a ha=>by rw[hf];exact zb2 _ (zaa _ ha)
  have w5:fs.Nodup:=by
   have:=jn.2.1;rw[hf] at this;exact (zav.mp (zav.mp this).1).2.1
  obtain⟨fz,oz,kz,_⟩:=ox.part s1;have:=oz.C5 o;subst this;obtain⟨bA,q1,q2,q3⟩:=ih ox o o' (λ a ha hn=>k a (zaa _ (sub a ha)) hn) w5 (λ a ha hb=>dj a ha (zaa _ (sub a hb)));have qf:∀a∈q,a∉fs:=λ a ha hb=>jn.2.2 a ha a (sub a hb) rfl;have kq:∀a∈q,H' a=H a:=λ a ha=>k a (zb2 _ ha) λ z=>qf a ha (kz a z);obtain⟨ag,p1,p2,p3⟩:=r.put sm hx hs ox q1 (λ a ha hn=>k a (zaa _ ha) λ z=>hn (kz a z)) jn.2.1 q2 (λ a ha hb=>by
   rcases q3 a ha with z|z
   ·exact kz a (dj a z (zaa _ hb))
   ·exact z.1)
  rw[Y9 hs];have n2:=(n.move sm kq).kids ((kids t).set j (EG s π u));have o2:=n2.own (fp:=ag) (by rw[S6 n];exact p1);refine⟨q++ag,o2,zav.mpr ⟨jn.1,p2,λ a ha b hb z=>?_⟩,λ a ha=>?_⟩
  ·subst z;rcases p3 a hb with z|z
   ·rcases q3 a z with y|y
    ·exact qf a ha (kz a (dj a y (zb2 _ ha)))
    ·exact qf a ha y.1
   ·exact jn.2.2 a ha a z.1 rfl
  ·rcases zal.mp ha with ha|ha
   ·exact .inr ⟨zb2 _ ha,λ z=>qf a ha (kz a z)⟩
   ·rcases p3 a ha with z|z
    ·rcases q3 a z with y|y
     ·exact .inl y
     ·exact .inr ⟨zaa _ (sub a y.1),y.2⟩
    ·exact .inr ⟨zaa _ z.1,λ y=>z.2 (kz a y)⟩
end
abbrev PU (P:Addr->Prop)(fp:List Addr):Addr->Prop:=λ a=>P a\/a∈fp
def LL:∀a,P a->PU P fp a:=λ a h=>.inl h
def Ca (s:Aj H H')(hn:∀a∈fp,H a=none):Aj (del H P) (del H' (PU P fp)):=λ b o e=>by
 obtain⟨h1,h2⟩:=Al e;rw[AB λ z=>z.elim h1 λ w=>by rw[hn b w] at h2;cases h2];exact s b o h2
def Ol:del H (PU P [])=del H P:=by
 funext b;by_cases h:P b
 ·rw[Gj h,Gj (.inl h)]
 ·rw[AB h,AB λ z=>z.elim h λ w=>by cases w]
def Gs {K}(hP:∀a,P a->ED H' a)(o:BS K H' Q v t fp):∀a,PU P fp a->ED H' a:=λ a h=>h.elim (hP a) (o.BX a)
def WR {K}(hP:∀a,P a->ED H' a)(o:Av K H' Q v t fp):∀a,PU P fp a->ED H' a:=λ a h=>h.elim (hP a) (o.BX a)
def Am.more {K}(E:Am K P0 P H σ ρ)(e:Aj H H')(hs:∀a,P a->P' a)(ht:∀a,P' a->ED H' a)(sm:Aj (del H P) (del H' P')):Am K P0 P' H' σ ρ:=by
 have keep:∀(c:Cl) (v:V) (fp:List Addr),CU K H P c v fp->∀a∈fp,H' a=H a:=λ c v fp o a ha=>by
  obtain⟨xs,q⟩:=o.at a ha;rw[q];exact e _ _ q
 exact⟨λ a h=>hs a (E.sub a h),ht,λ i d h=>let ⟨v,h1,h2⟩:=E.val i d h;⟨v,h1,h2.mono sm⟩,
  λ i c h io=>let ⟨v,fp,h1,h2,h3,h4⟩:=E.ows i c h io;⟨v,fp,h1,h2.move sm (keep c v fp h2),λ a ha=>⟨hs a (h3 a ha).1,(h3 a ha).2⟩,h4⟩,
  λ i j c c' v v' fp ag hi hj si sj h h' ad=>E.bR sm (λ v fp _ o a ha=>keep _ _ _ o a ha) (λ v fp _ o a ha=>keep _ _ _ o a ha) hi hj si sj h h' ad,E.len,E.pin⟩
abbrev Zf (K:za1)(WX:Str->Hp->Prop)(P:Addr->Prop)(H:Hp)(Q:VK):M OT->Prop
 | .ok t=>∀v fp H',Aj H H'->(∀a∈fp,H a=none)->fp.Nodup->BS K H' (PU P fp) v t fp->Q v H'
 | .ex x=>∀H',Aj H H'->WX x H'
 | .bad=>False
abbrev gNs (K:za1)(WX:Str->Hp->Prop)(P:Addr->Prop)(H:Hp)(Q:List V->Hp->Prop):M (List OT)->Prop
 | .ok t=>∀v fp H',Aj H H'->(∀a∈fp,H a=none)->fp.Nodup->Av K H' (PU P fp) v t fp->Q v H'
 | .ex x=>∀H',Aj H H'->WX x H'
 | .bad=>False
def Di (s:Aj H H'){a}(h:H' a=none):H a=none:=by
 cases q:H a with
 |none=>rfl
 |some o=>rw[s a o q] at h;cases h
section
variable {K:za1}
def Zf.same (h:Zf K WX P H Q m)(e:Aj H H'):Zf K WX P H' Q m:=by
 cases m with
 |ok d=>exact λ v fp H2 q hn nd o=>h v fp H2 (e.trans q) (λ a ha=>Di e (hn a ha)) nd o
 |ex x=>exact λ H2 q=>h H2 (e.trans q)
 |bad=>exact h
end
abbrev DN (X:Cx)(WX:Str->Hp->Prop)(e:Expr)(f:Ah->M OT):Prop:=
 ∃t,PE X e t/\∀P0 P σ H Q ρ,Am X.K P0 P H σ ρ->Zf X.K WX P H Q (f ρ)->t σ H Q
abbrev wX (X:Cx)(WX:Str->Hp->Prop)(es:List Expr)(f:Ah->M (List OT)):Prop:=
 ∃t,PA X es t/\(∀P0 P σ H Q ρ,Am X.K P0 P H σ ρ->gNs X.K WX P H Q (f ρ)->t σ H Q)/\∀ρ ts,f ρ=.ok ts->ts.length=es.length
abbrev shM (d:D):M OT:=.ok (.sh d)
abbrev erM (t:OT):M D:=.ok (er t)
def AG (h:DE X WX true e f):DN X WX e (λ ρ=>(f ρ).bind shM):=by
 obtain⟨t,h1,h2⟩:=h;refine⟨t,h1,λ P0 P σ H Q ρ E g=>h2 P0 P σ H Q ρ E ?_⟩;dsimp only at g;cases q:f ρ with
 |bad|ex x=>rw[q] at g;exact g
 |ok d=>rw[q] at g;exact λ v H' s hv=>g v [] H' s (λ a ha=>by cases ha) zbr (.sh (by rw[Ol];exact hv))
def Ag (h:DN X WX e fn):DE X WX c e (λ ρ=>(fn ρ).bind erM):=by
 suffices z:DE X WX true e (λ ρ=>(fn ρ).bind erM) by
  cases c with
  |true=>exact z
  |false=>exact Vs z
 obtain⟨t,h1,h2⟩:=h;refine⟨t,h1,λ P0 P σ H Q ρ E g=>h2 P0 P σ H Q ρ E ?_⟩;dsimp only at g;cases q:fn ρ with
 |bad|ex x=>rw[q] at g;exact g
 |ok d =>
  rw[q] at g;exact λ v fp H' s hn nd o=>g v H' s (o.has LL λ a ha z=>(E.BX a z).no (hn a ha))
def Cb:wX X WX [] (λ _=>.ok []):=⟨_,Cd,λ P0 P σ H Q ρ E h=>h [] [] H (Aj.refl H) (λ a ha=>by cases ha) zbr .nil,λ ρ ds h=>by cases h;rfl⟩
def C6 (he:DN X WX e fn)(hr:wX X WX es fs)(hs: ~~~(starEach (e::es) X.env=(false,eval e X.env)::starEach es X.env)):
 wX X WX (e::es) (λ ρ=>(fn ρ).bind λ d=>(fs ρ).bind λ ds=>.ok (d::ds)):=by
 obtain⟨te,e1,e2⟩:=he;obtain⟨tr,r1,r2,r3⟩:=hr;refine⟨_,Bc e1 r1 hs,λ P0 P σ H Q ρ E h=>?_,λ ρ ds h=>?_⟩
 rotate_left
 ·dsimp only at h;cases q:fn ρ with
  |bad|ex x=>rw[q] at h;cases h
  |ok x =>
   rw[q] at h;cases q2:fs ρ with
   |bad|ex x=>rw[q2] at h;cases h
   |ok xs =>
    rw[q2] at h;cases h;rw[za8,za8,r3 ρ xs q2]
 dsimp only at h;refine e2 P0 P σ H _ ρ E ?_;cases q:fn ρ with
 |bad|ex x=>rw[q] at h;exact h
 |ok x =>
  rw[q] at h;intro v fp H1 s1 n1 df o1;have E1:Am X.K P0 (PU P fp) H1 σ ρ:=E.more s1 LL (Gs (E.same s1).BX o1) (Ca s1 n1);refine r2 P0 (PU P fp) σ H1 _ ρ E1 ?_;cases q2:fs ρ with
  |bad=>rw[q2] at h;exact h
  |ex y=>rw[q2] at h;exact λ H' s=>h H' (s1.trans s)
  |ok ds =>
   rw[q2] at h;intro vs fq H2 s2 n2 aL o2;have dj:∀a∈fp,a∉fq:=λ a ha hb=>(o1.BX a ha).no (n2 a hb);have eP:PU (PU P fp) fq=PU P (fp++fq):=by
    funext a;simp only[PU,zal,or_assoc]
   have sm:Aj (del H1 (PU P fp)) (del H2 (PU P (fp++fq))):=by rw[<-eP];exact Ca s2 n2
   refine h _ (fp++fq) H2 (s1.trans s2) (λ a ha=>?_) (zav.mpr ⟨df,aL,λ a ha b hb z=>dj a ha (by rw[z];exact hb)⟩) (.cons (o1.move sm λ a ha=>?_) (by rw[<-eP];exact o2))
   ·rcases zal.mp ha with ha|ha
    ·exact n1 a ha
    ·exact Di s1 (n2 a ha)
   ·obtain⟨o,z,_⟩:=o1.BX a ha;rw[z];exact s2 _ _ z
def rQ (hn:H p=none)(hP:∀a,PU P fp a->ED H a):Aj (del H (PU P fp)) (del (upd H p o) (PU P (p::fp))):=λ b u e=>by
 obtain⟨h1,h2⟩:=Al e;have hb:b≠p:=AO h2 hn;rw[AB λ z=>z.elim (λ z=>h1 (.inl z)) λ w=>(zab.mp w).elim hb λ w=>h1 (.inr w),Ai hb];exact h2
def HL (ha:wX X WX es fs)(hz:es.length<=1000:=by decide):DN X WX (.List es pos) (λ ρ=>(fs ρ).bind λ ts=>.ok (.lst ts)):=by
 obtain⟨ta,a1,a2,a3⟩:=ha;refine⟨_,Vh a1,λ P0 P σ H Q ρ E h=>?_⟩;dsimp only at h;refine a2 P0 P σ H _ ρ E ?_;cases q:fs ρ with
 |bad|ex y=>rw[q] at h;exact h
 |ok ts =>
  rw[q] at h;simp only[M.A8] at h;intro vs fp H1 s1 n1 df o1;have hP:=WR (E.same s1).BX o1;refine⟨zbo (AA (by rw[o1.len,a3 ρ ts q];exact hz)),λ p hp=>?_⟩;have ad:∀a∈fp,a≠p:=λ a ha z=>(o1.BX a ha).no (by rw[z];exact hp);exact h _ (p::fp) _ (s1.trans (AK hp _)) (λ a ha=>(zab.mp ha).elim (λ z=>by rw[z];exact Di s1 hp) (n1 a)) (zbc.mpr ⟨λ z=>ad p z rfl,df⟩) (.lst An (o1.move (rQ hp hP) λ a ha=>Ai (ad a ha)))
def WS (hn:H p=none)(hP:∀a,PU P fp a->ED H a):Aj (del H (PU P fp)) (del (upd H p o) (PU P fp)):=λ b u e=>by
 obtain⟨h1,h2⟩:=Al e;have hb:b≠p:=AO h2 hn;rw[AB h1,Ai hb];exact h2
def Om {x1}(ha:wX X WX es fs)(hz:es.length<=1000:=by decide):DN X WX (.Tuple es x1 pos) (λ ρ=>(fs ρ).bind λ ts=>.ok (.tup ts)):=by
 obtain⟨ta,a1,a2,a3⟩:=ha;refine⟨_,Vg a1,λ P0 P σ H Q ρ E h=>?_⟩;dsimp only at h;refine a2 P0 P σ H _ ρ E ?_;cases q:fs ρ with
 |bad|ex y=>rw[q] at h;exact h
 |ok ts =>
  rw[q] at h;simp only[M.A8] at h;intro vs fp H1 s1 n1 df o1;have hP:=WR (E.same s1).BX o1;refine⟨zbo (AA (by rw[o1.len,a3 ρ ts q];exact hz)),λ p hp=>?_⟩;have ad:∀a∈fp,a≠p:=λ a ha z=>(o1.BX a ha).no (by rw[z];exact hp);refine h _ fp _ (s1.trans (AK hp _)) n1 df (.tup ?_ (o1.move (WS hp hP) λ a ha=>Ai (ad a ha)));rw[AB λ z=>(hP p z).no hp];exact An
def Ak.ows {K}:∀ {xs:List V}{ds:List D},Ak K (del H P) xs ds->Av K H P xs (ds.map .sh) []:=by
 intro _ _ x_;cases x_ with
 |nil=>exact .nil
 |cons h t=>exact .cons (.sh h) t.ows
def Zf.Je {K}(h:Zf K WX P H Q (.ok (.lst (ds.map .sh))))(s1:Aj H H1)(hx:Ak K (del H1 P) xs ds):∀p,H1 p=none->Q (.ref p) (upd H1 p (.lst xs)):=λ p hp=>by
 have hn:∀a∈[p],H1 a=none:=λ a ha=>by rw[za9.mp ha];exact hp
 exact h _ [p] _ (s1.trans (AK hp _)) (λ a ha=>Di s1 (hn a ha)) (by simp) (.lst An (hx.mono (Ca (AK hp _) hn)).ows)
def Av.rR {K}:∀ {xs:List V}{ds:List D}{fp:List Addr},Av K H P xs (ds.map .sh) fp->fp=[]/\Ak K (del H P) xs ds
 |_,[],_,.nil=>⟨rfl,.nil⟩
 |_,d::ds,_,.cons (.sh h) r=>by
  obtain⟨rfl,q⟩:=Av.rR r;exact⟨rfl,.cons h q⟩
abbrev LM:Cl->Cl
 | .val d=>.val d
 | .own ds=>.val (.lst ds)
 | .ow (.rows Hq)=>.val (.lst (Hq.map D.lst))
 | .ow (.Nv _ ds)=>.val (.lst ds)
 | .ow (.tree _ t)=>.val (er t)
abbrev Fb (ρ:Ah):Ah:=ρ.map λ o=>o.map LM
@[simp] theorem cO:Fb []=[]:=rfl
@[simp] theorem Yb (ρ:Ah):Fb (none::ρ)=none::Fb ρ:=rfl
@[simp] theorem Yc (c:Cl) (ρ:Ah):Fb (some c::ρ)=some (LM c)::Fb ρ:=rfl
def Am.low {K}(E:Am K P0 P H σ ρ):Am K P0 P0 H σ (Fb ρ):=by
 have key:∀(i:Nat) (c:Cl),(Fb ρ)[i]?=some (some c)->∃c',ρ[i]?=some (some c')/\c=LM c':=λ i c h=>by
  unfold Fb at h;rw[zaw] at h;cases q:ρ[i]? with
  |none=>rw[q] at h;cases h
  |some o =>
   rw[q] at h;cases o with
   |none=>cases h
   |some c'=>cases h;exact⟨c',rfl,rfl⟩
 have p8:∀c,Gk (LM c)=false:=λ c=>by
  cases c with
  |val d|own ds=>rfl
  |ow o=>cases o<;>rfl
 have jo:∀c,QQ (LM c)=none:=λ c=>by
  cases c with
  |val d|own ds=>rfl
  |ow o=>cases o<;>rfl
 have w6:∀c v fp,¬ CU K H P0 (LM c) v fp:=λ c v fp h=>by
  cases c with
  |val d|own ds=>exact h
  |ow o=>cases o<;>exact h
 refine⟨λ _ h=>h,λ a h=>E.BX a (E.sub a h),λ i d h=>?_,λ i c h io=>?_,λ i j c c' v v' fp ag hi hj si sj h h' ad=>?_,by unfold Fb;rw[za2];exact E.len,λ i c n h hp=>by obtain⟨c',h1,rfl⟩:=key i _ h;rw[jo] at hp;cases hp⟩
 ·obtain⟨c,h1,h2⟩:=key i _ h;cases c with
  |val d' =>
   cases h2;obtain⟨v,q1,q2⟩:=E.val i d h1;exact⟨v,q1,q2.mono (CV E.sub)⟩
  |own ds =>
   cases h2;obtain⟨p,xs,q1,q2,q3,q4,q5⟩:=E.own i ds h1;exact⟨_,q1,.lst (.of (show del H P0 p=_ by rw[AB q4];exact q2)) (q5.mono (CV E.sub))⟩
  |ow o =>
   obtain⟨v,fp,q1,q2,q3,q4⟩:=E.ows i _ h1 rfl;cases o with
   |rows Hq =>
    cases h2;obtain⟨p,ps,rfl,rfl,q5,q6⟩:=q2;exact⟨_,q1,.lst (.of (show del H P0 p=_ by rw[AB (q3 p za3).2];exact q5)) (q6.rL E.sub λ a ha=>(q3 a (za4 _ ha)).2)⟩
   |Nv p ds =>
    cases h2;obtain⟨p,xs,rfl,rfl,q5,q6⟩:=q2;exact⟨_,q1,.lst (.of (show del H P0 p=_ by rw[AB (q3 p za3).2];exact q5)) (q6.mono (CV E.sub))⟩
   |tree p t =>
    cases h2;exact⟨_,q1,BS.has E.sub (λ a ha=>(q3 a ha).2) q2⟩
 ·obtain⟨c',h1,rfl⟩:=key i _ h;rw[p8] at io;cases io
 ·obtain⟨c1,h1,rfl⟩:=key i _ hi;exact (w6 _ _ _ h).elim
def cP (h:DE X WX c e f):DE X WX false e (λ ρ=>f (Fb ρ)):=by
 obtain⟨t,h1,h2⟩:=h;refine⟨t,h1,λ P0 P σ H Q ρ E g=>h2 P0 P0 σ H Q (Fb ρ) E.low ?_⟩;have e:Lv c P0 P0=P0:=by cases c<;>rfl
 rw[e];exact g
def HM (h:DT X WX e ft):DT X WX e (λ ρ=>ft (Fb ρ)):=by
 obtain⟨t,h1,h2⟩:=h;exact⟨t,h1,λ P0 P σ H Q ρ E g=>h2 P0 P0 σ H Q (Fb ρ) E.low g⟩
mutual
noncomputable def Km:OT->Bool
 | .sh d=>MT d
 | .lst ts| .tup ts| .BN _ _ ts| .ins _ _ ts=>Kn ts
noncomputable def Kn:List OT->Bool
 |[]=>true
 |t::r=>Km t&&Kn r
end
mutual
theorem BS.clean {K:za1}{H:Hp}{P P':Addr->Prop}(ht:∀a,P' a->ED H a):∀ {v:V}{t:OT}{fp:List Addr},Km t=true->BS K H P v t fp->BS K H P' v t fp:=by
 intro _ _ _ n x_;cases x_ with
 |sh h=>exact .sh (h.MT ht (by rw[Km] at n;exact n))
 |lst h r=>exact .lst h (Av.clean ht (by rw[Km] at n;exact n) r)
 |tup h r=>exact .tup (WN ht h) (Av.clean ht (by rw[Km] at n;exact n) r)
 |dK h r=>exact .dK h (Av.clean ht (by rw[Km] at n;exact n) r)
 |dT h r=>exact .dT h (Av.clean ht (by rw[Km] at n;exact n) r)
 |ins x h r=>exact .ins x h (Av.clean ht (by rw[Km] at n;exact n) r)
theorem Av.clean {K:za1}{H:Hp}{P P':Addr->Prop}(ht:∀a,P' a->ED H a):∀ {v:List V}{t:List OT}{fp:List Addr},Kn t=true->Av K H P v t fp->Av K H P' v t fp:=by
 intro _ _ _ n x_;cases x_ with
 |nil=>exact .nil
 |cons h r =>
  rw[Kn,zb4] at n;exact .cons (BS.clean ht n.1 h) (Av.clean ht n.2 r)
end
abbrev Zg (m:M OT):M OT:=m.bind λ t=>if Km t=true then .ok t else .bad
def Fw (h:DN X WX e fn):DN X WX e (λ ρ=>Zg (fn (Fb ρ))):=by
 obtain⟨t,h1,h2⟩:=h;refine⟨t,h1,λ P0 P σ H Q ρ E g=>h2 P0 P0 σ H Q (Fb ρ) E.low ?_⟩;unfold Zg at g;dsimp only at g;cases q:fn (Fb ρ) with
 |bad|ex x=>rw[q] at g;exact g
 |ok t =>
  rw[q] at g;simp only[M.A8] at g;by_cases hf:Km t=true
  ·rw[if_pos hf] at g;exact λ v fp H' s hn nd o=>g v fp H' s hn nd (o.clean (Gs (E.same s).BX o) hf)
  ·rw[if_neg hf] at g;exact g.elim
abbrev Je (d:D):M OT:=match d with
 | .lst ds| .tup ds=>.ok (.lst (ds.map .sh))
 |_=>.bad
def Em (hg:Gl X "list")(hm:X.mg "list" = none)(ha:DE X WX true e f)(hb:bootBuiltins "list" = some (.type "list"):=by decide +kernel)(a7: ~~~(starEach [e] X.env=[(false,eval e X.env)])):
 DN X WX (.Call (.Name "list" p) [e] [] pos) (λ ρ=>(f ρ).bind Je):=by
 obtain⟨ta,a1,a2⟩:=ha;refine⟨_,Lu RO hg hm hb (Bc a1 Cd a7) (he:=a7),λ P0 P σ H Q ρ E h=>?_⟩;dsimp only at h;refine a2 P0 P σ H _ ρ E ?_;refine XR h λ d h=>?_;intro v H1 s1 hv;unfold Je at h;split at h
 ·cases hv with
  |lst hs hh=>exact⟨_,_,rfl,.inl hs.Bf,h.Je s1 hh⟩
 ·cases hv with
  |tup hs hh=>exact⟨_,_,rfl,.inr (Fq.of (Al hs).2),h.Je s1 hh⟩
 ·exact h.elim
abbrev OpN (K:za1)(WX:Str->Hp->Prop)(r:R2)(aK:D->D->M OT):Prop:=
 ∀(P:Addr->Prop) (H:Hp) (x y:D) (v w:V) (Q:VK),(∀a,P a->ED H a)->BF K (del H P) v x->BF K (del H P) w y->Zf K WX P H Q (aK x y)->r v w H Q
def wY (ha:∀P0 P σ H Q ρ,Am X.K P0 P H σ ρ->gV X.K WX (Lv true P0 P) H Q (f ρ)->ta σ H Q)(hb:∀P0 P σ H Q ρ,Am X.K P0 P H σ ρ->gV X.K WX (Lv true P0 P) H Q (g ρ)->tb σ H Q)(hr:OpN X.K WX r aK)(E:Am X.K P0 P H σ ρ)(h:Zf X.K WX P H Q ((f ρ).bind λ x=>(g ρ).bind λ y=>aK x y)):uH r ta tb σ H Q:=by
 refine ha P0 P σ H _ ρ E ?_;cases e:f ρ with
 |bad|ex x=>rw[e] at h;exact h
 |ok x =>
  rw[e] at h;intro v H1 s1 hv;refine hb P0 P σ H1 _ ρ (E.same s1) ?_;cases e2:g ρ with
  |bad=>rw[e2] at h;exact h
  |ex y=>rw[e2] at h;exact λ H' s=>h H' (s1.trans s)
  |ok y =>
   rw[e2] at h;intro w H2 s2 hw;exact hr _ H2 x y v w Q ((E.same s1).same s2).BX (hv.mono s2.del) hw ((h.same s1).same s2)
abbrev Ko (x y:D):M OT:=match x,y with
 | .lst a,.lst b=>if a.length+b.length<=1000 then .ok (.lst ((a++b).map .sh)) else .bad
 |_,_=>.bad
abbrev spT (K:za1)(n:Nat)(F:List D->M OT):Sp:=λ vs H Q E=>vs.length=n/\∃P ds,(∀a,P a->ED H a)/\Ak K (del H P) vs ds/\Zf K (CC K E) P H Q (F ds)
abbrev wZ:Cl->M OT
 | .val d=>.ok (.sh d)
 | .own ds=>.ok (.lst (ds.map .sh))
 | .ow (.rows Hq)=>.ok (.lst (Hq.map λ ds=>.lst (ds.map .sh)))
 | .ow (.Nv _ _)=>.bad
 | .ow (.tree none t)=>.ok t
 | .ow (.tree (some _) _)=>.bad
abbrev TJ (m:M Out):M OT:=match m with
 | .ok (.ret d)=>.ok (.sh d)
 | .ok (.Cq c)=>wZ c
 | .ok (.next _)=>.ok (.sh .Ax)
 | .ex x=>.ex x
 |_=>.bad
def CW.ows {K}:∀ {ps:List Addr}{Hq:List (List D)},CW K H P ps Hq->Av K H P (ps.map V.ref) (Hq.map λ ds=>.lst (ds.map .sh)) ps:=by
 intro _ _ x_;cases x_ with
 |nil=>exact .nil
 |cons h r t=>exact .cons (.lst h r.ows) t.ows
def CU.tree {K}{c}(h:CU K H P c v fp)(e:wZ c=.ok t):BS K H P v t fp:=by
 cases c with
 |val d=>exact h.elim
 |own ds =>
  cases e;obtain⟨p,xs,rfl,rfl,h1,h2⟩:=h;exact .lst h1 h2.ows
 |ow o =>
  cases o with
  |rows Hq =>
   cases e;obtain⟨p,ps,rfl,rfl,h1,h2⟩:=h;exact .lst h1 h2.ows
  |Nv p ds=>cases e
  |tree p t' =>
   cases p with
   |none=>cases e;exact h
   |some q=>cases e
section
variable {P:Program}{w:World}{K:za1}
def WT {P}{c}(h:Zf K WX P H Q (wZ c))(t:Tr P P H P2 H')(hs:∀a,P a->P2 a)(ho:CU K H' P2 c v fp)(hp:∀a∈fp,P2 a/\¬ P a)(nd:fp.Nodup):Q v H':=by
 cases q:wZ c with
 |bad=>rw[q] at h;exact h.elim
 |ex x=>cases c with
  |val d|own ds=>cases q
  |ow o =>
   cases o with
   |rows Hq|Nv p ds=>cases q
   |tree p t'=>cases p<;>cases q
 |ok u =>
  rw[q] at h;have o:=ho.tree q;refine h v fp H' (Cv t) (λ a ha=>rP t (hp a ha).1 (hp a ha).2) nd (o.move (CV λ a ha=>ha.elim (hs a) λ z=>(hp a z).1) λ _ _=>rfl)
def xA {st}{f}(F:Ze K x qual st f fd)(S:Ac N ps (A3 st))(g:Ah->M Out)(hb:∀(AX:Value) (A:Around) (outer:List Env) (s:Shared) (H:Hp) (E:XK),Bm k (A.deeper (envOfC qual (A3 st) s.heap.objs.size f AX))->SR (iG P w K mg base N qual (A3 st) f AX A outer s H E) (CC K E) (Az st) g):
 Cw P w K mg base (Q7 P w base) (k+1) f fd ps (spT K ps.length λ ds=>TJ (g (CN N ds))):=by
 obtain⟨oc,od,kV,doc,pm,an,AX,ct,Ta,rfl,lk,aO⟩:=F.ex;refine T9 lk aO S (λ vs H Q E h=>h.1) λ A outer s H vs Q E hr h=>?_;obtain⟨hl,P',ds,ht,hv,hq⟩:=h;obtain⟨t,h1,h2⟩:=hb AX A outer s H E hr;refine⟨t,h1,h2 ⟨P',λ _=>0⟩ P' _ H _ _ (LF ht hv) ?_⟩;dsimp only at hq;revert hq;cases g (CN N ds) with
 |bad=>exact λ h=>h.elim
 |ex x=>exact λ h H' P2 t=>h H' (Cv t)
 |ok o =>
  cases o with
  |ret d=>exact λ h v H' P2 t hv=>h v [] H' (Cv t) (λ a ha=>by cases ha) zbr (.sh (by rw[Ol];exact hv))
  |next ρ=>exact λ h σ' H' P2 t E=>h .Ax [] H' (Cv t) (λ a ha=>by cases ha) zbr (.sh .Ax)
  |brk ρ|cont ρ=>exact λ h=>h.elim
  |Cq c=>exact λ h v fp H' P2 t hs ht ho hp nd=>WT h t hs ho hp nd
  |Fv d ρ=>exact λ h=>h.elim
end
structure nV (P:Program)(w:World)(K:za1)(mg:Str->Option Value)(base:Heap)(x:Str)(k n:Nat)(F:List D->M OT):Prop where
 ex:∃fa fd ps,Cw P w K mg base (Q7 P w base) k fa fd ps (spT K n F)/\mg x=some (.ref fa)/\zbd K (.ref fa)=true/\Binds K fd ps []
def As {P}{K}{st}(T:AJ K mg x st ps)(S:Ac N ps (A3 st))(g:Ah->M Out)(hb:∀(f:Addr) (AX:Value) (A:Around) (outer:List Env) (s:Shared) (H:Hp) (E:XK),Bm k (A.deeper (envOfC x (A3 st) s.heap.objs.size f AX))->SR (iG P w K mg base N x (A3 st) f AX A outer s H E) (CC K E) (Az st) g)(hn: ~~~(ps.length=n)):
 nV P w K mg base x (k+1) n (λ ds=>TJ (g (CN N ds))):=by
 obtain⟨f,fd,F,hm,hB⟩:=T.ex;subst hn;exact⟨⟨f,fd,ps,xA F S g (hb f),hm,F.kp,hB⟩⟩
section
variable {fs:Ah->M (List D)}
def Aa (xo:FN X E)(G:nV X.prog X.w X.K X.mg X.base x k n F)(hr:Bm k X.A)(hg:Gl X x)(ha:DA X (CC X.K E) true (e::es) fs)(hn:(e::es).length=n)(aI:(x==("__debug__" : Str))=false:=by decide)(he: ~~~(starEach (e::es) X.env=(false,eval e X.env)::starEach es X.env))(hpl: ~~~((backTo pos (starEach es X.env)).any (·.1)=false)):
 DN X (CC X.K E) (.Call (.Name x p) (e::es) [] pos) (λ ρ=>(fs ρ).bind F):=by
 obtain⟨fa,fd,ps,hF,hm,hk,hb⟩:=G.ex;obtain⟨ta,a1,a2,a3⟩:=ha;refine⟨_,Wu hF hr hg hm hk hb .nil xo.call a1 aI he hpl,λ P0 P σ H Q ρ E h=>?_⟩;dsimp only at h;refine a2 P0 P σ H _ ρ E ?_;cases q:fs ρ with
 |bad|ex x=>rw[q] at h;exact h
 |ok ds =>
  rw[q] at h;simp only[M.A8] at h;intro vs H1 s1 ay;rw[zbi];exact⟨by rw[ay.length,a3 ρ ds q];exact hn,P,ds,(E.same s1).BX,ay,h.same s1⟩
def Cj (h:DN X WX e fn):DN X (λ _ _=>False) e fn:=by
 obtain⟨t,h1,h2⟩:=h;refine⟨t,h1,λ P0 P σ H Q ρ E g=>h2 P0 P σ H Q ρ E ?_⟩;cases q:fn ρ with
 |bad=>rw[q] at g;exact g
 |ex x=>rw[q] at g;exact (g H (Aj.refl H)).elim
 |ok t=>rw[q] at g;exact g
abbrev Yd (t:OT):M Out:=match t with
 | .sh d=>.ok (.ret d)
 |t=>.ok (.Cq (.ow (.tree none t)))
end
def Am.xB {K}(E:Am K P0 P H σ ρ)(s:Aj H H')(hn:∀a∈fp,H a=none):Tr P0 P H (PU P fp) H':=
 ⟨Ca s hn,λ a ha=>by obtain⟨o,q,_⟩:=E.BX a (E.sub a ha);rw[q];exact s _ _ q⟩
def Ae (ha:DN X WX e fn):DS X WX (.Return (some e) pos) (λ ρ=>(fn ρ).bind Yd):=by
 obtain⟨ta,a1,a2⟩:=ha;refine⟨_,RI a1,λ P0 P σ H Z ρ E h=>?_⟩;dsimp only at h;refine a2 P0 P σ H _ ρ E ?_;refine iF h E λ t h=>?_;intro v fp H' s hn nd o;have key:gS X.K WX P0 P H Z (.ok (.Cq (.ow (.tree none t))))->Z.rt v H':=λ h =>
  h v fp H' (PU P fp) (E.xB s hn) (λ a ha=>.inl (E.sub a ha)) (Gs (E.same s).BX o) o (λ a ha=>⟨.inr ha,λ z=>(E.BX a (E.sub a z)).no (hn a ha)⟩) nd
 cases t with
 |sh d =>
  cases o with
  |sh hv=>exact h v H' P (E.tr s) (hv.mono (CV λ a ha=>.inl (E.sub a ha)))
 |lst ts|tup ts|BN b ks ts|ins x ns ts=>exact key h
abbrev EH:List OT->Option (List D)
 |[]=>some []
 | .sh d::r=>(EH r).map (d::·)
 |_::_=>none
def CP:∀ds:List D,EH (ds.map .sh)=some ds
 |[]=>rfl
 |d::r=>by rw[za6,EH,CP r];rfl
def Dj:∀ {ts:List OT}{ds:List D},EH ts=some ds->ts=ds.map .sh
 |[],ds,h=>by cases h;rfl
 | .sh d::r,ds,h=>by
  rw[EH] at h;cases q:EH r with
  |none=>rw[q] at h;cases h
  |some es=>rw[q] at h;cases h;rw[za6,<-Dj q]
 | .lst _::r,ds,h| .tup _::r,ds,h| .BN _ _ _::r,ds,h| .ins _ _ _::r,ds,h=>by cases h
abbrev toCl (p:Option Nat)(t:OT):Cl:=match t with
 | .lst ts=>(match EH ts with
  |some ds=>(match p with|none=>.own ds|some q=>.ow (.Nv q ds))
  |none=>.ow (.tree p (.lst ts)))
 |t=>.ow (.tree p t)
@[simp] theorem toCl_list (ds:List D):toCl none (.lst (ds.map .sh))=.own ds:=by unfold toCl;simp only[CP]
@[simp] theorem toCl_listP (q:Nat) (ds:List D):toCl (some q) (.lst (ds.map .sh))=.ow (.Nv q ds):=by unfold toCl;simp only[CP]
@[simp] theorem toCl_dct (p:Option Nat) (b:Bool) (ks:List D) (ts:List OT):toCl p (.BN b ks ts)=.ow (.tree p (.BN b ks ts)):=rfl
abbrev treeOf:Cl->Option (Option Nat×OT)
 | .own ds=>some (none,.lst (ds.map .sh))
 | .ow (.Nv p ds)=>some (some p,.lst (ds.map .sh))
 | .ow (.rows Hq)=>some (none,.lst (Hq.map λ ds=>.lst (ds.map .sh)))
 | .ow (.tree p t)=>some (p,t)
 | .val _=>none
def CU.toT {K}{c}(h:CU K H P c v fp)(e:treeOf c=some (p,t)):BS K H P v t fp:=by
 cases c with
 |val d=>exact h.elim
 |own ds =>
  cases e;obtain⟨p,xs,rfl,rfl,h1,h2⟩:=h;exact .lst h1 h2.ows
 |ow o =>
  cases o with
  |rows Hq =>
   cases e;obtain⟨p,ps,rfl,rfl,h1,h2⟩:=h;exact .lst h1 h2.ows
  |Nv p ds =>
   cases e;obtain⟨p,xs,rfl,rfl,h1,h2⟩:=h;exact .lst h1 h2.ows
  |tree p t'=>cases e;exact h
def CU.toCl {K:za1}{H:Hp}{P:Addr->Prop}{v:V}{fp:List Addr}{p:Option Nat}{t:OT}(h:BS K H P v t fp):CU K H P (toCl p t) v fp:=by
 unfold L2.toCl;split
 ·rename_i ts;cases q:EH ts with
  |none=>exact h
  |some ds =>
   have e:=Dj q;subst e;cases h with
   |lst h1 h2 =>
    obtain⟨rfl,h3⟩:=h2.rR;cases p with
    |none|some q=>exact⟨_,_,rfl,rfl,h1,h3⟩
 ·exact h
def Gu (p:Option Nat)(t:OT):QQ (toCl p t)=p:=by
 unfold toCl;split
 ·rename_i ts;cases q:EH ts with
  |none|some ds=>cases p<;>rfl
 ·cases p<;>rfl
def JR {c}(h:treeOf c=some (p,t)):QQ c=p:=by
 cases c with
 |val d=>cases h
 |own ds=>cases h;rfl
 |ow o =>
  cases o with
  |rows Hq|Nv p ds=>cases h;rfl
  |tree p t=>cases h;cases p<;>rfl
abbrev Qm (i:Nat)(ρ:Ah)(t:OT):M Out:=match t with
 | .sh d=>.ok (.next (ρ.set i (some (.val d))))
 |t=>.ok (.next (ρ.set i (some (toCl none t))))
def nW {K}(E:Am K P0 P H σ ρ)(s:Aj H H')(hn:∀a∈fp,H a=none)(nd:fp.Nodup)(o:BS K H' (PU P fp) v t fp)(h:gS K WX P0 P H Z (Qm i ρ t)):Z.nx (σ.set i (some v)) H':=by
 have key:gS K WX P0 P H Z (.ok (.next (ρ.set i (some (toCl none t)))))->Z.nx (σ.set i (some v)) H':=λ h=>by
  refine h _ H' (PU P fp) (E.xB s hn) (E.jV LL (Gs (E.same s).BX o) (Ca s hn) (λ j c' v' ag ad g1 g2 g3 a ha=>?_) (CU.toCl o) (λ a ha=>⟨.inr ha,λ z=>(E.BX a (E.sub a z)).no (hn a ha)⟩) nd (λ n z=>by rw[Gu] at z;cases z));obtain⟨xs,z⟩:=g3.at a ha;exact⟨by rw[z];exact s _ _ z,λ w=>by rw[hn a w] at z;cases z⟩
 cases t with
 |sh d =>
  cases o with
  |sh hv=>exact h _ H' P (E.tr s) ((E.same s).Vv (by rw[Ol] at hv;exact hv))
 |lst ts|tup ts|BN b ks ts|ins x ns ts=>exact key h
def C3 (i:Nat)(hN:X.N.Nodup)(hi:X.N[i]?=some x)(hx:Loc X.env.scope x)(ha:DN X WX e fn)(hs: ~~~(swapsWith e (some (.Name x pos')) pos.line X.env=pure false))(hf:X.fn x=true\/X.env.scope.names.lookup x=some .local:=by first | exact .inl rfl | exact .inr rfl | assumption):
 DS X WX (.Assign [.Name x pos'] e pos) (λ ρ=>(fn ρ).bind (Qm i ρ)):=by
 obtain⟨ta,a1,a2⟩:=ha;refine⟨_,V6 hN hi hx a1 hs hf,λ P0 P σ H Z ρ E h=>?_⟩;dsimp only at h;refine a2 P0 P σ H _ ρ E ?_;cases q:fn ρ with
 |bad=>rw[q] at h;exact h
 |ex x=>rw[q] at h;exact λ H' s=>h H' P (E.tr s)
 |ok t =>
  rw[q] at h;exact λ v fp H' s hn nd o=>nW E s hn nd o h
abbrev VB (i:Nat)(ρ:Ah):M Out:=match ρ[i]? with
 |some (some (.val d))=>.ok (.ret d)
 |some (some c)=>.ok (.Cq c)
 |_=>.bad
def En (i:Nat)(hv:PE X (.Name x p1) (Qf i)):DS X WX (.Return (some (.Name x p1)) pos) (VB i):=by
 refine⟨_,RI hv,λ P0 P σ H Z ρ E h=>?_⟩;unfold VB at h;split at h
 ·rename_i d e1;obtain⟨v,h1,h2⟩:=E.val i d e1;exact⟨v,h1,h v H P Tr.refl (h2.mono (CV E.sub))⟩
 ·rename_i c hc e1;have io:Gk c=true:=by
   cases c with
   |val d=>exact (hc d rfl).elim
   |own ds|ow o=>rfl
  obtain⟨v,fp,h1,h2,h3,h4⟩:=E.ows i _ e1 io;exact⟨v,h1,h v fp H P Tr.refl E.sub E.BX h2 h3 h4⟩
 ·exact h.elim
def LN:∀ds:List D,XS (ds.map .sh)=ds
 |[]=>rfl
 |d::r=>by rw[za6,XS,er,LN r]
abbrev cQ (i:Nat)(ρ:Ah):Ah:=match ρ[i]? with
 |some (some c)=>ρ.set i (some (LM c))
 |_=>ρ
section
variable {K:za1}
def Cs.same (e:Aj H H')(h:Cs K H P v t q xs):Cs K H' P v t q xs:=by
 cases t with
 |sh d=>exact h.elim
 |lst ts=>obtain⟨p,rfl,rfl,h⟩:=h;exact⟨p,rfl,rfl,e _ _ h⟩
 |tup ts=>obtain⟨p,rfl,rfl,h⟩:=h;exact⟨p,rfl,rfl,e.del _ _ h⟩
 |BN b ks ts =>
  cases b with
  |false|true=>obtain⟨p,kvs,rfl,rfl,h,rfl,rfl⟩:=h;exact⟨p,kvs,rfl,rfl,e _ _ h,rfl,rfl⟩
 |ins x ns ts=>obtain⟨p,C,dx,fs,rfl,rfl,n,h,rfl,rfl⟩:=h;exact⟨p,C,dx,fs,rfl,rfl,n,e _ _ h,rfl,rfl⟩
def HK.same (e:Aj H H')(h:HK K H P v t π v1 t1):HK K H' P v t π v1 t1:=by
 induction h with
 |nil=>exact .nil
 |cons n hx hs _ ih=>exact .cons (n.same e) hx hs ih
def Cs.more (sm:Aj (del H P) (del H' P'))(e:Aj H H')(h:Cs K H P v t q xs):Cs K H' P' v t q xs:=by
 cases t with
 |sh d=>exact h.elim
 |lst ts=>obtain⟨p,rfl,rfl,h⟩:=h;exact⟨p,rfl,rfl,e _ _ h⟩
 |tup ts=>obtain⟨p,rfl,rfl,h⟩:=h;exact⟨p,rfl,rfl,sm _ _ h⟩
 |BN b ks ts =>
  cases b with
  |false|true=>obtain⟨p,kvs,rfl,rfl,h,rfl,rfl⟩:=h;exact⟨p,kvs,rfl,rfl,e _ _ h,rfl,rfl⟩
 |ins x ns ts=>obtain⟨p,C,dx,fs,rfl,rfl,n,h,rfl,rfl⟩:=h;exact⟨p,C,dx,fs,rfl,rfl,n,e _ _ h,rfl,rfl⟩
def HK.more (sm:Aj (del H P) (del H' P'))(e:Aj H H')(h:HK K H P v t π v1 t1):HK K H' P' v t π v1 t1:=by
 induction h with
 |nil=>exact .nil
 |cons n hx hs _ ih=>exact .cons (n.more sm e) hx hs ih
end
abbrev VC (i:Nat)(ρ:Ah)(π:List Nat):Option OT:=match ρ[i]? with
 |some (some c)=>(match treeOf c with|some (_,t)=>LK t π|none=>none)
 |_=>none
structure Bi (K:za1)(P:Addr->Prop)(H:Hp)(σ:St)(ρ:Ah)(i:Nat)(π:List Nat)(v:V)(t1:OT):Prop where
 ex:∃v0 c p t,ρ[i]?=some (some c)/\treeOf c=some (p,t)/\σ[i]?=some (some v0)/\HK K H P v0 t π v t1
def Bi.at {K}(h:Bi K P H σ ρ i π v t1):VC i ρ π=some t1:=by
 obtain⟨v0,c,p,t,h1,h2,h3,h4⟩:=h.ex;unfold VC;simp only[h1,h2];exact h4.sub
def Bi.same {K}(e:Aj H H')(h:Bi K P H σ ρ i π v t1):Bi K P H' σ ρ i π v t1:=by
 obtain⟨v0,c,p,t,h1,h2,h3,h4⟩:=h.ex;exact⟨v0,c,p,t,h1,h2,h3,h4.same e⟩
def Bi.more {K}(sm:Aj (del H P) (del H' P'))(e:Aj H H')(h:Bi K P H σ ρ i π v t1):Bi K P' H' σ ρ i π v t1:=by
 obtain⟨v0,c,p,t,h1,h2,h3,h4⟩:=h.ex;exact⟨v0,c,p,t,h1,h2,h3,h4.more sm e⟩
def Bi.own {K}(h:Bi K P H σ ρ i π v t1)(E:Am K P0 P H σ ρ):∃ap,BS K H P v t1 ap/\(∀a∈ap,P a/\¬ P0 a)/\ap.Nodup:=by
 obtain⟨v0,c,p,t,h1,h2,h3,h4⟩:=h.ex;have io:Gk c=true:=by cases c<;>first|rfl|cases h2
 obtain⟨w,fp,k1,k2,k3,k4⟩:=E.ows i c h1 io;rw[h3] at k1;cases k1;obtain⟨ap,o1,hk,kn⟩:=(k2.toT h2).part h4;exact⟨ap,o1,λ a ha=>k3 a (hk a ha),kn k4⟩
abbrev gP (K:za1)(WX:Str->Hp->Prop)(P:Addr->Prop)(H:Hp)(σ:St)(ρ:Ah)(i:Nat)(Q:VK):M (List Nat)->Prop
 | .ok π=>∀v t1 H',Aj H H'->Bi K P H' σ ρ i π v t1->Q v H'
 | .ex x=>∀H',Aj H H'->WX x H'
 | .bad=>False
abbrev DP (X:Cx)(WX:Str->Hp->Prop)(e:Expr)(i:Nat)(f:Ah->M (List Nat)):Prop:=
 ∃t,PE X e t/\∀P0 P σ H Q ρ,Am X.K P0 P H σ ρ->gP X.K WX P H σ ρ i Q (f ρ)->t σ H Q
section
variable {fp:Ah->M (List Nat)}{i:Nat}
abbrev TK (i:Nat)(ρ:Ah):M (List Nat):=match VC i ρ [] with | some _=>.ok [] | none=>.bad
def Bg (i:Nat)(hv:PE X (.Name x p1) (Qf i)):DP X WX (.Name x p1) i (TK i):=by
 refine⟨_,hv,λ P0 P σ H Q ρ E h=>?_⟩;unfold TK at h;split at h
 ·rename_i t e;unfold VC at e;split at e
  ·rename_i cl e1;split at e
   ·rename_i p t0 e2;have io:Gk cl=true:=by cases cl<;>first|rfl|cases e2
    obtain⟨v,fp,h1,h2,h3,h4⟩:=E.ows i cl e1 io;exact⟨v,h1,h v t0 H (Aj.refl H) ⟨v,cl,p,t0,e1,e2,h1,.nil⟩⟩
   ·cases e
  ·cases e
 ·exact h.elim
abbrev rS (i:Nat)(ρ:Ah)(π:List Nat)(d:D):M (List Nat):=match VC i ρ π,d with
 |some (.lst ts),.int j|some (.tup ts),.int j=>(match Wv ts.length j with|some k=>.ok (π++[k])|none=>.bad)
 |_,_=>.bad
def ND (ha:DP X WX a i fp)(hb:DE X WX true b g)(hs:Nu b:=by exact λ _ _=>rfl):DP X WX (.Subscript a b pos) i (λ ρ=>(fp ρ).bind λ π=>(g ρ).bind (rS i ρ π)):=by
 obtain⟨ta,a1,a2⟩:=ha;obtain⟨tb,b1,b2⟩:=hb;refine⟨_,nL (Wy.or ZN) a1 b1 hs,λ P0 P σ H Q ρ E h=>?_⟩;dsimp only at h;refine a2 P0 P σ H _ ρ E ?_;cases q:fp ρ with
 |bad|ex x=>rw[q] at h;exact h
 |ok π =>
  rw[q] at h;simp only[M.A8] at h;intro v t1 H1 s1 pl;refine b2 P0 P σ H1 _ ρ (E.same s1) ?_;cases q2:g ρ with
  |bad=>rw[q2] at h;exact h
  |ex y=>rw[q2] at h;exact λ H' s=>h H' (s1.trans s)
  |ok d =>
   rw[q2] at h;simp only[M.A8] at h;intro w H2 s2 hw;have E2:=(E.same s1).same s2;have bu:=pl.same s2;obtain⟨ap,o1,_⟩:=bu.own E2;unfold rS at h;rw[bu.at] at h;obtain⟨v0,c,p,t,k1,k2,k3,k4⟩:=bu.ex;split at h
   ·rename_i ts j e;cases e;split at h
    ·rename_i k hk;cases o1 with
     |lst hh hr =>
      have hx:∃s,ts[k]?=some s:=⟨_,za7 (cM hk)⟩;obtain⟨s,hs⟩:=hx;obtain⟨x,hx⟩:=hr.exV hs;refine .inl ⟨_,_,j,x,rfl,hw.int_inv,.of hh,?_,h x s H2 (s1.trans s2) ⟨v0,c,p,t,k1,k2,k3,k4.snoc (q:=[_]) (xs:=_) ⟨_,rfl,rfl,hh⟩ hx hs⟩⟩;unfold V2;rw[hr.len,hk];exact hx
    ·exact h.elim
   ·rename_i ts j e;cases e;split at h
    ·rename_i k hk;cases o1 with
     |tup hh hr =>
      have hx:∃s,ts[k]?=some s:=⟨_,za7 (cM hk)⟩;obtain⟨s,hs⟩:=hx;obtain⟨x,hx⟩:=hr.exV hs;refine .inr ⟨_,_,j,x,rfl,hw.int_inv,.of (Al hh).2,?_,h x s H2 (s1.trans s2) ⟨v0,c,p,t,k1,k2,k3,k4.snoc (q:=[]) (xs:=_) ⟨_,rfl,rfl,hh⟩ hx hs⟩⟩;unfold V2;rw[hr.len,hk];exact hx
    ·exact h.elim
   ·exact h.elim
abbrev aaG (i:Nat)(ρ:Ah)(π:List Nat):M D:=match VC i ρ π with
 |some (.sh d)=>.ok d
 |_=>.bad
def Am.xC {K}(E:Am K P0 P H σ ρ)(pl:Bi K P H σ ρ i π v1 t1)(o:BS K H P v1 t1 ap)(hs:∀a,P a->P' a)(ht:∀a,P' a->ED H' a)(sm:Aj (del H P) (del H' P'))(keep:∀a,P a->a∉ap->H' a=H a)(o':BS K H' P' v1 u fu)(nd:fu.Nodup)(hf:∀a∈fu,a∈ap\/(P' a/\¬ P0 a/\∀(j:Nat) c v fp,ρ[j]?=some (some c)->σ[j]?=some (some v)->CU K H P c v fp->a∉fp)):
 ∃c p t,ρ[i]?=some (some c)/\treeOf c=some (p,t)/\Am K P0 P' H' σ (ρ.set i (some (toCl p (EG t π u))))/\Tr P0 P H P' H':=by
 obtain⟨v0,c,p,t,h1,h2,h3,h4⟩:=pl.ex;have io:Gk c=true:=by cases c<;>first|rfl|cases h2
 obtain⟨w,fp,k1,k2,k3,k4⟩:=E.ows i c h1 io;rw[h3] at k1;cases k1;have ot:=k2.toT h2;obtain⟨fz,oz,kz,_⟩:=ot.part h4;have:=oz.C5 o;subst this;obtain⟨ag,q1,q2,q3⟩:=ot.put sm h4 o o' (λ a ha hn=>keep a (k3 a ha).1 hn) k4 nd (λ a ha hb=>(hf a ha).elim id λ z=>(z.2.2 i c v0 fp h1 h3 k2 hb).elim);refine⟨c,p,t,h1,h2,?_,sm,λ a ha=>keep a (E.sub a ha) λ z=>(k3 a (kz a z)).2 ha⟩;have key:=E.jV (P':=P') (H':=H') (i:=i) (v:=v0) (c:=toCl p (EG t π u)) (fp:=ag) hs ht sm (λ j c' v' fq ad g1 g2 g3 a ha=>?_) (CU.toCl q1) (λ a ha=>?_) q2 (λ n z=>by rw[Gu] at z;subst z;have:=E.pin i c n h1 (JR h2);rw[h3] at this;cases this;rfl)
 ·rw[RY h3] at key;exact key
 ·have p9:a∉fp:=E.apart j i c' c v' v0 fq fp g1 h1 g2 h3 g3 k2 (zbl ad) a ha;have jp:Gk c'=true:=by cases c'<;>first|rfl|exact g3.elim
  obtain⟨w',fr,m1,m2,m3,m4⟩:=E.ows j c' g1 jp;rw[g2] at m1;cases m1;have:=m2.C5 g3;subst this;refine⟨keep a (m3 a ha).1 λ z=>p9 (kz a z),λ z=>?_⟩;rcases q3 a z with y|y
  ·rcases hf a y with x|x
   ·exact p9 (kz a x)
   ·exact x.2.2 j c' v' fr g1 g2 g3 ha
  ·exact p9 y.1
 ·rcases q3 a ha with y|y
  ·rcases hf a y with x|x
   ·exact⟨hs a (k3 a (kz a x)).1,(k3 a (kz a x)).2⟩
   ·exact⟨x.1,x.2.1⟩
  ·exact⟨hs a (k3 a y.1).1,(k3 a y.1).2⟩
def Am.kH {K}(E:Am K P0 P H σ ρ)(pl:Bi K P H σ ρ i π (.ref l) (.lst ts))(hH:H l=some (.lst xs))(o:Av K H P xs ts fq)(o':Av K H P ys us fu)(nd:fu.Nodup)(hl:l∉fu)(hf:∀a∈fu,a∈fq\/(P a/\¬ P0 a/\∀(j:Nat) c v fp,ρ[j]?=some (some c)->σ[j]?=some (some v)->CU K H P c v fp->a∉fp)):
 ∃c p t,ρ[i]?=some (some c)/\treeOf c=some (p,t)/\Am K P0 P (upd H l (.lst ys)) σ (ρ.set i (some (toCl p (EG t π (.lst us)))))/\Tr P0 P H P (upd H l (.lst ys)):=by
 have ot:BS K H P (.ref l) (.lst ts) (l::fq):=.lst hH o;obtain⟨ap,o1,hp,_⟩:=pl.own E;have:=o1.C5 ot;subst this;have pP:P l:=(hp l za3).1;have sd:del (upd H l (.lst ys)) P=del H P:=by
  funext b;by_cases hb:P b
  ·rw[Gj hb,Gj hb]
  ·rw[AB hb,AB hb,Ai (λ z=>hb (by rw[z];exact pP))]
 have sm:Aj (del H P) (del (upd H l (.lst ys)) P):=by rw[sd];exact Aj.refl _
 refine E.xC pl ot (λ _ h=>h) (λ a h=>?_) sm (λ a ha hn=>Ai λ z=>hn (by rw[z];exact za3)) (.lst An (o'.move sm λ a ha=>Ai λ z=>hl (by rw[<-z];exact ha))) (zbc.mpr ⟨hl,nd⟩) (λ a ha=>?_)
 ·by_cases ha:a=l
  ·subst ha;exact ED.lst An
  ·unfold ED;rw[Ai ha];exact E.BX a h
 ·rcases zab.mp ha with z|z
  ·exact .inl (by rw[z];exact za3)
  ·rcases hf a z with y|y
   ·exact .inl (za4 _ y)
   ·exact .inr y
end
abbrev kd:D->Option Key
 | .int i=>some (.inl i)
 | .str x=>some (.inr x)
 |_=>none
abbrev uM:List D->Option (List Key)
 |[]=>some []
 |d::r=>match kd d,uM r with|some k,some ks=>some (k::ks)|_,_=>none
def nX (h:kd d=some k):d=Cn k:=by
 cases d<;>simp[kd] at h<;>subst h<;>rfl
def cR:∀ {ds:List D}{ks:List Key},uM ds=some ks->ds=ks.map Cn
 |[],ks,h=>by cases h;rfl
 |d::r,ks,h=>by
  rw[uM] at h;cases q:kd d with
  |none=>rw[q] at h;cases h
  |some k =>
   cases q2:uM r with
   |none=>rw[q,q2] at h;cases h
   |some w9 =>
    rw[q,q2] at h;cases h;rw[za6,<-nX q,<-cR q2]
inductive kI:Bool->D->Prop
 |k (κ:Key):kI false (Cn κ)
 |t (κ:List Key):kI true (.tup (κ.map Cn))
abbrev keyOk (b:Bool)(d:D):Bool:=match b,d with
 |false,d=>(kd d).isSome
 |true,.tup ds=>(uM ds).isSome
 |_,_=>false
def DH {b}(h:keyOk b d=true):kI b d:=by
 cases b with
 |false =>
  obtain⟨k,hk⟩:=zbv.mp (show (kd d).isSome=true from h);rw[nX hk];exact .k k
 |true =>
  cases d with
  |tup ds =>
   obtain⟨k,hk⟩:=zbv.mp (show (uM ds).isSome=true from h);rw[cR hk];exact .t k
  |_=>cases h
def HN (a b:Key):Br (Cn a) (Cn b)=decide (a=b):=by
 cases a with
 |inl i =>
  cases b with
  |inl j=>simp only[Cn,Br];rw[zcw];simp
  |inr y=>simp[Cn,Br]
 |inr x =>
  cases b with
  |inl j=>simp[Cn,Br]
  |inr y=>simp only[Cn,Br];rw[zcw];simp
def NE:∀a b:List Key,C9 (a.map Cn) (b.map Cn)=decide (a=b)
 |[],[]|[],_::_|_::_,[]=>by simp[C9]
 |a::r,b::t=>by
  rw[za6,za6,C9,HN,NE r t,zcw];simp
abbrev EI {α:Type}:List D->List α->D->Option α
 |k::ks,v::vs,y=>if Br k y=true then some v else EI ks vs y
 |_,_,_=>none
abbrev MU {α:Type}:List D->List α->D->α->List α
 |k::ks,v::vs,y,z=>(if Br k y=true then z else v)::MU ks vs y z
 |_,vs,_,_=>vs
abbrev S7 (ks:List D)(y:D):Bool:=ks.any λ k=>Br k y
section
variable {κ:Type} [DecidableEq κ] {fk:κ->D}(hf:∀a b,Br (fk a) (fk b)=decide (a=b))
include hf
def Oo {α:Type}:∀(kvs:List (κ×α)) (k:κ),EI (kvs.map λ kv=>fk kv.1) (kvs.map zbu) (fk k)=(kvs.find? λ kv=>decide (kv.1=k)).map (·.2)
 |[],k=>rfl
 |p::r,k=>by
  rw[za6,za6,EI,hf,zcu];by_cases e:p.1=k
  ·rw[decide_eq_true e];rfl
  ·rw[decide_eq_false e];simp only[zaz,if_false];exact Oo r k
def Kq {α:Type}(kvs:List (κ×α))(k:κ):S7 (kvs.map λ kv=>fk kv.1) (fk k)=kvs.any λ kv=>decide (kv.1=k):=by
 unfold S7;rw[List.any_map];congr 1;funext kv;exact hf _ _
def HP (k:κ)(v:V):∀(kvs:List (κ×V)),MU (kvs.map λ kv=>fk kv.1) (kvs.map zbu) (fk k) v=(kvs.map λ kv=>if kv.1=k then (kv.1,v) else kv).map zbu
 |[]=>rfl
 |p::r=>by
  rw[za6,za6,MU,hf,za6,za6,HP k v r];by_cases e:p.1=k
  ·rw[decide_eq_true e,if_pos e];rfl
  ·rw[decide_eq_false e,if_neg e];rfl
def HQ (k:κ)(v:V):∀(kvs:List (κ×V)),(kvs.map λ kv=>if kv.1=k then (kv.1,v) else kv).map (λ kv=>fk kv.1)=kvs.map λ kv=>fk kv.1
 |[]=>rfl
 |p::r=>by
  rw[za6,za6,za6,HQ k v r];by_cases e:p.1=k
  ·rw[if_pos e]
  ·rw[if_neg e]
end
def Kr {K:za1}{H:Hp}:∀ {ks:List D}{xs:List V}{ds:List D}{y d:D},Ak K H xs ds->EI ks ds y=some d->∃x,EI ks xs y=some x/\BF K H x d
 |[],_,_,_,_,_,e|_::_,_,_,_,_,.nil,e=>by simp[EI] at e
 |k::ks,_,_,y,d,.cons h t,e=>by
  rw[EI] at e ⊢;by_cases q:Br k y=true
  ·rw[if_pos q] at e ⊢;cases e;exact⟨_,rfl,h⟩
  ·rw[if_neg q] at e ⊢;exact Kr t e
def Ez {α:Type}:∀ {ks:List D}{xs:List α}{y:D},xs.length=ks.length->S7 ks y=(EI ks xs y).isSome
 |[],[],y,_=>rfl
 |k::ks,x::xs,y,h=>by
  unfold S7;rw[zd1,EI];cases q:Br k y with
  |true=>rfl
  |false =>
   simp only[Bool.false_or,zaz,if_false];exact Ez (by simpa using h)
 |[],_::_,_,h|_::_,[],_,h=>by cases h
def HR {K}(hv:BF K (del H P) v d):∀ {ks:List D}{xs:List V}{ds:List D},Ak K (del H P) xs ds->Ak K (del H P) (MU ks xs y v) (MU ks ds y d)
 |[],_,_,h=>by simp only[MU];exact h
 |_::_,_,_,.nil=>by simp only[MU];exact .nil
 |k::ks,_,_,.cons h t=>by
  rw[MU,MU];refine .cons ?_ (HR hv t);by_cases q:Br k y=true
  ·rw[if_pos q,if_pos q];exact hv
  ·rw[if_neg q,if_neg q];exact h
section
variable {K:za1}
def Ak.keys:∀ {xs:List V}(κ:List Key),Ak K H xs (κ.map Cn)->xs=κ.map kV
 |_,[],.nil=>rfl
 |_,k::r,.cons h t=>by
  rw[za6,<-Ak.keys r t];congr 1;cases k with
  |inl i=>exact h.int_inv
  |inr x=>cases h;rfl
def BF.kJ (h:BF K H y (Cn κ)):y=kV κ:=by
 cases κ with
 |inl i=>exact h.int_inv
 |inr x=>cases h;rfl
def NF {b}(hv:BF K (del H P) v (.BN b ks vs))(hy:BF K (del H P) y k)(hk:kI b k):∃a xs,v=.ref a/\NV H a y (EI ks xs k)/\Ak K (del H P) xs vs/\xs.length=ks.length:=by
 cases hv with
 |SN hh hl =>
  cases hk with
  |k κ =>
   refine⟨_,_,rfl,?_,hl,by simp⟩;rw[hy.kJ,Oo HN];exact .inl ⟨_,κ,hh.Bf,rfl,rfl⟩
 |Ts hh hl =>
  cases hk with
  |t κ =>
   cases hy with
   |tup ht am =>
    have e:=Ak.keys κ am;subst e;refine⟨_,_,rfl,?_,hl,by simp⟩;rw[Oo (fk:=λ κ:List Key=>D.tup (κ.map Cn)) (λ a b=>by simp only[Br];exact NE a b)];exact .inr ⟨_,κ,_,hh.Bf,rfl,(Al ht).2,rfl⟩
end
section
variable {fp:Ah->M (List Nat)}{i:Nat}
abbrev xD:R2:=λ x y H Q=>∃a v,x=.ref a/\NV H a y (some v)/\Q v H
def kK (hu:X.A.units+1<cLine):jC X xD:=by
 intro value slice pins s σ H x y v u Q I rx ry h hs;obtain⟨a,z,rfl,g,q⟩:=h;cases rx;have hT:=Th I g;have h₂:wpAny (model X.prog X.w) X.A (getItem (.ref a) u) (EP X pins σ Q) X.xe s:=XJ hu I g ry λ w' s3 I3 ba=>⟨z,H,I3,ba,q⟩;unfold subscriptTail;refine wpAny_bind ?_;rw[getitemInPython_of_ne hT.not_modules];refine wpAny_bind (wpAny_specialOf hT PySem.F.slot_dict_getitem.lookup ?_);have fin:wpAny (model X.prog X.w) X.A (subscripted slice false (.ref a) u) (λ r s₃=>wpAny (model X.prog X.w) X.A (letTemporaryGo value (.ref a) r >>= λ _=>pure r) (EP X pins σ Q) X.xe s₃) X.xe s:=by
  rw[hs];exact wpAny_operating (wpAny_mono h₂ (λ r s₃ h₃=>wpAny_bind (wpAny_letTemporaryGo (wpAny_pure h₃))) λ _ _ x=>x)
 first
  |exact wpAny_pure (wpAny_bind fin)
  |exact wpAny_bind (wpAny_pure (wpAny_bind fin))
  |exact wpAny_bind fin
abbrev AI (x y:D):M D:=match x with
 | .BN b ks vs=>if keyOk b y=true then (match EI ks vs y with|some d=>.ok d|none=>.bad) else .bad
 |x=>uJ x y
def kL:WJ X.K WX (λ x y H Q=>(qP X.K x y H Q\/qQ X.K x y H Q)\/xD x y H Q) AI:=by
 intro P H x y v w Q ht hx hy h;cases x with
 |BN b ks vs =>
  simp only[AI] at h;by_cases hk:keyOk b y=true
  ·rw[if_pos hk] at h;obtain⟨a,xs,rfl,g,hl,_⟩:=NF hx hy (DH hk);split at h
   ·rename_i d e;obtain⟨u,e1,e2⟩:=Kr hl e;rw[e1] at g;exact .inr ⟨a,u,rfl,g,h _ H (Aj.refl H) e2⟩
   ·exact h.elim
  ·rw[if_neg hk] at h;exact h.elim
 |Ax|bl b|int b|str b|tup b|lst b|Lo b|ins b _ _=>exact .inl (HE P H _ y v w Q ht hx hy h)
def A9 (hu:X.A.units+n<cLine)(ha:DE X WX c a f)(hb:DE X WX c b g)(hs:Nu b:=by exact λ _ _=>rfl)(hn:1<=n:=by decide):DE X WX c (.Subscript a b pos) (λ ρ=>(f ρ).bind λ x=>(g ρ).bind λ y=>AI x y):=wH ((Wy.or ZN).or (kK (by omega))) kL ha hb hs
abbrev rT (neg:Bool):R2:=λ y x H Q=>∃a o,x=.ref a/\NV H a y o/\Q (.bl (if neg=true then !o.isSome else o.isSome)) H
def VD (hu:X.A.units+1<cLine):Gf X (compareOp .In) (rT false):=by
 intro pins s σ H x y v u Q I rx ry h;obtain⟨a,o,rfl,g,q⟩:=h;cases ry;exact aaw hu I g rx λ s3 I3=>⟨.bl o.isSome,H,I3,rfl,q⟩
def Qn (hu:X.A.units+1<cLine):Gf X (compareOp .NotIn) (rT true):=by
 intro pins s σ H x y v u Q I rx ry h;obtain⟨a,o,rfl,g,q⟩:=h;cases ry;exact jI hu I g rx λ s3 I3=>⟨.bl (!o.isSome),H,I3,rfl,q⟩
abbrev MV (neg:Bool)(y x:D):M D:=match x with
 | .BN b ks vs=>if keyOk b y=true then .ok (.bl (if neg=true then !S7 ks y else S7 ks y)) else .bad
 |x=>zE neg y x
def WU:WJ X.K WX (λ x y H Q=>yZ X.K neg x y H Q\/rT neg x y H Q) (MV neg):=by
 intro P H x y v w Q ht hx hy h;cases y with
 |BN b ks vs =>
  simp only[MV] at h;by_cases hk:keyOk b x=true
  ·rw[if_pos hk] at h;obtain⟨a,xs,rfl,g,hl,hn⟩:=NF hy hx (DH hk);rw[Ez (xs:=xs) hn] at h;exact .inr ⟨a,_,rfl,g,h _ H (Aj.refl H) (.bl _)⟩
  ·rw[if_neg hk] at h;exact h.elim
 |Ax|bl b|int b|str b|tup b|lst b|Lo b|ins b _ _=>exact .inl (HG P H x _ v w Q ht hx hy h)
def S8 (hu:X.A.units+n<cLine)(ha:DE X WX c a f)(hb:DE X WX c b g)(hm: ~~~(behindInMarks .In b=false))(hn:1<=n:=by decide):DT X WX (.Compare a [.In] [b] pos) (λ ρ=>((f ρ).bind λ x=>(g ρ).bind λ y=>MV false x y).bind SQ):=Gm (XF.or (VD (by omega))) WU ha hb hm
def S9 (hu:X.A.units+n<cLine)(ha:DE X WX c a f)(hb:DE X WX c b g)(hm: ~~~(behindInMarks .NotIn b=false))(hn:1<=n:=by decide):DT X WX (.Compare a [.NotIn] [b] pos) (λ ρ=>((f ρ).bind λ x=>(g ρ).bind λ y=>MV true x y).bind SQ):=Gm (RM.or (Qn (by omega))) WU ha hb hm
abbrev Eo:D->M Bool
 | .Ax=>.ok false
 | .bl b=>.ok b
 | .int i=>.ok (i != 0)
 | .tup ds| .lst ds=>.ok (!ds.isEmpty)
 |_=>.bad
def Ks {K}(h:Ak K H xs ds):(!ds.isEmpty) = !xs.isEmpty:=by cases h<;>rfl
def Ba (h:DE X WX c e f)(he:∀whole,isTrue e X.env whole=(do let v <-whole;standAt e.pos;holding [v] (truthy v)):=by intro _;rfl):DT X WX e (λ ρ=>(f ρ).bind Eo):=by
 obtain⟨t,h1,h2⟩:=h;refine⟨_,ZF h1 he,λ P0 P σ H Q ρ E h=>h2 P0 P σ H _ ρ E ?_⟩;dsimp only at h;refine XR h λ d h=>?_;intro v H' s hv;cases hv with
 |Ax=>exact⟨false,rfl,h H' s⟩
 |bl b=>exact⟨b,rfl,h H' s⟩
 |int i=>exact⟨_,rfl,h H' s⟩
 |tup hs hl=>exact⟨_,.inr (.inl ⟨_,Fq.of (Al hs).2,rfl⟩),by rw[<-Ks hl];exact h H' s⟩
 |lst hs hl=>exact⟨_,.inl ⟨_,hs.Bf,rfl⟩,by rw[<-Ks hl];exact h H' s⟩
 |_=>exact h.elim
end
abbrev Kt (m:M (List D)):M OT:=match m with | .ok ys=>.ok (.lst (ys.map .sh)) | _=>.bad
section
variable {tg iter:Expr}{fi:Ah->M (List D)}{fs:Ah->M (List D)}
def cS (i2:∀P0 P σ H R ρ,Am X.K P0 P H σ ρ->(match fi ρ with | .ok ds=>∀J H',Aj H H'->Vw X.K J P H' ds->R J H' | .ex x=>∀H',Aj H H'->WX x H' | .bad=>False)->wi σ H R)(g2:∀P0 P σ H Q ρ v d,Am X.K P0 P H σ ρ->BF X.K (del H P) v d->gG X.K P0 P H Q (gt d ρ)->gg v σ H Q)(t2:∀s H' C ex P0 P σ H Q ρ,Am X.K P0 P H σ ρ->gT (λ _ _=>False) H Q (ft ρ)->tc s H' C ex σ H Q)(e2:∀s H' C ex P0 P σ H Q ρ,Am X.K P0 P H σ ρ->gV X.K (λ _ _=>False) (Lv true P0 P) H Q (fe ρ)->te s H' C ex σ H Q)(E:Am X.K P0 P H σ ρ)(h:Zf X.K WX P H Q ((fi ρ).bind λ ds=>if ds.length<=1000 then Kt (B6 gt ft fe ds (Bb μ ρ)) else .bad)):Tq wi μ gg tc te σ H Q:=by
 refine i2 P0 P σ H _ ρ E ?_;cases q:fi ρ with
 |bad|ex x=>rw[q] at h;exact h
 |ok ds =>
  rw[q] at h;simp only[M.A8] at h;by_cases hd:¬ ds.length<=1000
  ·rw[if_neg hd] at h;exact h.elim
  have hd:ds.length<=1000:=by omega
  rw[if_pos hd] at h;intro J H1 s1 ok s C ex;cases qc:B6 gt ft fe ds (Bb μ ρ) with
  |bad|ex x=>rw[qc] at h;exact h.elim
  |ok total =>
   rw[qc] at h;unfold Kt at h;dsimp only at h;have E1:=E.same s1;refine⟨λ i m ys H2=>m=ds.length-i/\i<=ds.length/\ys.length<=i/\Aj H1 H2/\∃es rest,Ak X.K (del H2 P) ys es/\B6 gt ft fe (ds.drop i) (Bb μ ρ)=.ok rest/\es++rest=total,
    ⟨ds.length,by simp,zba _,zaf _,Aj.refl _,[],total,.nil,by rw[zd5];exact qc,rfl⟩,?_⟩
   rintro i m ys H2 ⟨rfl,hi,hy,s2,es,rest,b9,ae,a8⟩;by_cases ah:i<ds.length
   ·refine .inr ⟨ok.go i P H2 s2.del ah,Nat.lt_of_le_of_lt hy (AA (by omega)),λ aP H'=>i+1<=ds.length/\aP.length<=i+1/\Aj H1 H'/\∃es rest,Ak X.K (del H' P) aP es/\B6 gt ft fe (ds.drop (i+1)) (Bb μ ρ)=.ok rest/\es++rest=total,λ aP H' hq=>⟨ds.length-(i+1),by omega,rfl,hq.1,hq.2.1,hq.2.2.1,hq.2.2.2⟩,λ v H3 y=>?_⟩;have E2:=E1.same s2;obtain⟨s3,hv⟩:=ok.iP i P H2 v H3 ds[i] s2.del E2.BX (za7 ah) y;rw[HF ah,B6] at ae;have E3:=(E2.same s3).block μ;refine g2 P0 P _ H3 _ (Bb μ ρ) v ds[i] E3 hv ?_;cases q1:gt ds[i] (Bb μ ρ) with
    |bad|ex x=>rw[q1] at ae;cases ae
    |ok ρ1 =>
     rw[q1] at ae;dsimp only at ae;intro σ4 E4;refine t2 s H1 C ex P0 P σ4 H3 _ ρ1 E4 ?_;cases q2:ft ρ1 with
     |bad|ex x=>rw[q2] at ae;cases ae
     |ok k =>
      rw[q2] at ae;dsimp only at ae;intro H5 s5;cases k with
      |false =>
       simp only[zaz,if_false] at ae ⊢;exact⟨ah,by omega,(s2.trans s3).trans s5,es,rest,(b9.mono s3.del).mono s5.del,ae,a8⟩
      |true =>
       simp only[if_true] at ae ⊢;refine e2 s H1 C ex P0 P σ4 H5 _ ρ1 (E4.same s5) ?_;cases q3:fe ρ1 with
       |bad|ex x=>rw[q3] at ae;cases ae
       |ok y' =>
        rw[q3] at ae;dsimp only at ae;cases q4:B6 gt ft fe (ds.drop (i+1)) (Bb μ ρ) with
        |bad|ex x=>rw[q4] at ae;cases ae
        |ok jl =>
         rw[q4] at ae;cases ae;intro w H6 s6 hw;refine⟨ah,by rw[zah,zbh];omega,((s2.trans s3).trans s5).trans s6,es++[y'],jl,(((b9.mono s3.del).mono s5.del).mono s6.del).snoc hw,rfl,?_⟩;rw[zbk];exact a8
   ·have e:i=ds.length:=by omega
    subst e;rw[zco,B6] at ae;cases ae;rw[zbi] at a8;subst a8;exact .inl ⟨ok.stop _ P H2 s2.del (zaf _),λ D0 hn=>h.Je (s1.trans s2) b9 D0 hn⟩
def Dz (μ:List (Option Nat))(hc:X.calm=true)(hi:DI X WX tg iter fi)(av:Ho scope X.env.scope=true)(bc:Ql X.N NB scope μ=true)(hg:uK X scope NB μ tg gt)(ht:∀s H C ex,uL (blockOf X s H scope C NB ex) ifs ft)(he:∀s H C ex,DE (blockOf X s H scope C NB ex) (λ _ _=>False) true elt fe)(hs:∀x,foldedSetIterable iter X.env x=pure x:=by intro _;rfl):
 DN X WX (.ListComp elt [⟨tg,iter,ifs,0⟩] scope pos) (λ ρ=>(fi ρ).bind λ ds=>if ds.length<=1000 then Kt (B6 gt ft fe ds (Bb μ ρ)) else .bad):=by
 obtain⟨wi,i1,i2⟩:=hi;obtain⟨gg,g1,gk,g2⟩:=hg;refine⟨_,WC hc i1 av bc gk (λ s H C ex=>⟨g1 s H C ex,(za0 (ht s H C ex)).1,(za0 (he s H C ex)).1⟩) hs,λ P0 P σ H Q ρ E h=>?_⟩;exact cS i2 g2 (λ s H' C ex P0 P σ H Q ρ E h=>(za0 (ht s H' C ex)).2 P0 P σ H Q ρ E h) (λ s H' C ex P0 P σ H Q ρ E h=>(za0 (he s H' C ex)).2 P0 P σ H Q ρ E h) E h
def cT (i:Nat)(μ:List (Option Nat))(hN:X.N.Nodup)(jf:X.N[i]?=some x)(hx:Loc X.env.scope x)(hc:X.calm=true)(hi:DI X WX tg iter fi)(av:Ho scope X.env.scope=true)(bc:Ql X.N NB scope μ=true)(hg:uK X scope NB μ tg gt)(ht:∀s H C ex,uL (blockOf X s H scope C NB ex) ifs ft)(he:∀s H C ex,DE (blockOf X s H scope C NB ex) (λ _ _=>False) true elt fe)(bo: ~~~(swapsWith (.ListComp elt [⟨tg,iter,ifs,0⟩] scope pos) (some (.Name x px)) ax.line X.env=pure true))(hs:∀x,foldedSetIterable iter X.env x=pure x:=by intro _;rfl)(hf:X.fn x=true\/X.env.scope.names.lookup x=some .local:=by first|exact .inl rfl|exact .inr rfl|assumption):
 DS X WX (.Assign [.Name x px] (.ListComp elt [⟨tg,iter,ifs,0⟩] scope pos) ax) (λ ρ=>(Zg ((fi (Fb ρ)).bind λ ds=>if ds.length<=1000 then Kt (B6 gt ft fe ds (Bb μ (Fb ρ))) else .bad)).bind (Qm i ρ)):=by
 obtain⟨wi,i1,i2⟩:=hi;obtain⟨gg,g1,gk,g2⟩:=hg;refine⟨_,WD hN jf hx hc i1 av bc gk (λ s H C ex=>⟨g1 s H C ex,(za0 (ht s H C ex)).1,(za0 (he s H C ex)).1⟩) bo hs hf,λ P0 P σ H Z ρ E h=>?_⟩;refine cS (P0:=P0) (P:=P0) i2 g2 (λ s H' C ex P0 P σ H Q ρ E h=>(za0 (ht s H' C ex)).2 P0 P σ H Q ρ E h) (λ s H' C ex P0 P σ H Q ρ E h=>(za0 (he s H' C ex)).2 P0 P σ H Q ρ E h) E.low ?_;dsimp only at h;revert h;cases ((fi (Fb ρ)).bind λ ds=>if ds.length<=1000 then Kt (B6 gt ft fe ds (Bb μ (Fb ρ))) else .bad) with
 |bad=>exact λ h=>h
 |ex y=>exact λ h H' s=>h H' P (E.tr s)
 |ok t =>
  unfold Zg;simp only[M.A8];by_cases hf:Km t=true
  ·rw[if_pos hf];exact λ h v fp H' s hn nd o=>nW E s hn nd (o.clean (Gs (E.same s).BX o) hf) h
  ·rw[if_neg hf];exact λ h=>h.elim
end
abbrev aaH (K:za1)(WX:Str->Hp->Prop)(P:Addr->Prop)(p:Addr)(fp:List Addr)(H:Hp)(Q:VK):M (OT×OT)->Prop
 | .ok (t,r)=>∀v H' P' ag fr,(∀a,P a->a∉fp->P' a/\H' a=H a)->(∀a,P' a->ED H' a)->Aj (del H P) (del H' P')->BS K H' P' (.ref p) t ag->ag.Nodup->BS K H' P' v r fr->fr.Nodup->(∀a∈fr,a∉ag)->
  (∀a∈ag,P' a/\(P a->a∈fp))->(∀a∈fr,P' a/\(P a->a∈fp))->Q v H'
 | .ex _| .bad=>False
abbrev R3 (K:za1)(n:Nat)(F:OT->List D->M (OT×OT)):Sp:=λ vs H Q E=>vs.length=n/\∃P p t fp rest ar,vs=.ref p::rest/\(∀a,P a->ED H a)/\(∀a∈fp,P a)/\fp.Nodup/\BS K H P (.ref p) t fp/\Ak K (del H P) rest ar/\aaH K (CC K E) P p fp H Q (F t ar)
abbrev CQ (N:List Str)(t:OT)(ar:List D):Ah:=some (toCl (some 0) t)::(ar.map (λ d=>some (.val d))++zak (N.length-(ar.length+1)) none)
abbrev HS (ρ:Ah):Option OT:=match ρ[0]? with
 |some (some c)=>(match treeOf c with|some (some 0,t)=>some t|_=>none)
 |_=>none
abbrev EJ (m:M Out):M (OT×OT):=match m with
 | .ok (.next ρ)=>(match HS ρ with|some t=>.ok (t,.sh .Ax)|none=>.bad)
 | .ok (.Fv r ρ)=>(match HS ρ with|some t=>.ok (t,r)|none=>.bad)
 |_=>.bad
def Ye (p:Option Nat)(t:OT):Gk (toCl p t)=true:=by
 unfold toCl;split
 ·rename_i ts;cases q:EH ts with
  |none=>rfl
  |some ds=>cases p<;>rfl
 ·rfl
def Ku {K}{rest}(ht:∀a,P a->ED H a)(hp:∀a∈fp,P a)(nd:fp.Nodup)(o:BS K H P (.ref p) t fp)(h:Ak K (del H P) rest ar):
 Am K ⟨λ a=>P a/\a∉fp,λ _=>p⟩ P H (start N (.ref p::rest)) (CQ N t ar):=by
 have hl:=h.length;have key:∀(i:Nat) (c:Cl),(ar.map (λ d=>some (Cl.val d))++zak (N.length-(ar.length+1)) none)[i]?=some (some c)->∃d,ar[i]?=some d/\c=.val d:=λ i c e=>by
  by_cases hi:i<ar.length
  ·rw[zc6 (by simpa using hi),zaw] at e;cases q:ar[i]? with
   |none=>rw[q] at e;cases e
   |some d=>rw[q] at e;cases e;exact⟨d,rfl,rfl⟩
  ·rw[zd2 (by simpa using hi),zcm] at e;split at e<;>cases e
 have um:(start N (.ref p::rest))[0]?=some (some (.ref p)):=by unfold start;rfl
 refine⟨λ a h=>h.1,ht,λ i d e=>?_,λ i c e io=>?_,λ i j c c' v v' fp ag e1 e2 _ _ o1 o2 ad=>?_,?_,λ i c n e wE=>?_⟩
 rotate_left 4
 ·cases i with
  |zero=>exact um
  |succ i =>
   obtain⟨d',q,z⟩:=key i _ (by unfold CQ at e;simpa using e);cases z;cases wE
 ·cases i with
  |zero =>
   have e':some (toCl (some 0) t)=some (.val d):=by simpa [CQ] using e
   have:=Ye (some 0) t;rw[zau e'] at this;cases this
  |succ i =>
   obtain⟨d',q,z⟩:=key i _ (by unfold CQ at e;simpa using e);cases z;obtain⟨v,hv,hd⟩:=h.get q;refine⟨v,?_,hd⟩;unfold start;rw[za6,zd8,zb5,zc6 (by rw[za2];exact (zae.mp hv).1),zaw,hv];rfl
 ·cases i with
  |zero =>
   have e':toCl (some 0) t=c:=by simpa [CQ] using e
   subst e';exact⟨_,fp,um,CU.toCl o,λ a ha=>⟨hp a ha,λ z=>z.2 ha⟩,nd⟩
  |succ i =>
   obtain⟨d',q,z⟩:=key i _ (by unfold CQ at e;simpa using e);cases z;cases io
 ·cases i with
  |zero =>
   cases j with
   |zero=>exact (ad rfl).elim
   |succ j =>
    obtain⟨d',q,z⟩:=key j _ (by unfold CQ at e2;simpa using e2);cases z;exact o2.elim
  |succ i =>
   obtain⟨d',q,z⟩:=key i _ (by unfold CQ at e1;simpa using e1);cases z;exact o1.elim
 ·unfold start CQ;simp[hl]
section
variable {P:Program}{w:World}{K:za1}
def NG (E:Am K P0 P' H' σ' ρ)(h:HS ρ=some t):∃c ag,ρ[0]?=some (some c)/\σ'[0]?=some (some (.ref (P0.g 0)))/\CU K H' P' c (.ref (P0.g 0)) ag/\BS K H' P' (.ref (P0.g 0)) t ag/\ag.Nodup/\∀a∈ag,P' a/\¬ P0 a:=by
 unfold HS at h;split at h
 ·rename_i c e;split at h
  ·rename_i t' e2;cases h;have io:Gk c=true:=by cases c<;>first|rfl|cases e2
   obtain⟨v,fp,k1,k2,k3,k4⟩:=E.ows 0 c e io;have:=E.pin 0 c 0 e (JR e2);rw[k1] at this;cases this;exact⟨c,fp,e,k1,k2,k2.toT e2,k4,k3⟩
  ·cases h
 ·cases h
def rV {st}{f}(F:Ze K x qual st f fd)(S:Ac N ps (A3 st))(g:Ah->M Out)(hb:∀(AX:Value) (A:Around) (outer:List Env) (s:Shared) (H:Hp) (E:XK),Bm k (A.deeper (envOfC qual (A3 st) s.heap.objs.size f AX))->SR (iG P w K mg base N qual (A3 st) f AX A outer s H E) (CC K E) (Az st) g):
 Cw P w K mg base (Q7 P w base) (k+1) f fd ps (R3 K ps.length λ t ar=>EJ (g (CQ N t ar))):=by
 obtain⟨oc,od,kV,doc,pm,an,AX,ct,Ta,rfl,lk,aO⟩:=F.ex;refine T9 lk aO S (λ vs H Q E h=>h.1) λ A outer s H vs Q E hr h=>?_;obtain⟨hl,P',p,t,fp,rest,ar,rfl,ht,hp,nd,ho,hv,hq⟩:=h;obtain⟨tt,h1,h2⟩:=hb AX A outer s H E hr;refine⟨tt,h1,h2 ⟨λ a=>P' a/\a∉fp,λ _=>p⟩ P' _ H _ _ (Ku ht hp nd ho hv) ?_⟩;dsimp only at hq;revert hq;cases g (CQ N t ar) with
 |bad|ex x=>exact λ h=>h.elim
 |ok o =>
  have sub:∀ {P2:Addr->Prop} {H2:Hp} {σ2:St} {ρ:Ah},Am K ⟨λ a=>P' a/\a∉fp,λ _=>p⟩ P2 H2 σ2 ρ->∀a,P2 a/\¬ (P' a/\a∉fp)->P2 a/\(P' a->a∈fp):=λ E a ha=>⟨ha.1,λ z=>zcx λ w=>ha.2 ⟨z,w⟩⟩;cases o with
  |ret d|Cq d=>exact λ h=>h.elim
  |next ρ =>
   intro hq σ' H' P2 t2 E2;unfold EJ at hq;dsimp only at hq;split at hq
   ·rename_i t' e;obtain⟨c,ag,k1,k2,k3,k4,k5,k6⟩:=NG E2 e;exact hq .Ax H' P2 ag [] (λ a ha hn=>⟨E2.sub a ⟨ha,hn⟩,t2.2 a ⟨ha,hn⟩⟩) E2.BX t2.1 k4 k5 (.sh .Ax) zbr (λ a ha=>by cases ha) (λ a ha=>sub E2 a (k6 a ha)) (λ a ha=>by cases ha)
   ·exact hq.elim
  |Fv r ρ =>
   intro hq v fr σ' H' P2 t2 E2 o2 aL hf;unfold EJ at hq;dsimp only at hq;split at hq
   ·rename_i t' e;obtain⟨c,ag,k1,k2,k3,k4,k5,k6⟩:=NG E2 e;exact hq v H' P2 ag fr (λ a ha hn=>⟨E2.sub a ⟨ha,hn⟩,t2.2 a ⟨ha,hn⟩⟩) E2.BX t2.1 k4 k5 o2 aL (λ a ha=>(hf a ha).2.2 0 c _ ag k1 k2 k3) (λ a ha=>sub E2 a (k6 a ha)) (λ a ha=>sub E2 a ⟨(hf a ha).1,(hf a ha).2.1⟩)
   ·exact hq.elim
  |brk ρ|cont ρ=>exact λ h=>h.elim
end
structure Kv (P:Program)(w:World)(K:za1)(mg:Str->Option Value)(base:Heap)(x:Str)(k n:Nat)(F:OT->List D->M (OT×OT)):Prop where
 ex:∃fa fd ps,Cw P w K mg base (Q7 P w base) k fa fd ps (R3 K n F)/\mg x=some (.ref fa)/\zbd K (.ref fa)=true/\Binds K fd ps []
def Oq {P}{K}{st}(T:AJ K mg x st ps)(S:Ac N ps (A3 st))(g:Ah->M Out)(hb:∀(f:Addr) (AX:Value) (A:Around) (outer:List Env) (s:Shared) (H:Hp) (E:XK),Bm k (A.deeper (envOfC x (A3 st) s.heap.objs.size f AX))->SR (iG P w K mg base N x (A3 st) f AX A outer s H E) (CC K E) (Az st) g)(hn: ~~~(ps.length=n)):
 Kv P w K mg base x (k+1) n (λ t ar=>EJ (g (CQ N t ar))):=by
 obtain⟨f,fd,F,hm,hB⟩:=T.ex;subst hn;exact⟨⟨f,fd,ps,rV F S g (hb f),hm,F.kp,hB⟩⟩
section
variable {fp:Ah->M (List Nat)}{i:Nat}{fs:Ah->M (List D)}
def Am.new {K:za1}{P':Addr->Prop}{H':Hp}(E:Am K P0 P H σ ρ)(s:Aj H H')(sm:Aj (del H P) (del H' P')){a:Addr}(hn:H a=none):∀(j:Nat) c v fq,ρ[j]?=some (some c)->σ[j]?=some (some v)->CU K H' P' c v fq->a∉fq:=λ j c v fq h1 h2 h3 ha=>by
 have io:Gk c=true:=by cases c<;>first|rfl|exact h3.elim
 obtain⟨w,fr,k1,k2,k3,k4⟩:=E.ows j c h1 io;rw[h2] at k1;cases k1;have m:=k2.move sm λ b hb=>by obtain⟨o,q⟩:=k2.at b hb;rw[q];exact s _ _ q
 rw[h3.C5 m] at ha;obtain⟨o,q⟩:=k2.at a ha;rw[hn] at q;cases q
def Am.nY {K}(E:Am K P0 P H σ ρ)(pl:Bi K P H σ ρ i π v1 t1)(o:BS K H P v1 t1 ap)(hs:∀a,P a->a∉ap->P' a/\H' a=H a)(ht:∀a,P' a->ED H' a)(sm:Aj (del H P) (del H' P'))(o':BS K H' P' v1 u fu)(nd:fu.Nodup)(hf:∀a∈fu,P' a/\(P a->a∈ap))(or:BS K H' P' v2 r fr)(ndr:fr.Nodup)(hr:∀a∈fr,P' a/\(P a->a∈ap))(dj:∀a∈fr,a∉fu):
 ∃c p t,ρ[i]?=some (some c)/\treeOf c=some (p,t)/\Am K P0 P' H' σ (ρ.set i (some (toCl p (EG t π u))))/\Tr P0 P H P' H'/\
  ∀a∈fr,P' a/\¬ P0 a/\∀(j:Nat) c' v fq,(ρ.set i (some (toCl p (EG t π u))))[j]?=some (some c')->σ[j]?=some (some v)->CU K H' P' c' v fq->a∉fq:=by
 obtain⟨v0,c,p,t,h1,h2,h3,h4⟩:=pl.ex;have io:Gk c=true:=by cases c<;>first|rfl|cases h2
 obtain⟨w,fp,k1,k2,k3,k4⟩:=E.ows i c h1 io;rw[h3] at k1;cases k1;have ot:=k2.toT h2;obtain⟨fz,oz,kz,_⟩:=ot.part h4;have:=oz.C5 o;subst this;obtain⟨ag,q1,q2,q3⟩:=ot.put sm h4 o o' (λ a ha hn=>(hs a (k3 a ha).1 hn).2) k4 nd (λ a ha hb=>(hf a ha).2 (k3 a hb).1);have uo:∀(j:Nat) c' v' fq,i≠j->ρ[j]?=some (some c')->σ[j]?=some (some v')->CU K H P c' v' fq->∀a∈fq,P a/\a∉fp:=λ j c' v' fq ad g1 g2 g3 a ha=>by
  have jp:Gk c'=true:=by cases c'<;>first|rfl|exact g3.elim
  obtain⟨w',qd,m1,m2,m3,m4⟩:=E.ows j c' g1 jp;rw[g2] at m1;cases m1;have:=m2.C5 g3;subst this;exact⟨(m3 a ha).1,E.apart j i c' c v' v0 qd fp g1 h1 g2 h3 g3 k2 (zbl ad) a ha⟩
 have key:=E.wO (P':=P') (H':=H') (i:=i) (v:=v0) (c:=toCl p (EG t π u)) (fp:=ag) (λ a ha=>(hs a (E.sub a ha) λ z=>(k3 a (kz a z)).2 ha).1) ht sm (λ j c' v' fq ad g1 g2 g3 a ha=>?_) (CU.toCl q1) (λ a ha=>?_) q2 (λ n z=>by rw[Gu] at z;subst z;have:=E.pin i c n h1 (JR h2);rw[h3] at this;cases this;rfl)
 ·rw[RY h3] at key;refine⟨c,p,t,h1,h2,key,⟨sm,λ a ha=>(hs a (E.sub a ha) λ z=>(k3 a (kz a z)).2 ha).2⟩,λ a ha=>⟨(hr a ha).1,λ z=>(k3 a (kz a ((hr a ha).2 (E.sub a z)))).2 z,λ j c' v fq g1 g2 g3 hb=>?_⟩⟩;rcases get_set g1 with ⟨rfl,hl,z⟩|⟨ad,g1⟩
  ·cases z;rw[h3] at g2;cases g2;rw[g3.C5 (CU.toCl q1)] at hb;rcases q3 a hb with y|y
   ·exact dj a ha y
   ·exact y.2 ((hr a ha).2 (k3 a y.1).1)
  ·have jp:Gk c'=true:=by cases c'<;>first|rfl|exact g3.elim
   obtain⟨w',qd,m1,m2,m3,m4⟩:=E.ows j c' g1 jp;rw[g2] at m1;cases m1;have o2:=uo j c' v qd ad g1 g2 m2;have mv:=m2.move sm λ b aE=>(hs b (o2 b aE).1 λ z=>(o2 b aE).2 (kz b z)).2;rw[g3.C5 mv] at hb;exact (o2 a hb).2 (kz a ((hr a ha).2 (o2 a hb).1))
 ·have o2:=uo j c' v' fq ad g1 g2 g3 a ha;have hk:=hs a o2.1 λ z=>o2.2 (kz a z);refine⟨hk.2,λ z=>?_,hk.1⟩;rcases q3 a z with y|y
  ·exact o2.2 (kz a ((hf a y).2 o2.1))
  ·exact o2.2 y.1
 ·rcases q3 a ha with y|y
  ·exact⟨(hf a y).1,λ z=>(k3 a (kz a ((hf a y).2 (E.sub a z)))).2 z⟩
  ·exact⟨(hs a (k3 a y.1).1 y.2).1,(k3 a y.1).2⟩
end
abbrev Jf (i:Nat)(ρ:Ah)(π:List Nat)(u:OT):M Out:=match ρ[i]? with
 |some (some c)=>(match treeOf c with|some (p,t)=>.ok (.next (ρ.set i (some (toCl p (EG t π u)))))|none=>.bad)
 |_=>.bad
abbrev DJ (i:Nat)(ρ:Ah)(π:List Nat):M (List OT):=match VC i ρ π with | some (.lst ts)=>.ok ts | _=>.bad
def J6 {c}(h:ρ[i]?=some (some c))(ht:treeOf c=some (p,t)):Jf i ρ π u=.ok (.next (ρ.set i (some (toCl p (EG t π u))))):=by
 unfold Jf;simp only[h,ht]
def Av.append {K:za1}{H:Hp}{P:Addr->Prop}:∀ {xs ys:List V}{ts us:List OT}{fp fq:List Addr},Av K H P xs ts fp->Av K H P ys us fq->Av K H P (xs++ys) (ts++us) (fp++fq):=by
 intro _ _ _ _ _ _ x_ h;cases x_ with
 |nil=>exact h
 |cons a t=>rw[zbk];exact .cons a (t.append h)
section
variable {fp:Ah->M (List Nat)}{i:Nat}{fs:Ah->M (List D)}
def Bi.lst {K}(pl:Bi K P H σ ρ i π v t1)(E:Am K P0 P H σ ρ)(h:DJ i ρ π=.ok ts):t1=.lst ts/\∃l xs fq,v=.ref l/\H l=some (.lst xs)/\Av K H P xs ts fq/\l∉fq/\fq.Nodup:=by
 unfold DJ at h;rw[pl.at] at h;split at h
 ·rename_i qe e;cases e;cases h;obtain⟨ap,o1,hp,nd⟩:=pl.own E;cases o1 with
  |lst hh hr=>exact⟨rfl,_,_,_,rfl,hh,hr,(zbc.mp nd).1,(zbc.mp nd).2⟩
 ·cases h
def VE (ha:DP X WX a i fp)(he:DN X WX e fn)(hs: ~~~(starEach [e] X.env=[(false,eval e X.env)]))(bo: ~~~(swapsWith (.Call (.Attribute a "append" apos) [e] [] ac) none pos.line X.env=pure false))(aj: ~~~(attributeBase a "append" X.env (eval a X.env)=eval a X.env))(aT: ~~~(((backTo ac (starEach [e] X.env)).all (λ x => !x.1)&&(backToKw ac (keywordEach [] X.env)).all (λ x=>x.1.isSome)&&decide (([e]:List Expr).length+([]:List Keyword).length+(if ([]:List Keyword).isEmpty then 0 else 1)<30))=true))(ak: ~~~((apos.endLine==ac.line)=true))(aq: ~~~((backTo ac (starEach [] X.env)).any (·.1)=false)):
 DS X WX (.Expr (.Call (.Attribute a "append" apos) [e] [] ac) pos) (λ ρ=>(fp ρ).bind λ π=>(DJ i ρ π).bind λ ts=>(fn ρ).bind λ t=>if ts.length<1000 then Jf i ρ π (.lst (ts++[t])) else .bad):=by
 obtain⟨ta,a1,a2⟩:=ha;obtain⟨te,e1,e2⟩:=he;refine⟨_,Gd (Wz zc9 PySem.F.slot_list_append PySem.F.type_list_append QL a1 (Bc e1 Cd hs) aj aT ak hs aq) bo,λ P0 P σ H Z ρ E h=>?_⟩;dsimp only at h;refine a2 P0 P σ H _ ρ E ?_;refine iF h E λ π h=>?_;intro v t1 H1 s1 pl;have E1:=E.same s1;cases q1:DJ i ρ π with
 |bad=>rw[q1] at h;exact h.elim
 |ex x=>unfold DJ at q1;split at q1<;>cases q1
 |ok ts =>
  rw[q1] at h;simp only[M.A8] at h;obtain⟨rfl,l,xs,fq,rfl,hl,ol,nl,uq⟩:=pl.lst E1 q1;refine⟨.inl ⟨rfl,xs,.of hl⟩,e2 P0 P σ H1 _ ρ E1 ?_⟩;cases q2:fn ρ with
  |bad=>rw[q2] at h;exact h
  |ex y=>rw[q2] at h;exact λ H' s=>h H' P ((E.tr s1).trans (E1.tr s))
  |ok t =>
   rw[q2] at h;simp only[M.A8] at h;by_cases hz:ts.length<1000
   ·rw[if_pos hz] at h;intro w fw H2 s2 n2 aL o2;have sm:=Ca (P:=P) s2 n2;have E2:Am X.K P0 (PU P fw) H2 σ ρ:=E1.more s2 LL (Gs (E1.same s2).BX o2) sm;have keep:∀b∈fq,H2 b=H1 b:=λ b hb=>by obtain⟨o,z,_⟩:=ol.BX b hb;rw[z];exact s2 _ _ z
    have jq:=ol.move sm keep;have am:=s2 _ _ hl;have dj:∀b∈fq,b∉fw:=λ b hb hc=>(ol.BX b hb).no (n2 b hc);obtain⟨c,p,t0,g1,g2,E3,t3⟩:=E2.kH (pl.more sm s2) am jq (us:=ts++[t]) (ys:=xs++[w]) (jq.append (.cons o2 .nil)) (by rw[zbi];exact zav.mpr ⟨uq,aL,λ b hb d hd z=>dj b hb (by rw[z];exact hd)⟩) (by
     rw[zbi];intro z;rcases zal.mp z with z|z
     ·exact nl z
     ·rw[n2 l z] at hl;cases hl) (by
     intro b hb;rw[zbi] at hb;rcases zal.mp hb with z|z
     ·exact .inl z
     ·exact .inr ⟨.inr z,λ y=>(E1.BX b (E1.sub b y)).no (n2 b z),E1.new s2 sm (n2 b z)⟩)
    rw[J6 g1 g2] at h;exact⟨l,xs,w,rfl,rfl,am,AA (by rw[ol.len];exact zbo hz),h _ _ _ (((E.tr s1).trans (E1.xB s2 n2)).trans t3) E3⟩
   ·rw[if_neg hz] at h;exact h.elim
abbrev kM {α:Type}(o:Option α):M α:=match o with | some x=>.ok x | none=>.bad
abbrev V3 (i:Nat)(ρ:Ah)(π:List Nat):M (List D):=match VC i ρ π with | some (.lst ts)=>(match EH ts with | some ds=>.ok ds | none=>.bad) | _=>.bad
def Bi.shl {K}(pl:Bi K P H σ ρ i π v t1)(E:Am K P0 P H σ ρ)(h:V3 i ρ π=.ok ds):t1=.lst (ds.map .sh)/\∃l xs,v=.ref l/\H l=some (.lst xs)/\Ak K (del H P) xs ds:=by
 unfold V3 at h;rw[pl.at] at h;split at h
 ·rename_i qe e;split at h
  ·rename_i mh e';cases e;cases h;have z:=Dj e';subst z;obtain⟨ap,o1,hp,nd⟩:=pl.own E;cases o1 with
   |lst hh hr=>exact⟨rfl,_,_,rfl,hh,hr.rR.2⟩
  ·cases h
 ·cases h
def cU (h:V3 i ρ π=.ex x):False:=by
 unfold V3 at h;split at h
 ·split at h<;>cases h
 ·cases h
def Am.aaI {K}{es}(E:Am K P0 P H σ ρ)(pl:Bi K P H σ ρ i π (.ref l) (.lst (ds.map .sh)))(hH:H l=some (.lst xs))(o:Ak K (del H P) xs ds)(o':Ak K (del H P) ys es):
 ∃c p t,ρ[i]?=some (some c)/\treeOf c=some (p,t)/\Am K P0 P (upd H l (.lst ys)) σ (ρ.set i (some (toCl p (EG t π (.lst (es.map .sh))))))/\Tr P0 P H P (upd H l (.lst ys)):=
 E.kH pl hH o.ows o'.ows zbr (λ z=>by cases z) (λ a ha=>by cases ha)
abbrev kN (t:OT):M (List D):=match t with | .lst us=>kM (EH us) | _=>.bad
def cV (ha:DP X WX a i fp)(he:DN X WX e fn)(hs: ~~~(starEach [e] X.env=[(false,eval e X.env)]))(bo: ~~~(swapsWith (.Call (.Attribute a "extend" apos) [e] [] ac) none pos.line X.env=pure false))(aj: ~~~(attributeBase a "extend" X.env (eval a X.env)=eval a X.env))(aT: ~~~(((backTo ac (starEach [e] X.env)).all (λ x => !x.1)&&(backToKw ac (keywordEach [] X.env)).all (λ x=>x.1.isSome)&&decide (([e]:List Expr).length+([]:List Keyword).length+(if ([]:List Keyword).isEmpty then 0 else 1)<30))=true))(ak: ~~~((apos.endLine==ac.line)=true))(aq: ~~~((backTo ac (starEach [] X.env)).any (·.1)=false)):
 DS X WX (.Expr (.Call (.Attribute a "extend" apos) [e] [] ac) pos) (λ ρ=>(fp ρ).bind λ π=>(V3 i ρ π).bind λ ds=>((fn ρ).bind kN).bind λ es=>if ds.length+es.length<=1000 then Jf i ρ π (.lst ((ds++es).map .sh)) else .bad):=by
 obtain⟨ta,a1,a2⟩:=ha;obtain⟨te,e1,e2⟩:=he;refine⟨_,Gd (Wz zc9 PySem.F.slot_list_extend PySem.F.type_list_extend XG a1 (Bc e1 Cd hs) aj aT ak hs aq) bo,λ P0 P σ H Z ρ E h=>?_⟩;dsimp only at h;refine a2 P0 P σ H _ ρ E ?_;refine iF h E λ π h=>?_;intro v t1 H1 s1 pl;have E1:=E.same s1;cases q1:V3 i ρ π with
 |bad=>rw[q1] at h;exact h.elim
 |ex x=>exact (cU q1).elim
 |ok ds =>
  rw[q1] at h;simp only[M.A8] at h;obtain⟨rfl,l,xs,rfl,hl,ol⟩:=pl.shl E1 q1;refine⟨.inl ⟨rfl,xs,.of hl⟩,e2 P0 P σ H1 _ ρ E1 ?_⟩;cases q2:fn ρ with
  |bad=>rw[q2] at h;exact h
  |ex y=>rw[q2] at h;exact λ H' s=>h H' P ((E.tr s1).trans (E1.tr s))
  |ok t =>
   rw[q2] at h;simp only[M.A8] at h;intro w fw H2 s2 n2 aL o2;have sm:=Ca (P:=P) s2 n2;have E2:Am X.K P0 (PU P fw) H2 σ ρ:=E1.more s2 LL (Gs (E1.same s2).BX o2) sm;cases t with
   |lst us =>
    simp only[kN] at h;cases q3:EH us with
    |none=>rw[q3] at h;exact h.elim
    |some es =>
     rw[q3] at h;simp only[kM,M.A8] at h;have z:=Dj q3;subst z;cases o2 with
     |lst hb hr =>
      by_cases hz:ds.length+es.length<=1000
      ·rw[if_pos hz] at h;have he:=hr.rR.2;have jq:=ol.mono sm;have am:=s2 _ _ hl;obtain⟨c,p,t0,g1,g2,E3,t3⟩:=E2.aaI (pl.more sm s2) am jq (jq.append he);rw[J6 g1 g2] at h;exact⟨l,_,xs,_,rfl,rfl,am,hb,zbo (AA (by rw[ol.length,he.length];exact hz)),h _ _ _ (((E.tr s1).trans (E1.xB s2 n2)).trans t3) E3⟩
      ·rw[if_neg hz] at h;exact h.elim
   |_=>exact h.elim
end
abbrev gX (K:za1)(WX:Str->Hp->Prop)(P0:DZ)(P:Addr->Prop)(H:Hp)(σ:St)(Q:VK):M (Ah×OT)->Prop
 | .ok (ρ,t)=>∀v fp H' P',Tr P0 P H P' H'->Am K P0 P' H' σ ρ->BS K H' P' v t fp->fp.Nodup->(∀a∈fp,P' a/\¬ P0 a/\∀(j:Nat) c v' fq,ρ[j]?=some (some c)->σ[j]?=some (some v')->CU K H' P' c v' fq->a∉fq)->Q v H'
 | .ex x=>∀H' P',Tr P0 P H P' H'->WX x H'
 | .bad=>False
abbrev DX (X:Cx)(WX:Str->Hp->Prop)(e:Expr)(f:Ah->M (Ah×OT)):Prop:=
 ∃t,PE X e t/\∀P0 P σ H Q ρ,Am X.K P0 P H σ ρ->gX X.K WX P0 P H σ Q (f ρ)->t σ H Q
abbrev TM:OT->Bool
 | .sh _=>false
 |_=>true
abbrev Mp (i:Nat)(F:OT->List D->M (OT×OT))(ρ:Ah)(π:List Nat)(ar:List D):M (Ah×OT):=match ρ[i]? with
 |some (some c)=>(match treeOf c with
  |some (p,t)=>(match LK t π with
   |some t1=>if TM t1=true then (match F t1 ar with | .ok (t2,r)=>.ok (ρ.set i (some (toCl p (EG t π t2))),r)|_=>.bad) else .bad
   |none=>.bad)
  |none=>.bad)
 |_=>.bad
section
variable {fp:Ah->M (List Nat)}{i:Nat}{fs:Ah->M (List D)}
def cW {c}(h:ρ[i]?=some (some c))(ht:treeOf c=some (p,t))(hs:LK t π=some t1)(hN:TM t1=true)(hF:F t1 ar=.ok (t2,r)):Mp i F ρ π ar=.ok (ρ.set i (some (toCl p (EG t π t2))),r):=by
 unfold Mp;simp only[h,ht,hs,hN,if_true,hF]
def cX (xo:FN X E)(G:Kv X.prog X.w X.K X.mg X.base x k n F)(hr:Bm k X.A)(hg:Gl X x)(hp:DP X (CC X.K E) a i fp)(ha:DA X (CC X.K E) true es fs)(hn:es.length+1=n)(aI:(x==("__debug__" : Str))=false:=by decide)(he: ~~~(starEach (a::es) X.env=(false,eval a X.env)::starEach es X.env))(hpl: ~~~((backTo pos (starEach es X.env)).any (·.1)=false)):
 DX X (CC X.K E) (.Call (.Name x p) (a::es) [] pos) (λ ρ=>(fp ρ).bind λ π=>(fs ρ).bind λ ar=>Mp i F ρ π ar):=by
 obtain⟨fa,fd,ps,hF,hm,hk,hb⟩:=G.ex;obtain⟨tp,p1,p2⟩:=hp;obtain⟨ta,a1,a2,a3⟩:=ha;refine⟨_,Wu hF hr hg hm hk hb .nil xo.call (Bc p1 a1 he) aI he hpl,λ P0 P σ H Q ρ Ev h=>?_⟩;dsimp only at h;refine p2 P0 P σ H _ ρ Ev ?_;cases q:fp ρ with
 |bad=>rw[q] at h;exact h
 |ex x=>rw[q] at h;exact λ H' s=>h H' P (Ev.tr s)
 |ok π =>
  rw[q] at h;simp only[M.A8] at h;intro v t1 H1 s1 pl;have E1:=Ev.same s1;refine a2 P0 P σ H1 _ ρ E1 ?_;cases q2:fs ρ with
  |bad=>rw[q2] at h;exact h
  |ex y=>rw[q2] at h;exact λ H' s=>h H' P ((Ev.tr s1).trans (E1.tr s))
  |ok ar =>
   rw[q2] at h;simp only[M.A8] at h;intro vs H2 s2 ay;have E2:=E1.same s2;have bu:=pl.same s2;show R3 X.K n F ((v::vs)++[]) H2 Q E;rw[zbi];obtain⟨v0,c,pp,t,g1,g2,g3,g4⟩:=bu.ex;unfold Mp at h;simp only[g1,g2,g4.sub] at h;by_cases hx:TM t1=true
   ·rw[if_pos hx] at h;obtain⟨ap,o1,qg,df⟩:=bu.own E2;have f8:∃l,v=.ref l:=by
     cases o1 with
     |sh hv=>exact absurd hx (by simp[TM])
     |lst _ _|tup _ _|dK _ _|dT _ _|ins _ _ _=>exact⟨_,rfl⟩
    obtain⟨l,rfl⟩:=f8;refine⟨by rw[za8,ay.length,a3 ρ ar q2];exact hn,P,l,t1,ap,vs,ar,rfl,E2.BX,λ b hb=>(qg b hb).1,df,o1,ay,?_⟩;cases qF:F t1 ar with
    |bad|ex x=>rw[qF] at h;exact h.elim
    |ok z =>
    obtain⟨t2,r⟩:=z;rw[qF] at h;intro w H' P' fu fr k1 k2 k3 k4 k5 k6 k7 k8 k9 ur;obtain⟨c',p',t',m1,m2,m3,m4,m5⟩:=E2.nY bu o1 k1 k2 k3 k4 k5 k9 k6 k7 ur k8;rw[g1] at m1;cases m1;rw[g2] at m2;cases m2;exact h w fr H' P' (((Ev.tr s1).trans (E1.tr s2)).trans m4) m3 k6 k7 m5
   ·rw[if_neg hx] at h;exact h.elim
def HU (he:DX X WX e fx)(hs: ~~~(swapsWith e none pos.line X.env=pure false)):DS X WX (.Expr e pos) (λ ρ=>(fx ρ).bind λ z=>.ok (.next z.1)):=by
 obtain⟨te,e1,e2⟩:=he;refine⟨_,Gd e1 hs,λ P0 P σ H Z ρ E h=>?_⟩;dsimp only at h;refine e2 P0 P σ H _ ρ E ?_;cases q:fx ρ with
 |bad|ex x=>rw[q] at h;exact h
 |ok z=>rw[q] at h;exact λ v fp H' P' t E' o nd hf=>h σ H' P' t E'
def kO (j:Nat)(hN:X.N.Nodup)(hi:X.N[j]?=some x)(hx:Loc X.env.scope x)(he:DX X WX e fx)(hs: ~~~(swapsWith e (some (.Name x pos')) pos.line X.env=pure false))(hf:X.fn x=true\/X.env.scope.names.lookup x=some .local:=by first | exact .inl rfl | exact .inr rfl | assumption):
 DS X WX (.Assign [.Name x pos'] e pos) (λ ρ=>(fx ρ).bind λ z=>Qm j z.1 z.2):=by
 obtain⟨te,e1,e2⟩:=he;refine⟨_,V6 hN hi hx e1 hs hf,λ P0 P σ H Z ρ E h=>?_⟩;dsimp only at h;refine e2 P0 P σ H _ ρ E ?_;refine XR h λ z h=>?_;intro v fp H' P' tr E' o nd hf;have h':=h.tr tr;have key:gS X.K WX P0 P' H' Z (.ok (.next (z.1.set j (some (toCl none z.2)))))->Z.nx (σ.set j (some v)) H':=λ h=>by
  refine h _ H' P' Tr.refl (E'.jV (λ _ h=>h) E'.BX (Aj.refl _) (λ k c' v' ag ad g1 g2 g3 b hb=>⟨rfl,λ w=>(hf b w).2.2 k c' v' ag g1 g2 g3 hb⟩) (CU.toCl o) (λ b hb=>⟨(hf b hb).1,(hf b hb).2.1⟩) nd (λ n z=>by rw[Gu] at z;cases z))
 obtain⟨ρ1,u⟩:=z;cases u with
 |sh d =>
  cases o with
  |sh hv=>exact h' _ H' P' Tr.refl (E'.Vv hv)
 |lst ts|tup ts|BN b ks ts|ins x ns ts=>exact key h'
end
abbrev H9 (i:Nat)(ρ:Ah)(π:List Nat):M (Bool×List D×List D):=match VC i ρ π with
 |some (.BN b ks ts)=>(match EH ts with|some vs=>.ok (b,ks,vs)|none=>.bad)
 |_=>.bad
abbrev putD (ks vs:List D)(k v:D):List D×List D:=if S7 ks k=true then (ks,MU ks vs k v) else (ks++[k],vs++[v])
section
variable {fp:Ah->M (List Nat)}{i:Nat}{fs:Ah->M (List D)}
def Bi.BN {K}(pl:Bi K P H σ ρ i π v t1)(E:Am K P0 P H σ ρ)(h:H9 i ρ π=.ok (bl,ks,vs)):t1=.BN bl ks (vs.map .sh)/\∃l xs,v=.ref l/\P l/\Ak K (del H P) xs vs/\BS K H P (.ref l) (.BN bl ks (vs.map .sh)) [l]/\
 ((bl=false/\∃kvs,H l=some (.dK kvs)/\ks=(kvs.map λ kv=>Cn kv.1)/\xs=kvs.map zbu)\/(bl=true/\∃kvs,H l=some (.dT kvs)/\ks=(kvs.map λ kv=>.tup (kv.1.map Cn))/\xs=kvs.map zbu)):=by
 unfold H9 at h;rw[pl.at] at h;split at h
 ·rename_i b' w9 qe e;split at h
  ·rename_i aB e';cases e;cases h;have z:=Dj e';subst z;obtain⟨ap,o1,hp,nd⟩:=pl.own E;generalize ht:OT.BN bl ks (vs.map .sh)=t at o1;cases o1 with
   |dK hh hr =>
    injection ht with h1 h2 h3
    subst h1 h2 h3;obtain⟨rfl,hs⟩:=hr.rR;exact⟨rfl,_,_,rfl,(hp _ za3).1,hs,.dK hh hr,.inl ⟨rfl,_,hh,rfl,rfl⟩⟩
   |dT hh hr =>
    injection ht with h1 h2 h3
    subst h1 h2 h3;obtain⟨rfl,hs⟩:=hr.rR;exact⟨rfl,_,_,rfl,(hp _ za3).1,hs,.dT hh hr,.inr ⟨rfl,_,hh,rfl,rfl⟩⟩
   |_=>cases ht
  ·cases h
 ·cases h
def cY (h:H9 i ρ π=.ex x):False:=by
 unfold H9 at h;split at h
 ·split at h<;>cases h
 ·cases h
def Am.rW {K}(E:Am K P0 P H σ ρ)(pl:Bi K P H σ ρ i π (.ref l) t1)(ot:BS K H P (.ref l) t1 [l])(hn:∀xs,o'≠.tup xs/\∀z,o'≠.GW z (.tup xs))(new:Aj (del H P) (del (upd H l o') P)->BS K (upd H l o') P (.ref l) u [l]):
 ∃c p t,ρ[i]?=some (some c)/\treeOf c=some (p,t)/\Am K P0 P (upd H l o') σ (ρ.set i (some (toCl p (EG t π u))))/\Tr P0 P H P (upd H l o'):=by
 obtain⟨ap,o1,hp,_⟩:=pl.own E;have:=o1.C5 ot;subst this;have pP:P l:=(hp l za3).1;have sd:del (upd H l o') P=del H P:=by
  funext b;by_cases hb:P b
  ·rw[Gj hb,Gj hb]
  ·rw[AB hb,AB hb,Ai (λ z=>hb (by rw[z];exact pP))]
 have sm:Aj (del H P) (del (upd H l o') P):=by rw[sd];exact Aj.refl _
 refine E.xC pl ot (λ _ h=>h) (λ a h=>?_) sm (λ a ha hn=>Ai λ z=>hn (by rw[z];exact za3)) (new sm) (by simp) (λ a ha=>.inl ha);by_cases ha:a=l
 ·subst ha;exact⟨_,An,hn⟩
 ·unfold ED;rw[Ai ha];exact E.BX a h
def WV (hu:X.A.units+n<cLine)(ha:DP X WX a i fp)(hk:DE X WX true b g)(hv:DE X WX true e f)(hs: ~~~(swapsWith e (some (.Subscript a b pos')) pos.line X.env=pure false))(hn:1<=n:=by decide):
 DS X WX (.Assign [.Subscript a b pos'] e pos) (λ ρ=>(f ρ).bind λ v=>(fp ρ).bind λ π=>(g ρ).bind λ k=>(H9 i ρ π).bind λ z=>if keyOk z.1 k=true/\z.2.1.length<1000 then Jf i ρ π (.BN z.1 (putD z.2.1 z.2.2 k v).1 ((putD z.2.1 z.2.2 k v).2.map .sh)) else .bad):=by
 obtain⟨ta,a1,a2⟩:=ha;obtain⟨tk,k1,k2⟩:=hk;obtain⟨tv,v1,v2⟩:=hv;refine⟨_,jJ (by omega) a1 k1 v1 hs,λ P0 P σ H Z ρ E h=>?_⟩;dsimp only at h;refine v2 P0 P σ H _ ρ E ?_;refine iF h E λ d h=>?_;intro w H0 s0 hw;have E0:=E.same s0;refine a2 P0 P σ H0 _ ρ E0 ?_;cases q:fp ρ with
 |bad=>rw[q] at h;exact h
 |ex x=>rw[q] at h;exact λ H' s=>h H' P ((E.tr s0).trans (E0.tr s))
 |ok π =>
  rw[q] at h;simp only[M.A8] at h;intro v t1 H1 s1 pl;have E1:=E0.same s1;refine k2 P0 P σ H1 _ ρ E1 ?_;cases q2:g ρ with
  |bad=>rw[q2] at h;exact h
  |ex y=>rw[q2] at h;exact λ H' s=>h H' P (((E.tr s0).trans (E0.tr s1)).trans (E1.tr s))
  |ok k =>
   rw[q2] at h;simp only[M.A8] at h;intro y H2 s2 hy;have E2:=E1.same s2;have bu:=pl.same s2;have mn:=(hw.mono s1.del).mono s2.del;have ut:=((E.tr s0).trans (E0.tr s1)).trans (E1.tr s2);cases q3:H9 i ρ π with
   |bad=>rw[q3] at h;exact h.elim
   |ex x=>exact (cY q3).elim
   |ok z =>
    obtain⟨bb,ks,vs⟩:=z;rw[q3] at h;simp only[M.A8] at h;by_cases hc:keyOk bb k=true/\ks.length<1000
    ·rw[if_pos hc] at h;obtain⟨rfl,l,xs,rfl,hP,cy,ot,jr⟩:=bu.BN E2 q3;have hK:=DH hc.1;rcases jr with ⟨rfl,kvs,hH,rfl,rfl⟩|⟨rfl,kvs,hH,rfl,rfl⟩
     ·cases hK with
      |k κ =>
       have ey:=hy.kJ;refine⟨l,_,rfl,.inl ⟨kvs,κ,hH,ey,AA (by have:=hc.2;rw[za2] at this;omega),rfl⟩,?_⟩;have aU:∃aB,(putD (kvs.map λ kv=>Cn kv.1) vs (Cn κ) d)=((putK kvs κ w).map (λ kv=>Cn kv.1),aB)/\Ak X.K (del H2 P) ((putK kvs κ w).map zbu) aB:=by
        unfold putD putK;rw[Kq HN];by_cases hh:(kvs.any λ kv=>decide (kv.1=κ))=true
        ·rw[if_pos hh,if_pos hh];refine⟨_,by rw[HQ (fk:=Cn) HN],?_⟩;rw[<-HP (fk:=Cn) HN];exact HR mn cy
        ·rw[if_neg hh,if_neg hh];refine⟨_,by rw[zas];rfl,?_⟩;rw[zas];exact cy.snoc mn
       obtain⟨aB,e1,e2⟩:=aU;obtain⟨c,p,t0,g1,g2,E3,t3⟩:=E2.rW (o':=.dK (putK kvs κ w)) (u:=.BN false ((putK kvs κ w).map λ kv=>Cn kv.1) (aB.map .sh)) bu ot (λ _=>⟨λ z=>(by cases z),λ _ z=>by cases z⟩) (λ mv=>.dK An (e2.mono mv).ows);rw[e1,J6 g1 g2] at h;exact h _ _ _ (ut.trans t3) E3
     ·cases hK with
      |t κ =>
       cases hy with
       |tup ht am =>
        have ey:=Ak.keys κ am;subst ey;refine⟨l,_,rfl,.inr ⟨kvs,κ,_,hH,rfl,(Al ht).2,AA (by have:=hc.2;rw[za2] at this;omega),rfl⟩,?_⟩;have hf:∀a b:List Key,Br (.tup (a.map Cn)) (.tup (b.map Cn))=decide (a=b):=λ a b=>by simp only[Br];exact NE a b
        have aU:∃aB,(putD (kvs.map λ kv=>.tup (kv.1.map Cn)) vs (.tup (κ.map Cn)) d)=((putK kvs κ w).map (λ kv=>.tup (kv.1.map Cn)),aB)/\Ak X.K (del H2 P) ((putK kvs κ w).map zbu) aB:=by
         unfold putD putK;rw[Kq (fk:=λ κ:List Key=>D.tup (κ.map Cn)) hf];by_cases hh:(kvs.any λ kv=>decide (kv.1=κ))=true
         ·rw[if_pos hh,if_pos hh];refine⟨_,by rw[HQ (fk:=λ κ:List Key=>D.tup (κ.map Cn)) hf],?_⟩;rw[<-HP (fk:=λ κ:List Key=>D.tup (κ.map Cn)) hf];exact HR mn cy
         ·rw[if_neg hh,if_neg hh];refine⟨_,by rw[zas];rfl,?_⟩;rw[zas];exact cy.snoc mn
        obtain⟨aB,e1,e2⟩:=aU;obtain⟨c,p,t0,g1,g2,E3,t3⟩:=E2.rW (o':=.dT (putK kvs κ w)) (u:=.BN true ((putK kvs κ w).map λ kv=>.tup (kv.1.map Cn)) (aB.map .sh)) bu ot (λ _=>⟨λ z=>(by cases z),λ _ z=>by cases z⟩) (λ mv=>.dT An (e2.mono mv).ows);rw[e1,J6 g1 g2] at h;exact h _ _ _ (ut.trans t3) E3
    ·rw[if_neg hc] at h;exact h.elim
def TN (tk:Bool):DN X WX (.Dict [] [] pos) (λ _=>.ok (.BN tk [] [])):=by
 cases tk with
 |false =>
  refine⟨_,ZV,λ P0 P σ H Q ρ E h p hp=>?_⟩;exact h _ [p] _ (AK hp _) (λ a ha=>by rw[za9.mp ha];exact hp) (by simp) (.dK (kvs:=[]) An .nil)
 |true =>
  refine⟨_,ZW,λ P0 P σ H Q ρ E h p hp=>?_⟩;exact h _ [p] _ (AK hp _) (λ a ha=>by rw[za9.mp ha];exact hp) (by simp) (.dT (kvs:=[]) An .nil)
end
section
variable {te:TE}
abbrev xE (ds:List D):M D:=match ds with
 |[.lst xs]=>(match DF xs with|some ns=>.ok (.int ns.sum)|none=>.bad)
 |_=>.bad
abbrev aaJ (te:TE):TE:=λ σ H Q=>te σ H λ x H1=>∃n:Nat,x=.int (n:Int)/\n<=1000/\∀r,H1 r=none->Q (.ref r) (upd H1 r (.lst ((zb8 n).map λ i:Nat=>V.int (i:Int))))
def Yg (h:ItemsOf (λ i v=>∃t,v=Value.int (0+(i:Int)*1) t) acc n):Vals ((zb8 n).map λ i:Nat=>V.int (i:Int)) acc.toList:=by
 obtain⟨h1,h2⟩:=h;have key:∀(l:List Value) (k:Nat),(∀i v,l[i]?=some v->∃t,v=Value.int ((k+i:Nat):Int) t)->Vals ((List.range' k l.length).map λ i:Nat=>V.int (i:Int)) l:=by
  intro l;induction l with
  |nil=>intro k _;exact .nil
  |cons v r ih =>
   intro k hk;rw[za8,List.range'_succ,za6];refine .cons (by obtain⟨t,e⟩:=hk 0 v rfl;exact⟨t,by simpa using e⟩) (ih (k+1) λ i w hw=>?_);obtain⟨t,e⟩:=hk (i+1) w (by simpa using hw);exact⟨t,by rw[e];congr 1;omega⟩
 have:=key acc.toList 0 (λ i v hv=>by
  obtain⟨t,e⟩:=h2 i v (by rw[<-Array.getElem?_toList];exact hv);exact⟨t,by rw[e];congr 1;omega⟩)
 rw[zdb,h1] at this;rw[List.range_eq_range'];exact this
def Sa (hc:X.calm=true)(hg:Gl X "list")(hm:X.mg "list" = none)(jk:Gl X "range")(aG:X.mg "range" = none)(he:PE X e te)(hv:bootBuiltins "list" = some (.type "list"):=by decide +kernel)(hs: ~~~(starEach [.Call (.Name "range" p2) [e] [] bq] X.env=[(false,eval (.Call (.Name "range" p2) [e] [] bq) X.env)]))(a9: ~~~(starEach [e] X.env=[(false,eval e X.env)])):
 PE X (.Call (.Name "list" p) [.Call (.Name "range" p2) [e] [] bq] [] pos) (aaJ te):=by
 intro pins s σ H Q I h;refine wpAny_Call_Name_kw (DY I hg hm hv ?_);refine zbj ?_ hs;rw[hs];refine zby ?_;refine wpAny_Call_Name_kw (DY I jk aG boot_range ?_);refine zbj ?_ a9;rw[a9];refine zby (B9 (he pins s σ H _ I h) λ u s1 zz=>?_);obtain⟨x,H1,I1,r1,q1⟩:=zz;obtain⟨n,rfl,hn,q⟩:=q1;obtain⟨t,rfl⟩:=r1;refine zcc ?_;refine call_range_1 ?_;refine zcc ?_;have h4:((n:Nat):Int)<2^62:=by omega
 refine call_list_range (n:=n) (I1.ok.hd hc) (IsRange.new ..) (small_one (by omega) (by omega) (by omega) h4) (by rw[rangeSize_one];split<;>omega) (by omega) λ h' tk qh c' hk be dg=>?_;have kp:∀b o,s1.heap.get? b=some o->h'.get? b=some o:=λ b o e=>hk b o (zad _ e);have rv:=Yg dg;have d5:∀o:Obj,s1.heap.objs.size<=(s1.heap.push o).objs.size:=λ o=>by simp[Heap.push]
 refine⟨.ref _,_,I1.laid (t':=tk) (o:=.lst ((zb8 n).map λ i:Nat=>V.int (i:Int))) kp (d5 _) ⟨?_,qh.toList,c',rv,by simpa using be⟩,rfl,q _ (I1.AF.fresh (d5 _))⟩;rw[za2,zc4];exact zbo (AA hn)
abbrev zG (d:D):M OT:=match d with
 | .int j=>@ite _ (0<=j/\j<=1000) (zda _) (.ok (.lst ((Cz 0 j.toNat).map .sh))) .bad
 |_=>.bad
def WW {n:Nat}(h:n<=1000):zG (.int (n:Int))=.ok (.lst (((zb8 n).map λ i:Nat=>D.int (i:Int)).map .sh)):=by
 unfold zG;dsimp only;rw[if_pos ⟨by omega,by omega⟩,zbg,O7]
def Sb (hc:X.calm=true)(hg:Gl X "list")(hm:X.mg "list" = none)(jk:Gl X "range")(aG:X.mg "range" = none)(he:DE X WX true e f)(hv:bootBuiltins "list" = some (.type "list"):=by decide +kernel)(hs: ~~~(starEach [.Call (.Name "range" p2) [e] [] bq] X.env=[(false,eval (.Call (.Name "range" p2) [e] [] bq) X.env)]))(a9: ~~~(starEach [e] X.env=[(false,eval e X.env)])):
 DN X WX (.Call (.Name "list" p) [.Call (.Name "range" p2) [e] [] bq] [] pos) (λ ρ=>(f ρ).bind zG):=by
 obtain⟨te,e1,e2⟩:=he;refine⟨_,Sa hc hg hm jk aG e1 hv hs a9,λ P0 P σ H Q ρ E h=>?_⟩;refine e2 P0 P σ H _ ρ E ?_;dsimp only at h;refine XR h λ d h=>?_;intro v H1 s1 hv;cases d with
 |int j =>
  by_cases hj:0<=j/\j<=1000
  ·obtain⟨n,rfl⟩:∃n:Nat,j=n:=⟨j.toNat,by omega⟩;rw[WW (by omega)] at h;refine⟨n,hv.int_inv,by omega,λ r hr=>h.Je s1 (xs:=(zb8 n).map λ i:Nat=>V.int (i:Int)) ?_ r hr⟩;have:∀l:List Nat,Ak X.K (del H1 P) (l.map λ i:Nat=>V.int (i:Int)) (l.map λ i:Nat=>D.int (i:Int)):=λ l=>by
    induction l with
    |nil=>exact .nil
    |cons x r ih=>exact .cons (.int _) ih
   exact this _
  ·have e:zG (.int j)=.bad:=if_neg hj;rw[e] at h;exact h.elim
 |_=>exact h.elim
abbrev Yh (lo hi:Option Int)(d:D):M OT:=match d with
 | .lst ds=>.ok (.lst (((ds.drop (HT.NS ds.length 0 lo)).take (HT.NS ds.length ds.length hi-HT.NS ds.length 0 lo)).map .sh))
 |_=>.bad
def FO {lo}(ha:DE X WX true e f)(hl:DO X WX true lo qi)(hh:DO X WX true hi fh):DN X WX (.Subscript e (.Slice lo hi none p2) pos) (λ ρ=>(f ρ).bind λ d=>(qi ρ).bind λ l=>(fh ρ).bind λ u=>Yh l u d):=by
 obtain⟨ta,a1,a2⟩:=ha;obtain⟨tl,l1,l2⟩:=hl;obtain⟨th,h1,h2⟩:=hh;refine⟨_,ZL jD a1 l1 h1,λ P0 P σ H Q ρ E h=>?_⟩;dsimp only at h;refine a2 P0 P σ H _ ρ E ?_;cases q:f ρ with
 |bad|ex x=>rw[q] at h;exact h
 |ok d =>
  rw[q] at h;intro v H1 s1 hv;refine l2 P0 P σ H1 _ ρ (E.same s1) ?_;cases q2:qi ρ with
  |bad=>rw[q2] at h;exact h
  |ex y=>rw[q2] at h;exact λ H' s=>h H' (s1.trans s)
  |ok l =>
   rw[q2] at h;intro H2 s2;refine h2 P0 P σ H2 _ ρ ((E.same s1).same s2) ?_;cases q3:fh ρ with
   |bad=>rw[q3] at h;exact h
   |ex y=>rw[q3] at h;exact λ H' s=>h H' ((s1.trans s2).trans s)
   |ok u =>
    rw[q3] at h;simp only[M.A8] at h;intro H3 s3;unfold Yh at h;split at h
    ·cases hv with
     |lst hs hl =>
      refine⟨_,_,rfl,(s3.seq (s2.seq hs.Bf)),λ p hp=>h.Je ((s1.trans s2).trans s3) ?_ p hp⟩;unfold ZM;rw[hl.length];exact ((((hl.drop _).take _).mono s2.del).mono s3.del)
    ·exact h.elim
def cZ:OpN X.K WX (nU X.K) Ko:=by
 intro P H x y v w Q ht hx hy h;unfold Ko at h;split at h
 ·rename_i ds es;by_cases hl:ds.length+es.length<=1000
  ·rw[if_pos hl] at h;cases hx with
   |lst h1 h2 =>
    cases hy with
    |lst h3 h4=>exact⟨_,_,_,_,rfl,rfl,h1.Bf,h3.Bf,zbo (AA (by rw[h2.length,h4.length];exact hl)),h.Je (Aj.refl _) (h2.wR h4)⟩
  ·rw[if_neg hl] at h;exact h.elim
 ·exact h.elim
def Kw (ha:DE X WX true a f)(hb:DE X WX true b g):DN X WX (.BinOp a .Add b pos) (λ ρ=>(f ρ).bind λ x=>(g ρ).bind λ y=>Ko x y):=by
 obtain⟨ta,a1,a2⟩:=ha;obtain⟨tb,b1,b2⟩:=hb;exact⟨_,Zw jZ a1 b1,λ P0 P σ H Q ρ E h=>wY a2 b2 cZ E h⟩
abbrev GK (μ:List (Option Nat))(g:TG):Prop:=∀σ0 σ x H Q,(∀(j:Nat) v,(Fu μ σ0)[j]?=some (some v)->σ[j]?=some (some v))->g x σ H Q->g x σ H λ σ' H'=>Q σ' H'/\∀(j:Nat) v,(Fu μ σ0)[j]?=some (some v)->σ'[j]?=some (some v)
abbrev xF (μ:List (Option Nat))(g:Zc):Prop:=∀σ0 σ x H Q,(∀(j:Nat) v,(Fu μ σ0)[j]?=some (some v)->σ[j]?=some (some v))->g x σ H Q->g x σ H λ σ' H'=>Q σ' H'/\∀(j:Nat) v,(Fu μ σ0)[j]?=some (some v)->σ'[j]?=some (some v)
def GK.keeps {g}(h:GK μ g):Lx μ g:=λ σ x H Q q=>h σ (Fu μ σ) x H Q (λ _ _ z=>z) q
def kQ (h:μ[i]?=some none):GK μ (QF i):=λ σ0 σ x H Q hk q=>by
 refine⟨q,λ j v hj=>?_⟩;have ad:i≠j:=λ z=>by
  subst z;unfold Fu at hj;rw[zaw,h] at hj;cases hj
 rw[zbs ad];exact hk j v hj
def kR:xF μ pT:=λ σ0 σ x H Q hk q=>⟨q.1,q.2,hk⟩
def dA (mono:∀v σ H Q Q',(∀σ' H',Q σ' H'->Q' σ' H')->t v σ H Q->t v σ H Q')(ht:GK μ t)(hu:xF μ u):xF μ (Zr t u):=λ σ0 σ x H Q hk q=>by
 obtain⟨v,r,rfl,q⟩:=q;exact⟨v,r,rfl,mono _ _ _ _ _ (λ σ' H' z=>hu σ0 σ' r H' Q z.2 z.1) (ht σ0 σ v H _ hk q)⟩
def rX {K}(h:xF μ t):GK μ (pU K n t):=λ σ0 σ x H Q hk q=>by
 obtain⟨a,xs,rfl,h1,h2,q⟩:=q;exact⟨a,xs,rfl,h1,h2,h σ0 σ xs H Q hk q⟩
variable {de:List D->Ah->M Ah}
abbrev kS (X:Cx)(scope:Scope)(NB:List Str)(μ:List (Option Nat))(es:List Expr)(gt:List D->Ah->M Ah):Prop:=
 ∃g:Zc,(∀s H C ex,uG (blockOf X s H scope C NB ex) es g)/\xF μ g/\∀P0 P σ H Q ρ vs ds,Am X.K P0 P H σ ρ->Ak X.K (del H P) vs ds->gG X.K P0 P H Q (gt ds ρ)->g vs σ H Q
def HV:kS X scope NB μ [] (λ ds ρ=>match ds with | []=>.ok ρ | _=>.bad):=
 ⟨pT,λ s H C ex=>Ws,kR,λ P0 P σ H Q ρ vs ds E hv h=>by
  cases hv with
  |nil=>exact⟨rfl,h σ E⟩
  |cons _ _=>exact h.elim⟩
def BY (i:Nat)(hN:NB.Nodup)(hi:NB[i]?=some x)(hx:(relabel scope X.env).names.lookup x=some .local)(hm:μ[i]?=some none)(hr:kS X scope NB μ es de)(hs:∀s H C ex,(assignEach (.Name x px::es) (blockOf X s H scope C NB ex).env).map (·.2)=assign (.Name x px) (blockOf X s H scope C NB ex).env::(assignEach es (blockOf X s H scope C NB ex).env).map (·.2):=by intro _ _ _ _;rfl):
 kS X scope NB μ (.Name x px::es) (λ ds ρ=>match ds with|d::r=>de r (ρ.set i (some (.val d)))|[]=>.bad):=by
 obtain⟨gr,r1,r2,r3⟩:=hr;refine⟨Zr (QF i) gr,λ s H C ex=>T5 (RJ (X:=blockOf X s H scope C NB ex) hN hi (.inl hx) (.inr hx)) (r1 s H C ex) (hs s H C ex),dA (λ v σ H Q Q' hq h=>hq _ _ h) (kQ hm) r2,λ P0 P σ H Q ρ vs ds E hv h=>?_⟩;cases hv with
 |nil=>exact h.elim
 |cons h1 h2=>exact⟨_,_,rfl,r3 P0 P _ H Q _ _ _ (E.Vv h1) h2 h⟩
def Kx (hc:X.calm=true)(h:kS X scope NB μ es de)(hn:∀s H C ex,(assignEach es (blockOf X s H scope C NB ex).env).length=n:=by intro _ _ _ _;rfl)(a7:∀s H C ex,(assignEach es (blockOf X s H scope C NB ex).env).findIdx? (·.1)=none:=by intro _ _ _ _;rfl):
 uK X scope NB μ (.Tuple es k pt) (λ d ρ=>match d with | .tup ds=>if ds.length=n then de ds ρ else .bad|_=>.bad):=by
 obtain⟨t,a1,a2,a3⟩:=h;refine⟨pU X.K n t,λ s H C ex=>Zs (X:=blockOf X s H scope C NB ex) hc (a1 s H C ex) (hn s H C ex) (a7 s H C ex),(rX a2).keeps,λ P0 P σ H Q ρ v d E hv h=>?_⟩;cases hv with
 | @tup a xs ds hs hl =>
  dsimp only at h;by_cases hd:ds.length=n
  ·rw[if_pos hd] at h;exact⟨a,xs,rfl,Fq.of (Al hs).2,by rw[hl.length];exact hd,a3 P0 P σ H Q ρ xs ds E hl h⟩
  ·rw[if_neg hd] at h;exact h.elim
 |_=>exact h.elim
end
section
variable {fp:Ah->M (List Nat)}{i:Nat}{te:TE}
def kT:Mm X.K WX (λ xs H Q=>∃i j,xs=[.int i,.int j]/\Q (.int (if j<i then j else i)) H) (λ ds=>match ds with | [.int i,.int j]=>.ok (.int (if j<i then j else i)) | _=>.bad):=by
 intro P H ds vs Q ht hl h;dsimp only at h;split at h
 ·obtain⟨v,w,rfl,h1,h2⟩:=hl.two;exact⟨_,_,by rw[h1.int_inv,h2.int_inv],h _ H (Aj.refl H) (.int _)⟩
 ·exact h.elim
def kU (hc:X.calm=true)(hg:Gl X "min")(hm:X.mg "min" = none)(ha:DE X WX c a f)(qj:DE X WX c b g)(hb:bootBuiltins "min" = some (.builtin "min"):=by decide +kernel)(hs: ~~~(starEach [a,b] X.env=(false,eval a X.env)::starEach [b] X.env))(a9: ~~~(starEach [b] X.env=[(false,eval b X.env)]))(hpl: ~~~((backTo pos (starEach [b] X.env)).any (·.1)=false)):
 DE X WX c (.Call (.Name "min" p) [a,b] [] pos) (λ ρ=>((f ρ).bind λ d=>((g ρ).bind λ d2=>(M.ok []).bind λ ds=>.ok (d2::ds)).bind λ ds=>.ok (d::ds)).bind (λ ds=>match ds with|[.int i,.int j]=>.ok (.int (if j<i then j else i))|_=>.bad)):=
 O4 (XA hc) kT hg hm hb (A1 ha (A1 qj A6 a9) hs) (he:=hs) (hpl:=hpl)
end
abbrev WP (m:M Out)(nx:Ah->Prop)(rt:Out->Prop)(ex:Str->Prop):Prop:=match m with
 | .ok (.next ρ)=>nx ρ
 | .ok o=>rt o
 | .ex x=>ex x
 | .bad=>False
section
variable {nx:Ah->Prop}{rt:Out->Prop}{ex:Str->Prop}{m:M Out}{k:Ah->M Out}
def Bt (h:m=.ok (.next ρ'))(hn:nx ρ'):WP m nx rt ex:=by rw[h];exact hn
def WP.mono (h:WP m nx rt ex)(h1:∀ρ,nx ρ->uu ρ)(h2:∀o,rt o->uv o)(h3:∀x,ex x->nb x):WP m uu uv nb:=by
 cases m with
 |bad=>exact h
 |ex x=>exact h3 x h
 |ok o =>
  cases o with
  |next ρ=>exact h1 ρ h
  |ret d|brk d|cont d|Cq d|Fv d ρ=>exact h2 _ h
def wp_seq (h:WP m (λ ρ=>WP (k ρ) nx rt ex) rt ex):WP (XY m k) nx rt ex:=by
 cases m with
 |bad|ex x=>exact h
 |ok o =>
  cases o with
  |next ρ|ret d|brk d|cont d|Cq d|Fv d ρ=>exact h
def wp_step (h:m=.ok (.next ρ'))(hk:WP (k ρ') nx rt ex):WP (XY m k) nx rt ex:=by rw[h];exact hk
def Ck (h:WP m I rt ex)(hk:∀ρ,I ρ->WP (k ρ) nx rt ex):WP (XY m k) nx rt ex:=wp_seq (h.mono hk (λ _ h=>h) λ _ h=>h)
abbrev inLoop (I:Ah->Prop)(nx:Ah->Prop)(rt:Out->Prop)(o:Out):Prop:=match o with
 | .cont ρ=>I ρ
 | .brk ρ=>nx ρ
 |o=>rt o
def Cm (I:Nat->Ah->Prop)(h0:I 0 ρ)(step:∀i d ρ,ds[i]?=some d->I i ρ->∃ρ1,gt d ρ=.ok ρ1/\WP (gb ρ1) (I (i+1)) (inLoop (I (i+1)) nx rt) ex)(done:∀ρ,I ds.length ρ->nx ρ):WP (forM gt gb ds ρ) nx rt ex:=by
 have key:∀(n i:Nat) (ρ:Ah),i+n=ds.length->I i ρ->WP (forM gt gb (ds.drop i) ρ) nx rt ex:=by
  intro n;induction n with
  |zero =>
   intro i ρ hi h;have e:i=ds.length:=by omega
   subst e;rw[zco,forM];exact done ρ h
  |succ n ih =>
   intro i ρ hi h;have ah:i<ds.length:=by omega
   obtain⟨ρ1,h1,h2⟩:=step i ds[i] ρ (za7 ah) h;rw[HF ah,forM,h1];dsimp only;cases q:gb ρ1 with
   |bad|ex x=>rw[q] at h2;exact h2
   |ok o =>
    rw[q] at h2;cases o with
    |next ρ2=>exact ih (i+1) ρ2 (by omega) h2
    |ret d|Cq d|Fv d ρ2=>exact h2
    |cont ρ2=>exact ih (i+1) ρ2 (by omega) h2
    |brk ρ2=>exact h2
 have:=key ds.length 0 ρ (by omega) h0;rw[zd5] at this;exact this
def Ot {α:Type}{c}{b}{lt}(J:α->Ah->Prop){x}(hx:Acc lt x)(h0:J x ρ)(step:∀x ρ,J x ρ->(c ρ=.ok false/\nx ρ)\/(c ρ=.ok true/\WP (b ρ) (λ ρ2=>∃y,lt y x/\J y ρ2) (inLoop (λ ρ2=>∃y,lt y x/\J y ρ2) nx rt) ex)):WP (Mo c b ρ) nx rt ex:=by
 have key:∀x,Acc lt x->∀ρ,J x ρ->∃n,Ay c b n ρ≠.bad/\WP (Ay c b n ρ) nx rt ex:=by
  intro x hx;induction hx with
  |intro x _ ih =>
   intro ρ h;rcases step x ρ h with ⟨h1,h2⟩|⟨h1,h2⟩
   ·refine⟨1,?_,?_⟩
    ·rw[Ay,h1];intro z;cases z
    ·rw[Ay,h1];exact h2
   ·cases q:b ρ with
    |bad=>rw[q] at h2;exact h2.elim
    |ex y =>
     rw[q] at h2;refine⟨1,?_,?_⟩
     ·rw[Ay,h1];dsimp only;rw[q];intro z;cases z
     ·rw[Ay,h1];dsimp only;rw[q];exact h2
    |ok o =>
     rw[q] at h2;have go:∀ρ2,(∃y,lt y x/\J y ρ2)->(∀n,Ay c b (n+1) ρ=Ay c b n ρ2)->∃n,Ay c b n ρ≠.bad/\WP (Ay c b n ρ) nx rt ex:=by
      rintro ρ2 ⟨y,hy,hJ⟩ e;obtain⟨n,h3,h4⟩:=ih y hy ρ2 hJ;exact⟨n+1,by rw[e];exact h3,by rw[e];exact h4⟩
     cases o with
     |next ρ2|cont ρ2=>exact go ρ2 h2 λ n=>by rw[Ay,h1];dsimp only;rw[q]
     |brk ρ2 =>
      refine⟨1,?_,?_⟩
      ·rw[Ay,h1];dsimp only;rw[q];intro z;cases z
      ·rw[Ay,h1];dsimp only;rw[q];exact h2
     |ret d =>
      refine⟨1,?_,?_⟩
      ·rw[Ay,h1];dsimp only;rw[q];intro z;cases z
      ·rw[Ay,h1];dsimp only;rw[q];exact h2
     |Cq d =>
      refine⟨1,?_,?_⟩
      ·rw[Ay,h1];dsimp only;rw[q];intro z;cases z
      ·rw[Ay,h1];dsimp only;rw[q];exact h2
     |Fv d ρ2 =>
      refine⟨1,?_,?_⟩
      ·rw[Ay,h1];dsimp only;rw[q];intro z;cases z
      ·rw[Ay,h1];dsimp only;rw[q];exact h2
 obtain⟨n,h1,h2⟩:=key x hx ρ h0;unfold Mo;have hx:∃n,Ay c b n ρ≠.bad:=⟨n,h1⟩;rw[dif_pos hx];have e:Ay c b (za5 hx) ρ=Ay c b n ρ:=by
  have a:=CO (za0 hx) n;have b':=CO h1 (za5 hx);rw[Nat.add_comm] at b';rw[<-a,<-b']
 rw[e];exact h2
abbrev rtT (Q:OT->Prop)(o:Out):Prop:=match o with
 | .ret d=>Q (.sh d)
 | .Cq c=>∃t,wZ c=.ok t/\Q t
 |_=>False
def Ky (h:WP m (λ _=>Q (.sh .Ax)) (rtT Q) (λ _=>False)):∃t,TJ m=.ok t/\Q t:=by
 cases m with
 |bad|ex x=>exact h.elim
 |ok o =>
  cases o with
  |next ρ|ret d=>exact⟨_,rfl,h⟩
  |Cq c=>exact h
  |Fv c ρ|brk ρ|cont ρ=>exact h.elim
def B1 (h:WP m (λ _=>OT.sh .Ax=t) (rtT (·=t)) (λ _=>False)):TJ m=.ok t:=by
 obtain⟨u,h1,h2⟩:=Ky (Q:=(·=t)) h;rw[h1,h2]
abbrev rtD (Q:D->Prop)(o:Out):Prop:=match o with
 | .ret d=>Q d
 | .Cq c=>∃t,clD c=.ok t/\Q t
 |_=>False
def xG (h:WP m (λ _=>Q .Ax) (rtD Q) (λ _=>False)):∃t,fin m=.ok t/\Q t:=by
 cases m with
 |bad|ex x=>exact h.elim
 |ok o =>
  cases o with
  |next ρ|ret d=>exact⟨_,rfl,h⟩
  |Cq c=>exact h
  |Fv c ρ|brk ρ|cont ρ=>exact h.elim
def xH (h:WP m (λ _=>D.Ax=d) (rtD (·=d)) (λ _=>False)):fin m=.ok d:=by
 obtain⟨u,h1,h2⟩:=xG (Q:=(·=d)) h;rw[h1,h2]
end
section
variable {d:D}{ds es:List D}{o:Option Cl}{i n:Nat}{p:Option Nat}{t u:OT}{π:List Nat}{b:Bool}{ks vs:List D}{ts:List OT}{m:M D}
def rv0:rv 0 (some (.val d)::ρ)=.ok d:=rfl
def rvS:rv (i+1) (o::ρ)=rv i ρ:=rfl
abbrev TQ (f:Ah->Ah)(m:M Out):M Out:=match m with
 | .ok (.next ρ)=>.ok (.next (f ρ))
 |m=>m
def dB {f}:TQ f (.ok (.next ρ))=.ok (.next (f ρ)):=rfl
def dC:TK 0 (some (.own ds)::ρ)=.ok []:=rfl
def dD:TK 0 (some (.ow (.Nv n ds))::ρ)=.ok []:=rfl
def Yi:TK 0 (some (.ow (.tree p t))::ρ)=.ok []:=by unfold TK VC;simp[treeOf]
def xI:TK (i+1) (o::ρ)=TK i ρ:=rfl
def WY:VC 0 (some (.own ds)::ρ) π=LK (.lst (ds.map .sh)) π:=rfl
def WZ:VC 0 (some (.ow (.Nv n ds))::ρ) π=LK (.lst (ds.map .sh)) π:=rfl
def Ou:VC 0 (some (.ow (.tree p t))::ρ) π=LK t π:=rfl
def kW:V3 0 (some (.own ds)::ρ) []=.ok ds:=by unfold V3;simp[WY,CP]
def kX:V3 0 (some (.ow (.Nv n ds))::ρ) []=.ok ds:=by unfold V3;simp[WZ,CP]
def dE:V3 0 (some (.ow (.tree p (.lst (ds.map .sh))))::ρ) []=.ok ds:=by unfold V3;simp[Ou,CP]
def aaK:V3 (i+1) (o::ρ) π=V3 i ρ π:=rfl
def Yj:DJ 0 (some (.own ds)::ρ) []=.ok (ds.map .sh):=by unfold DJ;simp[WY]
def Yk:DJ 0 (some (.ow (.Nv n ds))::ρ) []=.ok (ds.map .sh):=by unfold DJ;simp[WZ]
def VF:DJ 0 (some (.ow (.tree p (.lst ts)))::ρ) []=.ok ts:=by unfold DJ;simp[Ou]
def rY:DJ (i+1) (o::ρ) π=DJ i ρ π:=rfl
def JS:H9 0 (some (.ow (.tree p (.BN b ks (vs.map .sh))))::ρ) []=.ok (b,ks,vs):=by unfold H9;simp[Ou,CP]
def rZ:H9 (i+1) (o::ρ) π=H9 i ρ π:=rfl
def dG:Jf 0 (some (.own ds)::ρ) [] u=.ok (.next (some (toCl none u)::ρ)):=by unfold Jf;simp[treeOf]
def dH:Jf 0 (some (.ow (.Nv n ds))::ρ) [] u=.ok (.next (some (toCl (some n) u)::ρ)):=by unfold Jf;simp[treeOf]
def Yl:Jf 0 (some (.ow (.tree p t))::ρ) π u=.ok (.next (some (toCl p (EG t π u))::ρ)):=by unfold Jf;simp[treeOf]
def xJ:Jf (i+1) (o::ρ) π u=TQ (o::·) (Jf i ρ π u):=by
 unfold Jf TQ;simp only[zb5,zag];split
 ·rename_i c e;split<;>simp_all
 ·simp_all
def dI:XZ 0 (some (.own ds)::ρ) (.ok d)=if ds.length<1000 then .ok (.next (some (.own (ds++[d]))::ρ)) else .bad:=rfl
def xK:XZ (i+1) (o::ρ) m=TQ (o::·) (XZ i ρ m):=by
 unfold XZ;rw[zb5];cases q:ρ[i]? with
 |none=>rfl
 |some oo =>
  cases oo with
  |none=>rfl
  |some c =>
   cases c with
   |own ds =>
    cases m with
    |ok d =>
     simp only[M.A8,zag];by_cases h:ds.length<1000
     ·rw[if_pos h,if_pos h];rfl
     ·rw[if_neg h,if_neg h];rfl
    |ex x|bad=>rfl
   |val d|ow w=>rfl
def dJ:Y7 0 (some (.own ds)::ρ) (.ok (.int j)) (.ok d)=if 0<=j/\j.toNat<=ds.length/\ds.length<1000 then .ok (.next (some (.own (ds.take j.toNat++d::ds.drop j.toNat))::ρ)) else .bad:=rfl
def xM:Y7 (i+1) (o::ρ) m m2=TQ (o::·) (Y7 i ρ m m2):=by
 unfold Y7;rw[zb5];cases q:ρ[i]? with
 |none=>rfl
 |some oo =>
  cases oo with
  |none=>rfl
  |some c =>
   cases c with
   |own ds =>
    cases m with
    |ok d =>
     cases m2 with
     |ok d2 =>
      simp only[M.A8,zag];cases d with
      |int j =>
       dsimp only;by_cases h:0<=j/\j.toNat<=ds.length/\ds.length<1000
       ·rw[if_pos h,if_pos h];rfl
       ·rw[if_neg h,if_neg h];rfl
      |_=>rfl
     |ex x|bad=>rfl
    |ex x|bad=>rfl
   |val d|ow w=>rfl
def dM:VB 0 (some (.val d)::ρ)=.ok (.ret d):=rfl
def dN:VB 0 (some (.own ds)::ρ)=.ok (.Cq (.own ds)):=rfl
def kY:VB 0 (some (.ow w)::ρ)=.ok (.Cq (.ow w)):=rfl
def xN:VB (i+1) (o::ρ)=VB i ρ:=rfl
def abv:aaG i ρ π=match VC i ρ π with | some (.sh d)=>.ok d | _=>.bad:=rfl
def aaL:cQ (i+1) (o::ρ)=o::cQ i ρ:=by
 unfold cQ;simp only[zb5,zag];split<;>simp_all
def aaM {c}:cQ 0 (some c::ρ)=some (LM c)::ρ:=rfl
def dO:LM (.val d)=.val d:=rfl
def dP:LM (.own ds)=.val (.lst ds):=rfl
def dQ:LM (.ow (.Nv n ds))=.val (.lst ds):=rfl
def kZ:LM (.ow (.tree p t))=.val (er t):=rfl
def Ov:er (.BN b ks (vs.map .sh))=.BN b ks vs:=by rw[er,LN]
def LO:er (.lst (ds.map .sh))=.lst ds:=by rw[er,LN]
def R4:er (.sh d)=d:=rfl
def muC:Bb (none::l) ρ=none::Bb l ρ:=rfl
def muN:Bb [] ρ=[]:=rfl
def aaN:Bb (some i::l) ρ=(match ρ[i]? with | some (some (.val d))=>some (.val d) | _=>none)::Bb l ρ:=rfl
def aaO {α:Type}{x:α}{y}:(if ([]:List D).length<=1000 then x else y)=x:=if_pos (by show 0<=1000;decide)
def aaP {α:Type}{x:α}{y}{a:D}:(if [a].length<=1000 then x else y)=x:=if_pos (by show 1<=1000;decide)
def aaQ {α:Type}{x y:α}{a b:D}:(if [a,b].length<=1000 then x else y)=x:=if_pos (by show 2<=1000;decide)
def aaR {α:Type}{x y:α}{a b c:D}:(if [a,b,c].length<=1000 then x else y)=x:=if_pos (by show 3<=1000;decide)
def aaS {α:Type}{x:α}{y}{a b c}:(if [a,b,c,d].length<=1000 then x else y)=x:=if_pos (by show 4<=1000;decide)
def toCl_nil:toCl none (.lst [])=.own []:=rfl
def CD {α:Type}{gt:D->Ah->M Ah}{ft:Ah->M Bool}{fe:Ah->M D}{g:α->D}(p:α->Bool)(f:α->D):∀ {l:List α},(∀x∈l,∃ρ1,gt (g x) ρ=.ok ρ1/\ft ρ1=.ok (p x)/\(p x=true->fe ρ1=.ok (f x)))->B6 gt ft fe (l.map g) ρ=.ok ((l.filter p).map f)
 |[],_=>rfl
 |x::r,h=>by
  obtain⟨ρ1,h1,h2,h3⟩:=h x za3;have ih:=CD (gt:=gt) (ft:=ft) (fe:=fe) (g:=g) p f (l:=r) λ y hy=>h y (za4 _ hy);rw[za6,B6,h1];dsimp only;rw[h2];dsimp only;rw[List.filter_cons];cases hp:p x with
  |true =>
   rw[if_pos rfl,h3 hp];dsimp only;rw[ih];simp
  |false=>simp[ih]
def BP {α:Type}{g}(f:α->D){l:List α}(h:∀x∈l,∃ρ1,gt (g x) ρ=.ok ρ1/\ft ρ1=.ok true/\fe ρ1=.ok (f x)):B6 gt ft fe (l.map g) ρ=.ok (l.map f):=by
 have:=CD (gt:=gt) (ft:=ft) (fe:=fe) (ρ:=ρ) (g:=g) (λ _=>true) f (l:=l) λ x hx=>by
  obtain⟨ρ1,h1,h2,h3⟩:=h x hx;exact⟨ρ1,h1,h2,λ _=>h3⟩
 rw[this,List.filter_eq_self.mpr (λ _ _=>rfl)]
def BJ {α:Type}{g}{l:List α}(h:(l.map g)[i]?=some d):∃x,l[i]?=some x/\d=g x:=by
 rw[zaw] at h;cases q:l[i]? with
 |none=>rw[q] at h;cases h
 |some x=>rw[q] at h;cases h;exact⟨x,rfl,rfl⟩
def sA:kN (.lst (ds.map .sh))=.ok ds:=by unfold kN;simp[CP,kM]
def Ym {α:Type}{x:α}:kM (some x)=.ok x:=rfl
def lA:Qm i ρ (.sh d)=.ok (.next (ρ.set i (some (.val d)))):=rfl
def dR:Qm i ρ (.lst ts)=.ok (.next (ρ.set i (some (toCl none (.lst ts))))):=rfl
def dS:Qm i ρ (.tup ts)=.ok (.next (ρ.set i (some (.ow (.tree none (.tup ts)))))):=rfl
def dU:Qm i ρ (.BN b ks ts)=.ok (.next (ρ.set i (some (.ow (.tree none (.BN b ks ts)))))):=rfl
def dW:Qm i ρ (.ins x ns ts)=.ok (.next (ρ.set i (some (.ow (.tree none (.ins x ns ts)))))):=rfl
def lB:Yd (.sh d)=.ok (.ret d):=rfl
def dX:Yd (.lst ts)=.ok (.Cq (.ow (.tree none (.lst ts)))):=rfl
def dY:Yd (.tup ts)=.ok (.Cq (.ow (.tree none (.tup ts)))):=rfl
def dZ:Yd (.BN b ks ts)=.ok (.Cq (.ow (.tree none (.BN b ks ts)))):=rfl
def eA:Eo (.lst ds)=.ok (!ds.isEmpty):=rfl
def sC {a:Int}{m}(h0:0<=a)(h1:a<m)(s0:1<=s)(s1:s<m):(a+s)%m≠a:=by
 by_cases h:a+s<m
 ·rw[Int.emod_eq_of_lt (by omega) h];omega
 ·have e:(a+s)%m=(a+s-m)%m:=by rw[Int.sub_emod_right]
  rw[e,Int.emod_eq_of_lt (by omega) (by omega)];omega
def lC (i j:Int):XU k (.int i) (.int j)=.ok (.bl (decide (i=j))):=by
 rw[O9 (Ci _) (Ci _)];simp only[Br,Bool.beq_eq_decide_eq]
def lD (i j:Int):Vt k (.int i) (.int j)=.ok (.bl (!decide (i=j))):=by
 rw[Oa (Ci _) (Ci _)];simp only[Br,Bool.beq_eq_decide_eq]
def eB {i}:rG (.int i) (.int j)=.ok (.int (i+j)):=rfl
def eC {i}:wI (.int i) (.int j)=.ok (.int (i-j)):=rfl
def lE {i}:dLt (.int i) (.int j)=.ok (.bl (decide (i<j))):=rfl
def lF {i}:dLe (.int i) (.int j)=.ok (.bl (decide (i<=j))):=rfl
def lG {i}:dGt (.int i) (.int j)=.ok (.bl (decide (j<i))):=rfl
def lH {i}:dGe (.int i) (.int j)=.ok (.bl (decide (j<=i))):=rfl
def lI {i}:asI (.int i)=.ok (some i):=rfl
def eE:XX [.lst ds]=.ok (.int ds.length):=rfl
def eF:XX [.tup ds]=.ok (.int ds.length):=rfl
def ite_tt {α:Type}{x:α}{y}:(if true=true then x else y)=x:=rfl
def ite_ff {α:Type}{x:α}{y}:(if false=true then x else y)=y:=rfl
def VG {lo}(h:nT lo hi x=.ok (.lst ds)):Yh lo hi x=.ok (.lst (ds.map .sh)):=by
 unfold nT at h;unfold Yh;cases x with
 |lst xs=>dsimp only at h ⊢;injection h with h;injection h with h;rw[h]
 |_=>cases h
def TR (xs:List D)(k:Nat):Yh none (some (k:Int)) (.lst xs)=.ok (.lst ((xs.take k).map .sh)):=VG (cE xs k)
def Ox (xs:List D)(k:Nat):Yh (some (k:Int)) none (.lst xs)=.ok (.lst ((xs.drop k).map .sh)):=VG (cG xs k)
def lJ (xs:List D)(a b:Nat):Yh (some (a:Int)) (some (b:Int)) (.lst xs)=.ok (.lst (((xs.drop a).take (b-a)).map .sh)):=VG (kA xs a b)
def eG:Je (.lst ds)=.ok (.lst (ds.map .sh)):=rfl
def eI:Je (.tup ds)=.ok (.lst (ds.map .sh)):=rfl
def Yn {ns:List Int}:xE [.lst (ns.map D.int)]=.ok (.int ns.sum):=by unfold xE;dsimp only;rw[LI]
def Yo:Jl T (.lst ds)=.ok (.bl (F9 T (.lst ds))):=rfl
def Yp:Jl T (.tup ds)=.ok (.bl (F9 T (.tup ds))):=rfl
def Yq:Jl T (.int k)=.ok (.bl (F9 T (.int k))):=rfl
def Yr:Jl T .Ax=.ok (.bl (F9 T .Ax)):=rfl
def eJ:Jl T (.bl k)=.ok (.bl (F9 T (.bl k))):=rfl
def Ys:Jl T (.str k)=.ok (.bl (F9 T (.str k))):=rfl
def Yt:Jl T (.BN b ks vs)=.ok (.bl (F9 T (.BN b ks vs))):=rfl
def xO:F9 "list" (.lst ds)=true:=rfl
def xP:F9 "tuple" (.tup ds)=true:=rfl
def xQ:F9 "int" (.int k)=true:=rfl
def xR:F9 "bool" (.int k)=false:=rfl
def xS:F9 "dict" (.BN b ks vs)=true:=rfl
def Yu {ns:List Int}:MV neg (.int k) (.lst (ns.map D.int))=.ok (.bl (if neg then !ns.contains k else ns.contains k)):=by
 unfold MV zE;dsimp only;rw[LI]
abbrev vO (s:Option D):Option Cl:=s.map .val
def lK:Fb (vO s::ρ)=vO s::Fb ρ:=by cases s<;>rfl
end
abbrev VH (x:Int):List Int->List Int
 |[]=>[x]
 |y::r=>if x<=y then x::y::r else y::VH x r
abbrev HW:List Int->List Int
 |[]=>[]
 |x::r=>VH x (HW r)
def LP (x:Int):∀l:List Int,(VH x l).Perm (x::l)
 |[]=>.refl _
 |y::r=>by
  unfold VH;split
  ·exact .refl _
  ·exact ((LP x r).cons y).trans (.swap x y r)
def EK:∀l:List Int,(HW l).Perm l
 |[]=>.refl _
 |x::r=>(LP x (HW r)).trans ((EK r).cons x)
def Mq (x:Int):∀l:List Int,l.Pairwise (·<=·)->(VH x l).Pairwise (·<=·)
 |[],_=>by simp[VH]
 |y::r,h=>by
  unfold VH;have hy:=List.pairwise_cons.mp h;split
  ·rename_i ci;exact List.pairwise_cons.mpr ⟨λ z hz=>by
    rcases zab.mp hz with rfl|hz
    ·exact ci
    ·exact Int.le_trans ci (hy.1 z hz),h⟩
  ·rename_i ci;exact List.pairwise_cons.mpr ⟨λ z hz=>by
    rcases zab.mp ((LP x r).mem_iff.mp hz) with rfl|hz
    ·omega
    ·exact hy.1 z hz,Mq x r hy.2⟩
def Gv:∀l:List Int,(HW l).Pairwise (·<=·)
 |[]=>.nil
 |x::r=>Mq x _ (Gv r)
def HX:∀ {a b:List Int},a.Perm b->a.Pairwise (·<=·)->b.Pairwise (·<=·)->a=b
 |[],b,hp,_,_=>(List.nil_perm.mp hp).symm
 |x::r,[],hp,_,_=>by have:=hp.length_eq;simp at this
 |x::r,y::t,hp,ha,hb=>by
  have b7:=List.pairwise_cons.mp ha;have aE:=List.pairwise_cons.mp hb;have e:x=y:=by
   have h1:x∈y::t:=hp.mem_iff.mp (za3 ..);have h2:y∈x::r:=hp.mem_iff.mpr (za3 ..);rcases zab.mp h1 with e|h1
   ·exact e
   rcases zab.mp h2 with e|h2
   ·exact e.symm
   have:=b7.1 _ h2;have:=aE.1 _ h1;omega
  subst e;rw[HX (List.Perm.cons_inv hp) b7.2 aE.2]
def Kz:∀ {us:List Value}{ns:List Int},IntsAre us ns->Vals (ns.map V.int) us:=by
 intro _ _ x_;cases x_ with
 |nil=>exact .nil
 |cons n t h=>exact .cons ⟨t,rfl⟩ (Kz h)
def Oy {K}:∀l:List Int,Ak K H (l.map V.int) (l.map D.int)
 |[]=>.nil
 |x::r=>.cons (.int _) (Oy r)
section
variable {te:TE}
abbrev aaT (X:Cx)(te:TE):TE:=λ σ H Q=>te σ H λ x H1=>∃p ns,x=.ref p/\DB X.K H1 p (List.map V.int ns)/\ns.length<64/\∀r,H1 r=none->Q (.ref r) (upd H1 r (.lst ((HW ns).map V.int)))
def Yv (hc:X.calm=true)(hg:Gl X "sorted")(hm:X.mg "sorted" = none)(he:PE X e te)(hv:bootBuiltins "sorted" = some (.builtin "sorted"):=by decide +kernel)(hs: ~~~(starEach [e] X.env=[(false,eval e X.env)])):
 PE X (.Call (.Name "sorted" p) [e] [] pos) (aaT X te):=by
 intro pins s σ H Q I h;refine wpAny_Call_Name_kw (DY I hg hm hv ?_);refine PyProof.Rows.callWith_builtin1 ?_ hs;rw[hs];refine zby (B9 (he pins s σ H _ I h) λ u s1 zz=>?_);obtain⟨x,H1,I1,r1,q1⟩:=zz;obtain⟨q,ns,rfl,hq,wP,h⟩:=q1;cases r1;refine zcc ?_;obtain⟨aa,r',pl,hz⟩:=I1.list hq;have hi:=intsAre_of r';have ic:=r'.length;rw[za2] at ic;refine sorted_ints pl.isList hi (by omega) λ out c5 b1 b2 b3=>?_;obtain⟨c',be⟩:=sortedAll_at s1.heap aa out;have e:c5=HW ns:=HX (b2.trans (EK ns).symm) b3 (Gv ns);subst e;refine⟨.ref _,_,I1.laid (t':=s1.toks) (o:=.lst ((HW ns).map V.int)) (λ b o e=>sortedAll_old e) (Nat.le_succ _) ⟨?_,out.toList,c',Kz b1,by simpa using be⟩,rfl,h _ (I1.AF.fresh (Nat.le_succ _))⟩;rw[za2,(EK ns).length_eq];exact zbo (AA (by omega))
abbrev lL (d:D):M OT:=match d with
 | .lst xs=>(match DF xs with|some ns=>if ns.length<64 then .ok (.lst (((HW ns).map .int).map .sh)) else .bad|none=>.bad)
 |_=>.bad
def Yw (h:ns.length<64):lL (.lst (ns.map .int))=.ok (.lst (((HW ns).map .int).map .sh)):=by
 unfold lL;dsimp only;rw[LI];dsimp only;rw[if_pos h]
def Yx (hc:X.calm=true)(hg:Gl X "sorted")(hm:X.mg "sorted" = none)(he:DE X WX true e f)(hv:bootBuiltins "sorted" = some (.builtin "sorted"):=by decide +kernel)(hs: ~~~(starEach [e] X.env=[(false,eval e X.env)])):
 DN X WX (.Call (.Name "sorted" p) [e] [] pos) (λ ρ=>(f ρ).bind lL):=by
 obtain⟨te,e1,e2⟩:=he;refine⟨_,Yv hc hg hm e1 hv hs,λ P0 P σ H Q ρ E h=>?_⟩;refine e2 P0 P σ H _ ρ E ?_;dsimp only at h;refine XR h λ d h=>?_;intro v H1 s1 hv;unfold lL at h;split at h
 ·rename_i xs;split at h
  ·rename_i ns eb;have:=J5 eb;subst this;split at h
   ·rename_i hl;cases hv with
    |lst hs hh =>
     have:=Gr hh;subst this;exact⟨_,ns,rfl,hs.Bf,hl,h.Je s1 (Oy _)⟩
   ·exact h.elim
  ·exact h.elim
 ·exact h.elim
abbrev lM (d k:D):M OT:=match k with
 | .int j=>if 0<=j/\j.toNat<=1000 then .ok (.lst ((zak j.toNat d).map .sh)) else .bad
 |_=>.bad
def TU {n:Nat}(h:n<=1000):lM d (.int (n:Int))=.ok (.lst ((zak n d).map .sh)):=by
 unfold lM;dsimp only;rw[if_pos ⟨by omega,by omega⟩,zbg]
def eK (ha:DE X WX true a f)(hb:DE X WX true b g)(a7: ~~~(starEach [a] X.env=[(false,eval a X.env)])):
 DN X WX (.BinOp (.List [a] qk) .Mult b pos) (λ ρ=>(f ρ).bind λ d=>(g ρ).bind λ k=>lM d k):=by
 obtain⟨ta,a1,a2⟩:=ha;obtain⟨tb,b1,b2⟩:=hb;refine⟨_,Zw qV (Vh (Bc a1 Cd a7)) b1,λ P0 P σ H Q ρ E h=>?_⟩;dsimp only at h;refine a2 P0 P σ H _ ρ E ?_;refine XR h λ d h=>?_;intro v H1 s1 hv;have E1:=E.same s1;refine⟨zbo (AA (by simp)),λ p hp=>?_⟩;have s2:Aj H1 (upd H1 p (.lst [v])):=AK hp _;have E2:=E1.same s2;refine b2 P0 P σ _ _ ρ E2 ?_;cases q2:g ρ with
 |bad=>rw[q2] at h;exact h
 |ex x=>rw[q2] at h;exact λ H' s3=>h H' ((s1.trans s2).trans s3)
 |ok k =>
  rw[q2] at h;simp only[M.A8] at h;unfold lM at h;intro w H3 s3 hw;cases k with
  |int j =>
   dsimp only at h;by_cases hj:0<=j/\j.toNat<=1000
   ·rw[if_pos hj] at h;cases hw;refine⟨p,j,[v],rfl,rfl,s3 _ _ An,by omega,by omega,zbo (AA (by simp;omega)),?_⟩;rw[QV];exact h.Je ((s1.trans s2).trans s3) (TB ((hv.mono s2.del).mono s3.del) j.toNat)
   ·rw[if_neg hj] at h;exact h.elim
  |_=>exact h.elim
end
abbrev lN (f:Str):List Str->List D->Option D
 |n::ns,d::ds=>if f==n then some d else lN f ns ds
 |_,_=>none
def TV {K:za1}{H:Hp}{f:Str}:∀ {fs:List (Str×V)}{ds:List D}{d:D},Ak K H (fs.map zbu) ds->lN f (fs.map zay) ds=some d->∃v,fs.lookup f=some v/\BF K H v d
 |[],ds,d,_,h=>by simp[lN] at h
 |(n,v)::fs,_,d,.cons hv ht,h=>by
  rw[za6,lN] at h;rw[zbz];cases q:f==n with
  |true=>rw[q,if_pos rfl] at h;cases h;exact⟨v,rfl,hv⟩
  |false=>rw[q,if_neg (by simp)] at h;exact TV ht h
def HY {K:za1}{H:Hp}{f:Str}:∀ {fs:List (Str×V)}{ds:List D},Ak K H (fs.map zbu) ds->lN f (fs.map zay) ds=none->fs.lookup f=none
 |[],ds,_,h=>rfl
 |(n,v)::fs,_,.cons hv ht,h=>by
  rw[za6,lN] at h;rw[zbz];cases q:f==n with
  |true=>rw[q,if_pos rfl] at h;cases h
  |false=>rw[q,if_neg (by simp)] at h;exact HY ht h
structure FQ (K:za1)(x f:Str):Prop where
 ex:∃C,zan K mainGlobals x=some (some (.ref C))/\SM K C/\JM K C f
abbrev Jg (cs:List Str)(f:Str)(d:D):M D:=match d with
 | .ins x ns ds=>if x∈cs then (match lN f ns ds with|some e=>.ok e|none=>.bad) else .bad
 |_=>.bad
section
variable {fs:Ah->M (List D)}{te:TE}
def BB (cs:List Str){fl}(ie:∀x∈cs,FQ X.K x fl)(ha:DE X WX c a f)(hb: ~~~(attributeBase a fl X.env (eval a X.env)=eval a X.env)):DE X WX c (.Attribute a fl pos) (λ ρ=>(f ρ).bind (Jg cs fl)):=by
 obtain⟨ta,a1,a2⟩:=ha;refine⟨_,qI a1 hb,λ P0 P σ H Q ρ E h=>?_⟩;dsimp only at h;refine a2 P0 P σ H _ ρ E ?_;cases e:f ρ with
 |bad|ex x=>rw[e] at h;exact h
 |ok d =>
  rw[e] at h;simp only[M.A8] at h;intro v H1 s1 hv;unfold Jg at h;split at h
  ·rename_i x ns ds;split at h
   ·rename_i hx;split at h
    ·rename_i d' el;cases hv with
     |ins hn ha hl =>
      obtain⟨C,aR,hc,cj⟩:=(ie x hx).ex;rw[hn] at aR;cases aR;obtain⟨v',l1,l2⟩:=TV hl el;exact⟨_,_,_,_,v',rfl,(Al ha).2,hc,cj,l1,h v' H1 s1 l2⟩
    ·exact h.elim
   ·exact h.elim
  ·exact h.elim
structure KA (K:za1)(x m qual:Str)(st:Stmt)(ps:List Str):Prop where
 ex:∃C f fd,zan K mainGlobals x=some (some (.ref C))/\SM K C/\Meth K C m f/\Ze K m qual st f fd/\Binds K fd ps []
structure Fc (P:Program)(w:World)(K:za1)(mg:Str->Option Value)(base:Heap)(x m:Str)(k n:Nat)(F:List D->M OT):Prop where
 ex:∃C fa fd ps,zan K mainGlobals x=some (some (.ref C))/\SM K C/\Meth K C m fa/\Cw P w K mg base (Q7 P w base) k fa fd ps (spT K n F)/\Binds K fd ps []
def Gw {P}{K}{st}(T:KA K x m qual st ps)(S:Ac N ps (A3 st))(g:Ah->M Out)(hb:∀(f:Addr) (AX:Value) (A:Around) (outer:List Env) (s:Shared) (H:Hp) (E:XK),Bm k (A.deeper (envOfC qual (A3 st) s.heap.objs.size f AX))->SR (iG P w K mg base N qual (A3 st) f AX A outer s H E) (CC K E) (Az st) g)(hn: ~~~(ps.length=n)):
 Fc P w K mg base x m (k+1) n (λ ds=>TJ (g (CN N ds))):=by
 obtain⟨C,f,fd,h1,h2,h3,F,hB⟩:=T.ex;subst hn;exact⟨⟨C,f,fd,ps,h1,h2,h3,xA F S g (hb f),hB⟩⟩
abbrev zH (x:Str):List (Str×(List D->M OT))->Option (List D->M OT)
 |[]=>none
 |(y,F)::r=>if x=y then some F else zH x r
def X0:∀ {ms:List (Str×(List D->M OT))},zH x ms=some F->(x,F)∈ms
 |[],h=>by cases h
 |(y,G)::r,h=>by
  unfold zH at h;split at h
  ·rename_i e;cases h;subst e;exact za3
  ·exact za4 _ (X0 h)
abbrev Dk (ms:List (Str×(List D->M OT)))(m:Str)(d:D):M (List D->M OT):=match d with
 | .ins x ns es=>(match zH x ms with
  |some F=>(match lN m ns es with|none=>.ok F|some _=>.bad)
  |none=>.bad)
 |_=>.bad
def KC (h:Dk ms m d=.ok F):∃x ns es,d=.ins x ns es/\(x,F)∈ms/\lN m ns es=none:=by
 unfold Dk at h;split at h
 ·rename_i x ns es;split at h
  ·rename_i G e;split at h
   ·rename_i e2;cases h;exact⟨x,ns,es,rfl,X0 e,e2⟩
   ·cases h
  ·cases h
 ·cases h
def J7:Dk ms m d≠.ex x:=λ h=>by
 unfold Dk at h;split at h
 ·split at h
  ·split at h<;>cases h
  ·cases h
 ·cases h
abbrev eL (X:Cx)(m:Str)(k:Nat)(E:XK)(ta:TE)(t:TA):TE:=λ σ H Q=>ta σ H λ x H1=>∃a C dx fs f fd ps n F,x=.ref a/\H1 a=some (.ins C dx fs)/\fs.lookup m=none/\SM X.K C/\Meth X.K C m f/\Cw X.prog X.w X.K X.mg X.base (Q7 X.prog X.w X.base) k f fd ps (spT X.K n F)/\Binds X.K fd ps []/\
 t σ H1 λ vs H2=>spT X.K n F (x::vs) H2 Q E
def eM (he:PE X o ta)(hr:Bm k X.A)(hx:Fs (Q7 X.prog X.w X.base) X E)(ha:PA X (e::es) t)(a7: ~~~(starEach (e::es) X.env=(false,eval e X.env)::starEach es X.env))(hpl: ~~~((backTo pos (starEach es X.env)).any (·.1)=false))(ht: ~~~(eval (.Call (.Attribute o m apos) (e::es) [] pos) X.env=(do
  let ov <-eval o X.env
  standAt apos.atName
  let (f,first) <-holding [ov] (getMethod ov m pl)
  callWith pos f first (backTo pos (starEach (e::es) X.env)) (backToKw pos (keywordEach [] X.env))))):
 PE X (.Call (.Attribute o m apos) (e::es) [] pos) (eL X m k E ta t):=by
 intro pins s σ H Q I h;refine PySem.W.methodCall_KW (pl:=pl) (B9 (he pins s σ H _ I h) λ u s1 zz=>?_) ht;obtain⟨x,H1,I1,rx,a,C,dx,fs,f,fd,ps,n,F,ex,ea,l,c,hm,hF,hb,q⟩:=zz;subst ex;obtain rfl:u=zb7 a:=rx;refine Gg I1 ea c hm l ?_;refine PySem.W.callWith_K (first:=[.ref a]) (h₀:=X.base) I.ok.mod.V1 hm.kp (B9 (ha pos pins s1 σ H1 _ I1 q) λ us s2 ⟨vs,H2,I2,r,q2⟩=>⟨I2.Mh,?_⟩) a7 hpl;exact Ls (us:=.ref a::us) (vs:=.ref a::vs) hF hr hb .nil hx I2 (.cons rfl r) (by rw[zbi];exact q2)
def Yy (he:PE X o ta)(hr:Bm k X.A)(hx:Fs (Q7 X.prog X.w X.base) X E)(ht: ~~~(eval (.Call (.Attribute o m apos) [] [] pos) X.env=(do
  let ov <-eval o X.env
  standAt apos.atName
  let (f,first) <-holding [ov] (getMethod ov m pl)
  callWith pos f first (backTo pos (starEach [] X.env)) (backToKw pos (keywordEach [] X.env))))):
 PE X (.Call (.Attribute o m apos) [] [] pos) (eL X m k E ta qK):=by
 intro pins s σ H Q I h;refine PySem.W.methodCall_KW (pl:=pl) (B9 (he pins s σ H _ I h) λ u s1 zz=>?_) ht;obtain⟨x,H1,I1,rx,a,C,dx,fs,f,fd,ps,n,F,ex,ea,l,c,hm,hF,hb,q⟩:=zz;subst ex;obtain rfl:u=zb7 a:=rx;refine Gg I1 ea c hm l ?_;exact PySem.W.callWith_K0 (first:=[.ref a]) I1.Mh hm.kp (Ls (us:=[.ref a]) (vs:=[.ref a]) hF hr hb .nil hx I1 (.cons rfl .nil) q)
def X1 {P}{K}{f}(h:k<=k')(F:Cw P w K mg base CX k f fd ps sp):Cw P w K mg base CX k' f fd ps sp:=
 ⟨F.len,λ A stack s H args us vs Q E hr=>F.run A stack s H args us vs Q E (hr.mono h)⟩
def Ff (ms:List (Str×(List D->M OT)))(xo:FN X E)(ql:∀p∈ms,∃k',k'<=k/\Fc X.prog X.w X.K X.mg X.base p.1 m k' n p.2)(hr:Bm k X.A)(ho:DE X (CC X.K E) true o fo)(ha:DA X (CC X.K E) true (e::es) fs)(aD:(e::es).length+1=n)(a7: ~~~(starEach (e::es) X.env=(false,eval e X.env)::starEach es X.env))(hpl: ~~~((backTo pos (starEach es X.env)).any (·.1)=false))(ht: ~~~(eval (.Call (.Attribute o m apos) (e::es) [] pos) X.env=(do
  let ov <-eval o X.env
  standAt apos.atName
  let (f,first) <-holding [ov] (getMethod ov m pl)
  callWith pos f first (backTo pos (starEach (e::es) X.env)) (backToKw pos (keywordEach [] X.env))))):
 DN X (CC X.K E) (.Call (.Attribute o m apos) (e::es) [] pos) (λ ρ=>(fo ρ).bind λ d=>(Dk ms m d).bind λ F=>(fs ρ).bind λ ds=>F (d::ds)):=by
 obtain⟨ta,a1,a2⟩:=ho;obtain⟨tb,b1,b2,b3⟩:=ha;refine⟨_,eM (pl:=pl) a1 hr xo.call b1 a7 hpl ht,λ P0 P σ H Q ρ Ev h=>?_⟩;dsimp only at h;refine a2 P0 P σ H _ ρ Ev ?_;refine XR h λ d h=>?_;intro v H1 s1 hv;cases q2:Dk ms m d with
 |bad=>rw[q2] at h;exact h.elim
 |ex y=>exact (J7 q2).elim
 |ok F =>
  rw[q2] at h;simp only[M.A8] at h;obtain⟨x,ns,qm,rfl,aM,f9⟩:=KC q2;obtain⟨k',ji,M0⟩:=ql _ aM;obtain⟨C,fa,fd,ps,h1,h2,h3,h4,h5⟩:=M0.ex;cases hv with
  |ins hn hH hl =>
   rw[hn] at h1;cases h1;refine⟨_,_,_,_,fa,fd,ps,n,F,rfl,(Al hH).2,HY hl f9,h2,h3,X1 ji h4,h5,?_⟩;refine b2 P0 P σ H1 _ ρ (Ev.same s1) ?_;cases q3:fs ρ with
   |bad=>rw[q3] at h;exact h
   |ex y=>rw[q3] at h;exact λ H' s=>h H' (s1.trans s)
   |ok ds =>
    rw[q3] at h;simp only[M.A8] at h;intro vs H2 s2 ay;have bg:=(BF.ins hn hH hl).mono s2.del;exact⟨by rw[za8,ay.length,b3 ρ ds q3];exact aD,P,_,((Ev.same s1).same s2).BX,.cons bg ay,h.same (s1.trans s2)⟩
def DK (ms:List (Str×(List D->M OT)))(xo:FN X E)(ql:∀p∈ms,∃k',k'<=k/\Fc X.prog X.w X.K X.mg X.base p.1 m k' 1 p.2)(hr:Bm k X.A)(ho:DE X (CC X.K E) true o fo)(ht: ~~~(eval (.Call (.Attribute o m apos) [] [] pos) X.env=(do
  let ov <-eval o X.env
  standAt apos.atName
  let (f,first) <-holding [ov] (getMethod ov m pl)
  callWith pos f first (backTo pos (starEach [] X.env)) (backToKw pos (keywordEach [] X.env))))):
 DN X (CC X.K E) (.Call (.Attribute o m apos) [] [] pos) (λ ρ=>(fo ρ).bind λ d=>(Dk ms m d).bind λ F=>F [d]):=by
 obtain⟨ta,a1,a2⟩:=ho;refine⟨_,Yy (pl:=pl) a1 hr xo.call ht,λ P0 P σ H Q ρ Ev h=>?_⟩;dsimp only at h;refine a2 P0 P σ H _ ρ Ev ?_;refine XR h λ d h=>?_;intro v H1 s1 hv;cases q2:Dk ms m d with
 |bad=>rw[q2] at h;exact h.elim
 |ex y=>exact (J7 q2).elim
 |ok F =>
  rw[q2] at h;simp only[M.A8] at h;obtain⟨x,ns,qm,rfl,aM,f9⟩:=KC q2;obtain⟨k',ji,M0⟩:=ql _ aM;obtain⟨C,fa,fd,ps,h1,h2,h3,h4,h5⟩:=M0.ex;cases hv with
  |ins hn hH hl =>
   rw[hn] at h1;cases h1;refine⟨_,_,_,_,fa,fd,ps,1,F,rfl,(Al hH).2,HY hl f9,h2,h3,X1 ji h4,h5,?_⟩;exact⟨rfl,P,_,(Ev.same s1).BX,.cons (BF.ins hn hH hl) .nil,h.same s1⟩
end
section
variable {fs:Ah->M (List D)}{te:TE}
structure sD (K:za1)(mg:Str->Option Value)(x:Str)(C:Addr):Prop where
 ns:zan K mainGlobals x=some (some (.ref C))
 mg':mg x=some (.ref C)
def Yz (hp:H p=none)(hd:H dx=none):Aj H (upd (upd H dx (.own p)) p (.ins C dx [])):=λ b u q=>by
 rw[Ai (AO q hp),Ai (AO q hd)];exact q
structure xT (P:Program)(w:World)(K:za1)(mg:Str->Option Value)(base:Heap)(x:Str)(k n:Nat)(F:OT->List D->M (OT×OT)):Prop where
 ex:∃C fa fd ps,sD K mg x C/\Mk K C fa/\Cw P w K mg base (Q7 P w base) k fa fd ps (R3 K n F)/\Binds K fd ps []
abbrev R5 (m:M (OT×OT)):M OT:=match m with
 | .ok (t,.sh .Ax)=>.ok t
 |_=>.bad
def NH (xo:FN X E)(G:xT X.prog X.w X.K X.mg X.base x k n F)(hr:Bm (k+1) X.A)(hg:Gl X x)(ha:DA X (CC X.K E) true (e::es) fs)(aD:(e::es).length+1=n)(aI:(x==("__debug__" : Str))=false:=by decide)(he: ~~~(starEach (e::es) X.env=(false,eval e X.env)::starEach es X.env))(hpl: ~~~((backTo pos (starEach es X.env)).any (·.1)=false)):
 DN X (CC X.K E) (.Call (.Name x p) (e::es) [] pos) (λ ρ=>(fs ρ).bind λ ds=>R5 (F (.ins x [] []) ds)):=by
 obtain⟨C,fa,fd,ps,hT,hM,hF,hb⟩:=G.ex;obtain⟨ta,a1,a2,a3⟩:=ha;refine⟨_,iX hM hF hr hg hT.mg' hb .nil xo.call a1 aI he hpl,λ P0 P σ H Q ρ Ev h=>?_⟩;dsimp only at h;refine a2 P0 P σ H _ ρ Ev ?_;cases q:fs ρ with
 |bad|ex x=>rw[q] at h;exact h
 |ok ds =>
  rw[q] at h;simp only[M.A8] at h;intro vs H1 s1 ay y dx hy hd ad;rw[zbi];have E1:=Ev.same s1;have sm:=Yz (C:=C) hy hd;have cb:∀a∈[y],H1 a=none:=λ a ha=>by rw[za9.mp ha];exact hy
  refine⟨by rw[za8,ay.length,a3 ρ ds q];exact aD,PU P [y],y,.ins x [] [],[y],vs,ds,rfl,λ a ha=>?_,λ a ha=>.inr ha,by simp,BS.ins (fs:=[]) hT.ns An .nil,ay.mono (Ca sm cb),?_⟩
  ·rcases ha with ha|ha
   ·exact (E1.BX a ha).same sm
   ·rw[za9.mp ha];exact⟨_,An,λ xs=>⟨(λ z=>by cases z),(λ z w=>by cases w)⟩⟩
  ·cases q2:F (.ins x [] []) ds with
   |bad|ex z=>rw[q2] at h;exact h
   |ok tr =>
    obtain⟨t,r⟩:=tr;rw[q2] at h;simp only[R5] at h;intro v H' P' ag fr k1 k2 k3 k4 k5 k6 k7 k8 k9 ur;cases r with
    |sh d =>
     cases d with
     |Ax =>
      cases k6 with
      |sh hv =>
       cases hv;refine⟨rfl,h _ ag H' ?_ ?_ k5 ?_⟩
       ·intro b u eb;have e1:=s1 b u eb;have ig:b≠y:=λ z=>by rw[z,hy] at e1;cases e1
        have e2:=sm b u e1;by_cases hP:P b
        ·exact (k1 b (.inl hP) (by simp[ig])).2.trans e2
        ·exact (Al (k3 b u (by rw[AB λ z=>z.elim hP λ w=>ig (za9.mp w)];exact e2))).2
       ·intro b uw;cases eb:H b with
        |none=>rfl
        |some u =>
         exfalso;have e1:=s1 b u eb;have ig:b≠y:=λ z=>by rw[z,hy] at e1;cases e1
         have e2:=sm b u e1;have hn:=λ z=>ig (za9.mp ((k9 b uw).2 z));exact (Al (k3 b u (by rw[AB hn];exact e2))).1 (k9 b uw).1
       ·refine k4.move (λ b u eb=>?_) λ _ _=>rfl;obtain⟨g1,g2⟩:=Al eb;rw[AB]
        ·exact g2
        ·rintro (z|z)
         ·have ig:b≠y:=λ w=>by
           obtain⟨o,e1,_⟩:=E1.BX b z;rw[w,hy] at e1;cases e1
          exact g1 (k1 b (.inl z) (by simp[ig])).1
         ·exact g1 (k9 b z).1
     |_=>exact h.elim
    |_=>exact h.elim
end
abbrev R6 (i:Nat)(ρ:Ah)(π:List Nat):M (Str×List Str×List D):=match VC i ρ π with
 |some (.ins x ns ts)=>(match EH ts with|some vs=>.ok (x,ns,vs)|none=>.bad)
 |_=>.bad
def eO (h:R6 i ρ π=.ex x):False:=by
 unfold R6 at h;split at h
 ·split at h<;>cases h
 ·cases h
abbrev eQ (f:Str):List Str->List Str
 |[]=>[f]
 |g::r=>if g=f then g::r else g::eQ f r
abbrev eR (f:Str)(d:D):List Str->List D->List D
 |[],_=>[d]
 |g::r,e::t=>if g=f then d::t else e::eR f d r t
 |_::_,[]=>[]
def TX (f:Str)(v:V):∀fs:List (Str×V),(EB f v fs).map zay=eQ f (fs.map zay)
 |[]=>rfl
 |(g,x)::r=>by
  rw[za6,eQ,EB];split
  ·rfl
  ·rw[za6,TX f v r]
def TY {K}{f}(hv:BF K H v d):∀ {fs:List (Str×V)}{ds:List D},Ak K H (fs.map zbu) ds->Ak K H ((EB f v fs).map zbu) (eR f d (fs.map zay) ds)
 |[],_,.nil=>.cons hv .nil
 |(g,x)::r,_,.cons hx ht=>by
  rw[za6,eR,EB];split
  ·exact .cons hv ht
  ·exact .cons hx (TY hv ht)
section
variable {fp:Ah->M (List Nat)}{i:Nat}{fs:Ah->M (List D)}
def Bi.ins {K}(pl:Bi K P H σ ρ i π v t1)(E:Am K P0 P H σ ρ)(h:R6 i ρ π=.ok (x,ns,vs)):
 t1=.ins x ns (vs.map .sh)/\∃l C dx fs,v=.ref l/\Ak K (del H P) (fs.map zbu) vs/\BS K H P (.ref l) (.ins x ns (vs.map .sh)) [l]/\zan K mainGlobals x=some (some (.ref C))/\H l=some (.ins C dx fs)/\ns=fs.map zay:=by
 unfold R6 at h;rw[pl.at] at h;split at h
 ·rename_i x' c5 qe e;split at h
  ·rename_i aB e';cases e;cases h;have z:=Dj e';subst z;obtain⟨ap,o1,hp,nd⟩:=pl.own E;generalize ht:OT.ins x ns (vs.map .sh)=t at o1;cases o1 with
   |ins hn hh hr =>
    injection ht with h1 h2 h3
    subst h1 h2 h3;obtain⟨rfl,hs⟩:=hr.rR;exact⟨rfl,_,_,_,_,rfl,hs,.ins hn hh hr,hn,hh,rfl⟩
   |_=>cases ht
  ·cases h
 ·cases h
def Gx (cs:List Str){fl}(ie:∀x∈cs,FQ X.K x fl)(ha:DP X WX a i fp)(hv:DE X WX true e f)(hs: ~~~(swapsWith e (some (.Attribute a fl pos')) pos.line X.env=pure false)):
 DS X WX (.Assign [.Attribute a fl pos'] e pos) (λ ρ=>(f ρ).bind λ v=>(fp ρ).bind λ π=>(R6 i ρ π).bind λ z=>if z.1∈cs/\z.2.1.length<1000 then Jf i ρ π (.ins z.1 (eQ fl z.2.1) ((eR fl v z.2.1 z.2.2).map .sh)) else .bad):=by
 obtain⟨ta,a1,a2⟩:=ha;obtain⟨tv,v1,v2⟩:=hv;refine⟨_,qJ a1 v1 hs,λ P0 P σ H Z ρ E h=>?_⟩;dsimp only at h;refine v2 P0 P σ H _ ρ E ?_;refine iF h E λ d h=>?_;intro w H0 s0 hw;have E0:=E.same s0;refine a2 P0 P σ H0 _ ρ E0 ?_;cases q:fp ρ with
 |bad=>rw[q] at h;exact h
 |ex x=>rw[q] at h;exact λ H' s=>h H' P ((E.tr s0).trans (E0.tr s))
 |ok π =>
  rw[q] at h;simp only[M.A8] at h;intro v t1 H1 s1 pl;have E1:=E0.same s1;have wS:=(E.tr s0).trans (E0.tr s1);cases q3:R6 i ρ π with
  |bad=>rw[q3] at h;exact h.elim
  |ex x=>exact (eO q3).elim
  |ok z =>
   obtain⟨x,ns,vs⟩:=z;rw[q3] at h;simp only[M.A8] at h;by_cases hc:x∈cs/\ns.length<1000
   ·rw[if_pos hc] at h;obtain⟨rfl,l,C,dx,fs,rfl,cy,ot,hn,hH,rfl⟩:=pl.ins E1 q3;obtain⟨C',aR,c8,cj⟩:=(ie x hc.1).ex;rw[hn] at aR;cases aR;have wT:=hw.mono s1.del;obtain⟨c,p,t0,g1,g2,E3,t3⟩:=E1.rW (o':=.ins C dx (EB fl w fs)) (u:=.ins x (eQ fl (fs.map zay)) ((eR fl d (fs.map zay) vs).map .sh)) pl ot (λ _=>⟨λ z=>(by cases z),λ _ z=>by cases z⟩) (λ mv=>by
     have:=BS.ins (K:=X.K) (H:=upd H1 l (.ins C dx (EB fl w fs))) (P:=P) (p:=l) (fs:=EB fl w fs) (x:=x) hn An (((TY wT cy).mono mv).ows);rw[TX] at this;exact this)
    rw[J6 g1 g2] at h;exact⟨l,C,dx,fs,rfl,hH,c8,cj,by have:=hc.2;rw[za2] at this;exact this,h _ _ _ (wS.trans t3) E3⟩
   ·rw[if_neg hc] at h;exact h.elim
end
section
variable {fp:Ah->M (List Nat)}{i:Nat}{fs:Ah->M (List D)}
abbrev eS (i:Nat)(ρ:Ah)(π:List Nat)(ds:List D):M (Ah×OT):=match ds[ds.length-1]? with
 |some d=>(match ρ[i]? with
  |some (some c)=>(match treeOf c with|some (p,t)=>.ok (ρ.set i (some (toCl p (EG t π (.lst (ds.dropLast.map .sh))))),.sh d)|none=>.bad)
  |_=>.bad)
 |none=>.bad
def X2 {c}(h:ρ[i]?=some (some c))(ht:treeOf c=some (p,t))(hd:ds[ds.length-1]?=some d):eS i ρ π ds=.ok (ρ.set i (some (toCl p (EG t π (.lst (ds.dropLast.map .sh))))),.sh d):=by
 unfold eS;simp only[h,ht,hd]
def Qo {K}(h:Ak K H vs ds):Ak K H vs.dropLast ds.dropLast:=by
 rw[List.dropLast_eq_take,List.dropLast_eq_take,h.length];exact LJ _ h
def sE (ha:DP X WX a i fp)(aj: ~~~(attributeBase a "pop" X.env (eval a X.env)=eval a X.env))(ak: ~~~((apos.endLine==ac.line)=true)):
 DX X WX (.Call (.Attribute a "pop" apos) [] [] ac) (λ ρ=>(fp ρ).bind λ π=>(V3 i ρ π).bind λ ds=>eS i ρ π ds):=by
 obtain⟨ta,a1,a2⟩:=ha;refine⟨_,ZQ zc9 PySem.F.slot_list_pop PySem.F.type_list_pop qT a1 aj ak,λ P0 P σ H Q ρ E h=>?_⟩;dsimp only at h;refine a2 P0 P σ H _ ρ E ?_;cases q:fp ρ with
 |bad=>rw[q] at h;exact h
 |ex x=>rw[q] at h;exact λ H' s=>h H' P (E.tr s)
 |ok π =>
  rw[q] at h;simp only[M.A8] at h;intro v t1 H1 s1 pl;have E1:=E.same s1;cases q1:V3 i ρ π with
  |bad=>rw[q1] at h;exact h.elim
  |ex x=>exact (cU q1).elim
  |ok ds =>
   rw[q1] at h;simp only[M.A8] at h;obtain⟨rfl,l,xs,rfl,hl,ol⟩:=pl.shl E1 q1;refine⟨.inl ⟨rfl,xs,.of hl⟩,?_⟩;cases hd:ds[ds.length-1]? with
   |none=>unfold eS at h;rw[hd] at h;exact h.elim
   |some d =>
    obtain⟨y,hy,mo⟩:=ol.get hd;obtain⟨c,p,t0,g1,g2,E3,t3⟩:=E1.kH pl hl ol.ows (us:=ds.dropLast.map .sh) (ys:=xs.dropLast) (Qo ol).ows (by simp) (by simp) (by simp);rw[X2 g1 g2 hd] at h;refine⟨l,xs,y,rfl,rfl,hl,by rw[ol.length];exact hy,?_⟩;have sd:Aj (del H1 P) (del (upd H1 l (.lst xs.dropLast)) P):=t3.1;exact h y [] _ _ ((E.tr s1).trans t3) E3 (.sh (mo.mono sd)) (by simp) (by simp)
end
def AU {K}{f}:∀y∈([]:List Str),FQ K y f:=λ y h=>by cases h
def Aw {K}{f}(h:FQ K x f)(t:∀y∈xs,FQ K y f):∀y∈x::xs,FQ K y f:=λ y hy=>by
 rcases zab.mp hy with rfl|hy
 ·exact h
 ·exact t y hy
def BG {P}{K}:∀p∈([]:List (Str×(List D->M OT))),∃k',k'<=k/\Fc P w K mg base p.1 m k' n p.2:=λ p h=>by cases h
def Bl {P}{K}(hk:k'<=k)(h:Fc P w K mg base x m k' n F)(t:∀p∈ms,∃k',k'<=k/\Fc P w K mg base p.1 m k' n p.2):
 ∀p∈(x,F)::ms,∃k',k'<=k/\Fc P w K mg base p.1 m k' n p.2:=λ p hp=>by
 rcases zab.mp hp with rfl|hp
 ·exact⟨k',hk,h⟩
 ·exact t p hp
end L2
set_option maxRecDepth 1000000
set_option autoImplicit true
set_option relaxedAutoImplicit true
set_option maxHeartbeats 0
namespace L2
open PySem
def R7:entryFor table "dict.update.loop" = some Builtin.«dict.update.loop»:=by unfold entryFor;rfl
open PySem PySem.Spec PySem.Calls PyProof.Rows PySem.W PySem.Builtin PySem.Builtin.ObjectAttr
variable {prog:Program}{E:XK}{X:Cx}{WX:Str->Hp->Prop}{P0:DZ}{σ:St}{ρ:Ah}{e tg iter ek:Expr}{fn:Ah->M OT}{pos az:Pos}{mg:Str->Option Value}{base:Heap}{rk:Int->Nat}{L:List Int}{ft:Ah->M Bool}{gt:D->Ah->M Ah}{fi:Ah->M (List D)}{es:List Expr}{fk:Ah->M D}
section
variable {w:World}{A:Around}{E:Value->Shared->Prop}{s:Shared}
def call_meets {id}{rest}{Sp}(SL:Slot T nm id)(hB:entryFor table id=some B)(ht:s.TypeIs self T)(ha:argsOk id ⟨self::rest,[]⟩)(m:Meets (B ⟨self::rest,[]⟩) Sp)(h:Sp A (λ r s'=>match r with | .ok (.ret v)=>Q v s' | .ok _=>False | .error e=>E e s') s):wpAny (model prog w) A (call (.builtin id) (self::rest)) Q E s:=
 wpAny_call (codeAny_call_builtin SL.plain hB (SL.check _ _ _ _ _ _ _ _ ht ha (m prog w A _ s h)))
def TZ (hh:A.handled=none)(hl:s.heap.get? l=some {cls:=.type "list",data:=.seq xs k,slots:=sl})(h:∀h' tk,(∀b o,s.heap.get? b=some o->h'.get? b=some o)->Q none {s with heap:=h',toks:=tk}):wpAny (model prog w) A (getAttr? (.ref l) "keys") Q E s:=by
 have miss:typeLookup (.type "list") "keys" = pure none:=am_miss_of_fast (by decide +kernel);have T0:∀hp:Heap,hp.get? l=some {cls:=.type "list",data:=.seq xs k,slots:=sl}->Looks (model prog w) hp (typeOf (.ref l)) (.type "list"):=λ hp e=>(Looks.ld e).andThen .now;have SL:=PySem.F.slot_list_getattribute;have aA:(onTheHeap (Value.type "list")&&Value.builtin "list.__getattribute__" == Value.builtin "object.__getattribute__")=false:=rfl;have mq:(false&&onTheHeap (Value.builtin "list.__getattribute__"))=false:=rfl;unfold getAttr? getAttrBy?;refine wpAny_bind (wpAny_mkText (wpAny_bind (wpAny_attempt ?_)));unfold getAttrBy;refine wpAny_holding (wpAny_bind ((T0 _ hl).at (wpAny_bind ?_)));rw[SL.lookup];refine wpAny_pure ?_;dsimp only;rw[aA,if_neg zaq];unfold getAttrByItsOwn hookBefore;rw[if_neg (show ¬ onTheHeap (Value.type "list")=true from zaq)];refine wpAny_bind (wpAny_pure (wpAny_bind (wpAny_attempt (wpAny_holding ?_))));unfold callGetattribute;rw[mq,if_neg zaq];unfold boundAndCalled;rw[SL.bind];refine wpAny_bind (wpAny_pure ?_);dsimp only;refine call_meets SL am_entry_list_getattribute ⟨_,hl,rfl⟩ (PySem.F.args_list_getattribute_2 _ _) (meets_getattribute_miss_list l xs k sl "keys" s.toks miss rfl (by decide)) ⟨hl,hh,λ h' tk e ne=>?_⟩;dsimp only;obtain⟨kp,nw,t,u,he⟩:=ne;have T1:Looks (model prog w) h' (typeOf (.ref e)) (.type "AttributeError"):=(Looks.ld he).andThen .now;unfold getattributeRaised isInstance;refine wpAny_bind (wpAny_bind (T1.at ?_));rw[sub_AttributeError];refine wpAny_pure ?_;rw[if_pos rfl];unfold hookBehind;rw[if_neg (show ¬ onTheHeap (Value.type "list")=true from zaq),am_list_getattr_none];refine wpAny_bind (wpAny_pure ?_);unfold hookOrError attributeErrorLeaves;dsimp only;rw[if_pos (show (!false)=true from rfl)];refine wpAny_bind (wpAny_throw ?_);refine wpAny_bind (wpAny_bind (T1.at ?_));rw[sub_AttributeError];refine wpAny_pure ?_;rw[if_pos rfl];exact wpAny_pure (h h' tk kp)
def YA (ht:IsTup s.heap t aa)(h:Q aa.toList s):wpAny (model prog w) A (Dict.pairItems (.ref t)) Q E s:=by
 obtain⟨o,h1,h2,n,h3⟩:=ht;have T0:Looks (model prog w) s.heap (typeOf (.ref t)) (.type "tuple"):=h2▸(Looks.ld h1).andThen .now;unfold Dict.pairItems;refine wpAny_bind (T0.at ?_);have hx:(Value.type "tuple" == Value.type "list" || Value.type "tuple" == Value.type "tuple")=true:=by decide
 rw[if_pos hx];exact wpAny_bind (wpAny_seqItems h1 h3 (wpAny_pure h))
def J8:plainId "dict.update.loop" = true:=by decide +kernel
def VI {K:Type}[DecidableEq K]{knd:KeyKind prog w K}{h h':Heap}{d I l:Addr}{i:Nat}{xs:List (List K×Addr×Value)}(hd:h.DictOfH (tupleKind knd) d xs)(hit:h.IsListIter I l i)(sb:∀b o,b≠I->h.get? b=some o->h'.get? b=some o):
 h'.DictOfH (tupleKind knd) d xs:=by
 obtain⟨o,es,ep,h1,h2,h3,h4,h5,h6⟩:=hd;obtain⟨oi,i1,i2,i3⟩:=hit;refine⟨o,es,ep,sb d o (λ z=>?_) h1,h2,h3,h4,λ x hx=>?_,h6⟩
 ·subst z;rw[i1] at h1;cases h1;rw[i3] at h3;cases h3
 ·obtain⟨ok,aa,n,k1,k2,k3,k4⟩:=h5 x hx;refine⟨ok,aa,n,sb _ _ (λ z=>?_) k1,k2,k3,k4⟩;rw[z,i1] at k1;cases k1;rw[i3] at k3;cases k3
structure zI (prog:Program)(w:World)(A:Around){κ ξ:Type}(DD:Heap->Addr->List ξ->Prop)(Is:Heap->κ->Value->Prop)(put:List ξ->κ->Value->Value->List ξ):Prop where
 it:∀ {h h':Heap} {d I l:Addr} {i:Nat} {xs:List ξ},DD h d xs->h.IsListIter I l i->(∀b o,b≠I->h.get? b=some o->h'.get? b=some o)->DD h' d xs
 is:∀ {h h':Heap} {k:κ} {v:Value},Is h k v->(∀b o,h.get? b=some o->o.cls=.type "tuple" -> h'.get? b=some o)->Is h' k v
 set:∀ {s:Shared} {d:Addr} {k:κ} {v x:Value} {xs:List ξ} {Q:Unit->Shared->Prop} {E:Value->Shared->Prop},Is s.heap k v->DD s.heap d xs->xs.length+1<=sizeLine->(∀h3 tk,DD h3 d (put xs k v x)->zcv d s.heap h3->Q () {s with heap:=h3,toks:=tk})->wpAny (model prog w) A.in1 (dictSet d v x) Q E s
 len:∀xs k v x,(put xs k v x).length<=xs.length+1
 nil:∀ {h:Heap} {d:Addr},h.get? d=some {cls:=.type "dict",data:=.dict #[]}->DD h d []
section
variable {κ ξ:Type}{DD:Heap->Addr->List ξ->Prop}{Is:Heap->κ->Value->Prop}{put:List ξ->κ->Value->Value->List ξ}
def YB (G:zI prog w A DD Is put){R:Result->Shared->Prop}{d I l:Addr}{items:Array Value}{h0:Heap}(ps:List (κ×Value×Value))(hh:A.handled=none)(me:l≠I)(xa:d≠I)(js:l≠d)
 (mr:ps.length=items.size) (hsz:items.size+1<=sizeLine) (hl:h0.IsList l items)
 (hp:∀(j:Nat) p,ps[j]?=some p->Is h0 p.1 p.2.1/\∃t,items[j]?=some (.ref t)/\IsTup h0 t #[p.2.1,p.2.2]):
 ∀(m i:Nat) (xs:List ξ) (s:Shared),items.size-i=m->i<=items.size->xs.length<=i->s.heap.IsListIter I l i->DD s.heap d xs->(∀b o,b≠d->b≠I->h0.get? b=some o->s.heap.get? b=some o)->(∀b o,h0.get? b=some o->b≠d/\b≠I)->
  (∀h' tk,DD h' d ((ps.drop i).foldl (λ acc p=>put acc p.1 p.2.1 p.2.2) xs)->(∀b o,b≠d->b≠I->h0.get? b=some o->h'.get? b=some o)->R (.ok (.ret .none)) {s with heap:=h',toks:=tk})->
  codeAny (model prog w) A (.builtin "dict.update.loop" ⟨[.ref d,.ref I,rawInt i,.none],[]⟩) R s:=by
 intro m;induction m with
 |zero =>
  intro i xs s hm hi xb hit hd hf ho h;have b5:i=items.size:=by omega
  refine codeAny_builtin R7 ?_;rw[Around.under_plainId J8 _];show wpAny _ A.in1 (pyNext (.ref I) >>= _) _ _ s;refine wpAny_bind (wpAny_pyNext_list_end (A:=A.in1) hh hit (hl.at λ o e=>hf l o js me e) (by simp[b5]) λ h' eb=>?_);have hd2:=G.it hd hit λ b o hb e=>eb b o hb e;show wpAny _ A.in1 (Dict.addKeywords d [] >>= _) _ _ _;unfold Dict.addKeywords;refine wpAny_bind (wpAny_bind ?_);refine wpAny_pure (wpAny_pure (wpAny_pure ?_));have ed:ps.drop i=[]:=by rw[List.drop_eq_nil_iff];omega
  rw[ed] at h;exact h h' s.toks hd2 λ b o h1 h2 e=>eb b o h2 (hf b o h1 h2 e)
 |succ m ih =>
  intro i xs s hm hi xb hit hd hf ho h;have ah:i<items.size:=by omega
  obtain⟨p,qp⟩:∃p,ps[i]?=some p:=⟨ps[i]'(by omega),za7 _⟩;obtain⟨p3,t,ht,t3⟩:=hp i p qp;refine codeAny_builtin R7 ?_;rw[Around.under_plainId J8 _];show wpAny _ A.in1 (pyNext (.ref I) >>= _) _ _ s;refine wpAny_bind (wpAny_pyNext_list_item (A:=A.in1) hit (hl.at λ o e=>hf l o js me e) ht λ h' bL sb=>?_);have hd2:=G.it hd hit λ b o hb e=>(sb.2 b hb).trans e;have qr:∀b o,h0.get? b=some o->h'.get? b=some o:=λ b o e=>(sb.2 b (ho b o e).2).trans (hf b o (ho b o e).1 (ho b o e).2 e);have t4:IsTup h' t #[p.2.1,p.2.2]:=let ⟨o,e1,e2⟩:=t3;⟨o,qr t o e1,e2⟩;dsimp only;refine wpAny_bind (wpAny_holding (wpAny_bind (wpAny_tryCatch (YA t4 ?_))));show wpAny _ A.in1 (holding [p.2.1,p.2.2] (dictSet d p.2.1 p.2.2)) _ _ _;refine wpAny_holding (G.set (G.is p3 λ b o e _=>qr b o e) hd2 (by omega) λ h3 tk jt ii=>?_);refine wpAny_pure ⟨plainId_quiet J8 _,?_⟩;have qt:h3.IsListIter I l (i+1):=let ⟨o,e1,e2⟩:=bL;⟨o,(ii.2 I (zbl xa)).trans e1,e2⟩;have ed:ps.drop i=p::ps.drop (i+1):=by
   rw[zd6 (by omega:i<ps.length)];rw[za7 (by omega:i<ps.length)] at qp;rw[zau qp]
  rw[ed,zat] at h;have ic:=G.len xs p.1 p.2.1 p.2.2;exact ih (i+1) _ {s with heap:=h3,toks:=tk} (by omega) (by omega) (by omega) qt jt (λ b o h1 h2 e=>(ii.2 b h1).trans (qr b o e)) ho h
def Oz (G:zI prog w A.in1 DD Is put)(ps:List (κ×Value×Value))(hh:A.handled=none)(mr:ps.length=items.size)(hsz:items.size+1<=sizeLine)(hl:s.heap.get? l=some {cls:=.type "list",data:=.seq items n,slots:=sl})(hp:∀(j:Nat) p,ps[j]?=some p->Is s.heap p.1 p.2.1/\∃t,items[j]?=some (.ref t)/\IsTup s.heap t #[p.2.1,p.2.2])(h:∀h' tk,DD h' s.heap.objs.size (ps.foldl (λ acc p=>put acc p.1 p.2.1 p.2.2) [])->(∀b o,s.heap.get? b=some o->h'.get? b=some o)->Q (.ref s.heap.objs.size) {s with heap:=h',toks:=tk}):
 wpAny (model prog w) A (call (.type "dict") [.ref l]) Q E s:=by
 refine callType_codes (Q₁:=λ obj s₁=>obj=.ref s.heap.objs.size/\s₁={s with heap:=s.heap.push {cls:=.type "dict",data:=.dict #[]} }) PySem.F.kt_called_dict (PySem.F.kt_typeCall_dict_1 _) PySem.F.entry_dict_init
  (kt_code_dict_new _ ⟨rfl,rfl⟩) λ obj s₁ h₁=>?_
 obtain⟨rfl,rfl⟩:=h₁;have hS:(s.heap.push {cls:=.type "dict",data:=.dict #[]}).get? s.heap.objs.size=some {cls:=.type "dict",data:=.dict #[]}:=zap _ rfl;have ll:l<s.heap.objs.size:=zai hl;have dh:(s.heap.push {cls:=.type "dict",data:=.dict #[]}).get? l=some {cls:=.type "list",data:=.seq items n,slots:=sl}:=zad _ hl;refine⟨⟨_,hS,rfl⟩,PySem.F.args_dict_init_2 _ _,?_⟩;have TD:Looks (model prog w) (s.heap.push {cls:=.type "dict",data:=.dict #[]}) (typeOf (.ref s.heap.objs.size)) (.type "dict"):=(Looks.ld hS).andThen .now;have TL:Looks (model prog w) (s.heap.push {cls:=.type "dict",data:=.dict #[]}) (typeOf (.ref l)) (.type "list"):=(Looks.ld dh).andThen .now;unfold Builtin.«dict.__init__» Dict.selfAndRest Dict.notOrdered;dsimp only;rw[if_pos (by decide)];refine wpAny_bind (wpAny_bind (wpAny_bind (TD.at ?_)));rw[if_neg (by decide)];refine wpAny_pure ?_;unfold Dict.addrOf;refine wpAny_bind (wpAny_pure (wpAny_pure ?_));unfold Dict.updateCommon Dict.updateFrom;dsimp only;refine wpAny_bind (TL.at ?_);rw[if_pos (by decide)];refine wpAny_bind (TZ (A:=A.in1.in1) hh dh λ h2 tk2 qu=>?_);rw[if_pos (show (none:Option Value).isNone=true from rfl)];refine wpAny_bind (wpAny_rule ?_);have am:h2.IsList l items:=⟨_,qu _ _ dh,rfl,n,rfl⟩;have ux:=qu _ _ hS;refine wpAny_bind (wpAny_pyIter_list am ?_);refine wpAny_pure ⟨plainId_quiet J8 _,?_⟩;have lz:s.heap.objs.size<h2.objs.size:=zai ux;have xc:∀b o,s.heap.get? b=some o->(h2.push {cls:=.type "list_iterator",data:=.fields #[.ref l,.int 0 0]}).get? b=some o:=λ b o e=>zad _ (qu _ _ (zad _ e));have ah:∀b o,s.heap.get? b=some o->b≠s.heap.objs.size/\b≠h2.objs.size:=λ b o e=>by
  have:=zai e;exact⟨zax this,zax (Nat.lt_trans this lz)⟩
 refine YB (A:=A.in1) G (l:=l) (h0:=s.heap) ps hh (zax (Nat.lt_trans ll lz)) (zax lz) (zax ll) mr hsz ⟨_,hl,rfl,n,rfl⟩ hp items.size 0 [] _ (by omega) (by omega) (by simp) ⟨_,zap _ rfl,rfl,rfl⟩ (G.nil (zad _ ux)) (λ b o h1 ib e=>xc b o e) ah λ h' tk bh xf=>?_;exact⟨rfl,h h' tk bh λ b o e=>xf b o (ah _ _ e).1 (ah _ _ e).2 e⟩
end
abbrev rfA:Value->Addr
 | .ref a=>a
 |_=>0
def xU {K:Type}[DecidableEq K]{knd:KeyKind prog w K}(d6:A.in1.units<cLine):zI prog w A (λ h d (xs:List (List K×Addr×Value))=>h.DictOfH (tupleKind knd) d xs) (λ h k v=>∃a,v=.ref a/\(tupleKind knd).is h k a) (λ xs k v x=>storedH xs k (rfA v) x) where
 it:=VI
 is:=λ⟨a,e,o,aa,n,e1,e2⟩ kp=>⟨a,e,o,aa,n,kp _ o e1 e2.1,e2⟩
 set:=λ⟨a,e,hi⟩ hd hz hq=>by
  subst e;exact wpAny_dictSet_heap (knd:=tupleKind knd) (hsz:=Nat.le_of_succ_le hz) d6 hi hd λ h3 jt ii=>hq h3 _ jt ii
 len:=λ xs k v x=>by
  unfold storedH;split
  ·rw[za2];omega
  ·rw[zah,zbh];omega
 nil:=λ e=>⟨_,#[],0,e,⟨rfl,rfl,rfl⟩,rfl,rfl,λ x hx=>absurd hx List.not_mem_nil,zbr⟩
def MW {K:Type}[DecidableEq K]{knd:KeyKind prog w K}{Q:Value->Shared->Prop}{l:Addr}{items:Array Value}{n:Nat}{sl:Array (Option Value)}(ps:List (List K×Addr×Value))(hh:A.handled=none)(d6:A.units+2<cLine)
 (mr:ps.length=items.size) (hsz:items.size+1<=sizeLine) (hl:s.heap.get? l=some {cls:=.type "list",data:=.seq items n,slots:=sl})
 (hp:∀(j:Nat) p,ps[j]?=some p->(tupleKind knd).is s.heap p.1 p.2.1/\∃t,items[j]?=some (.ref t)/\IsTup s.heap t #[.ref p.2.1,p.2.2])
 (h:∀h' tk,h'.DictOfH (tupleKind knd) s.heap.objs.size (ps.foldl (λ acc p=>storedH acc p.1 p.2.1 p.2.2) [])->(∀b o,s.heap.get? b=some o->h'.get? b=some o)->Q (.ref s.heap.objs.size) {s with heap:=h',toks:=tk}):
 wpAny (model prog w) A (call (.type "dict") [.ref l]) Q E s:=by
 refine Oz (xU (knd:=knd) d6) (ps.map λ p=>(p.1,.ref p.2.1,p.2.2)) hh (by rw[za2];exact mr) hsz hl (λ j p hj=>?_) λ h' tk hd kp=>h h' tk (by rw[List.foldl_map] at hd;exact hd) kp;rw[zaw] at hj;obtain⟨q,hq,rfl⟩:=zce.mp hj;obtain⟨q1,q2⟩:=hp j q hq;exact⟨⟨_,rfl,q1⟩,q2⟩
end
structure YC where
 (t:Addr) (κ:List Key) (b:Addr) (v:V)
abbrev lO (H:Hp)(p:YC):Prop:=H p.t=some (.tup [.ref p.b,p.v])/\H p.b=some (.tup (p.κ.map kV))
abbrev zJ (ps:List YC):List (List Key×V):=ps.foldl (λ acc p=>putK acc p.κ p.v) []
abbrev tDP (X:Cx)(te:TE):TE:=λ σ H Q=>te σ H λ x H1=>∃(l:Addr) (ps:List YC),x=.ref l/\DB X.K H1 l (ps.map λ p=>V.ref p.t)/\(∀p∈ps,lO H1 p)/\ps.length<=1000/\∀r,H1 r=none->Q (.ref r) (upd H1 r (.dT (zJ ps)))
def U0:∀ {ps:List YC}{us:List Value},Vals (ps.map λ p=>V.ref p.t) us->us=ps.map λ p=>zb7 p.t
 |[],_,.nil=>rfl
 |p::ps,_,.cons h t=>by
  cases h;rw[za6,<-U0 t]
def nZ {H:Hp}:∀ {ps:List YC}{qs:List (List Key×Addr×Value)}{kvs:List (List Key×V)}{xs:List (List Key×Addr×Value)},(∀p∈ps,lO H p)->Paired (λ(p:YC) (q:List Key×Addr×Value)=>p.κ=q.1/\p.b=q.2.1/\RelV p.v q.2.2) ps qs->KT H kvs xs->KT H (ps.foldl (λ acc p=>putK acc p.κ p.v) kvs) (qs.foldl (λ acc p=>storedH acc p.1 p.2.1 p.2.2) xs)
 |[],_,_,_,_,.nil,h=>h
 |p::ps,_,_,_,ho,.cons (b:=q) hq t,h=>by
  obtain⟨q1,q2,q3⟩:=q;obtain⟨e1,e2,e3⟩:=hq;dsimp only at e1 e2 e3;subst e1 e2;have r:=nZ (ps:=ps) (λ p' hp=>ho p' (za4 _ hp)) t (h.put p.κ (ho p za3).2 e3);exact r
def eV:∀(ps:List YC) (kvs:List (List Key×V)),(ps.foldl (λ acc p=>putK acc p.κ p.v) kvs).length<=kvs.length+ps.length
 |[],kvs=>zaf _
 |p::ps,kvs=>by
  have h1:=eV ps (putK kvs p.κ p.v);have h2:=DC kvs p.κ p.v;rw[zat,za8];omega
def X3 (ok:GX P w H h):∀ {ps:List YC},(∀p∈ps,lO H p)->∃qs:List (List Key×Addr×Value),Paired (λ(p:YC) (q:List Key×Addr×Value)=>p.κ=q.1/\p.b=q.2.1/\RelV p.v q.2.2) ps qs/\
 ∀(j:Nat) q,qs[j]?=some q->(tupleKind (AL P w)).is h q.1 q.2.1/\∃t,(ps.map λ p=>zb7 p.t)[j]?=some (.ref t)/\IsTup h t #[.ref q.2.1,q.2.2]
 |[],_=>⟨[],.nil,λ j q e=>by simp at e⟩
 |p::ps,ho=>by
  obtain⟨qs,h1,h2⟩:=X3 ok λ p hp=>ho p (za4 _ hp);obtain⟨o1,o2⟩:=ho p za3;obtain⟨_,aa,r,it⟩:=(show Bk P w H h p.t (.tup [.ref p.b,p.v]) from ok p.t _ o1);obtain⟨u,v,rfl,ru,rv⟩:=r.two;cases ru;refine⟨(p.κ,p.b,v)::qs,.cons ⟨rfl,rfl,rv⟩ h1,λ j q e=>?_⟩;cases j with
  |zero =>
   rw[zcn] at e;cases e;exact⟨Hz ok o2,p.t,by simp,it⟩
  |succ j =>
   rw[zb5] at e;obtain⟨a1,t,a2,a3⟩:=h2 j q e;exact⟨a1,t,by simpa using a2,a3⟩
section
variable {c:Bool}{P:Addr->Prop}{H:Hp}{a b:Expr}{f g:Ah->M D}{te:TE}
def eW (hc:X.calm=true)(hu:X.A.units+n<cLine)(hg:Gl X "dict")(hm:X.mg "dict" = none)(he:PE X e te)(hv:bootBuiltins "dict" = some (.type "dict"):=by decide +kernel)(hs: ~~~(starEach [e] X.env=[(false,eval e X.env)]))(hn:2<=n:=by decide):
 PE X (.Call (.Name "dict" p) [e] [] pos) (tDP X te):=by
 intro pins s σ H Q I h;refine wpAny_Call_Name_kw (DY I hg hm hv ?_);refine zbj ?_ hs;rw[hs];refine zby (B9 (he pins s σ H _ I h) λ u s1 zz=>?_);obtain⟨x,H1,I1,r1,q1⟩:=zz;obtain⟨l,ps,rfl,hq,ho,hlen,q⟩:=q1;cases r1;refine zcc ?_;obtain⟨aa,r',pl,hz⟩:=I1.list hq;have hits:=U0 r';subst hits;obtain⟨⟨qv,ju,jv,ga⟩,n0,o1,o2,o3,o4⟩:=pl;dsimp only at o2 o3 o4;subst o2 o3 o4;obtain⟨qs,h1,h2⟩:=X3 I1.AF ho;refine MW (knd:=AL X.prog X.w) qs (I1.ok.hd hc) (by omega) (by rw[zac,za2,<-h1.length]) (AA (by rw[zac,za2];omega)) o1 (λ j p hj=>?_) λ h' tk hd kp=>?_
 ·obtain⟨a1,t,a2,a3⟩:=h2 j p hj;exact⟨a1,t,by rw[List.getElem?_toArray];exact a2,a3⟩
 ·have qw:=nZ ho h1 (show KT H1 [] [] from .nil);have d5:s1.heap.objs.size<=s1.heap.objs.size:=zaf _;have bv:=I1.AF.fresh d5;have mt:=eV ps [];obtain⟨o,es,ep,g1,g2,g3,g4,g5,g6⟩:=hd;refine⟨.ref _,_,I1.laid (t':=tk) (o:=.dT (zJ ps)) kp d5 ⟨zbo (AA (by unfold zJ;simp at mt;omega)),beq_eq_false_iff_ne.mpr (zbl (zax I1.big)),_,qw.keeps (λ b ys eb=>by rw[Ai (λ z=>by rw[z,bv] at eb;cases eb)];exact eb),o,es,ep,g1,g2,g3,g4,g6⟩,rfl,q _ bv⟩
abbrev Sd:List D->Option (List (D×D))
 |[]=>some []
 | .tup [k,v]::r=>(Sd r).map ((k,v)::·)
 |_=>none
abbrev lP (l:List (D×D)):List D×List D:=l.foldl (λ z kv=>putD z.1 z.2 kv.1 kv.2) ([],[])
abbrev lQ (d:D):M OT:=match d with
 | .lst xs=>(match Sd xs with|some l=>if l.length<=1000/\(l.all λ kv=>keyOk true kv.1)=true then .ok (.BN true (lP l).1 ((lP l).2.map .sh)) else .bad|none=>.bad)
 |_=>.bad
def X4 {K:za1}{H:Hp}{P:Addr->Prop}:∀ {xs:List V}{ds:List D}{l:List (D×D)},Ak K (del H P) xs ds->Sd ds=some l->(l.all λ kv=>keyOk true kv.1)=true->
 ∃ps:List YC,xs=ps.map (λ p=>V.ref p.t)/\(∀p∈ps,lO H p)/\Paired (λ(p:YC) (kv:D×D)=>kv.1=.tup (p.κ.map Cn)/\BF K (del H P) p.v kv.2) ps l
 |_,[],l,.nil,e,_=>by cases e;exact⟨[],rfl,λ p hp=>(by cases hp),.nil⟩
 |_,d::ds,l,.cons hd ht,e,hk=>by
  unfold Sd at e;split at e
  ·rename_i bN;cases bN
  ·rename_i k v r bN;cases bN;obtain⟨l',e1,e2⟩:=zce.mp e;subst e2;rw[List.all_cons,zb4] at hk;obtain⟨ps,q1,q2,q3⟩:=X4 ht e1 hk.2;have hK:=DH hk.1;cases hK with
   |t κ =>
    cases hd with
    |tup h1 h2 =>
     obtain⟨x,y,rfl,hx,hy⟩:=h2.two;cases hx with
     |tup g1 g2 =>
      rename_i tt bb d4;have ey:=Ak.keys κ g2;subst ey;refine⟨⟨tt,κ,bb,y⟩::ps,by rw[za6,q1],λ p hp=>?_,.cons ⟨rfl,hy⟩ q3⟩;rcases zab.mp hp with rfl|hp
      ·exact⟨(Al h1).2,(Al g1).2⟩
      ·exact q2 p hp
  ·cases e
def eX {K:za1}{H:Hp}{P:Addr->Prop}:∀ {ps:List YC}{l:List (D×D)}{kvs:List (List Key×V)}{vs:List D},Paired (λ(p:YC) (kv:D×D)=>kv.1=.tup (p.κ.map Cn)/\BF K (del H P) p.v kv.2) ps l->Ak K (del H P) (kvs.map zbu) vs->
 ∃aB,l.foldl (λ z kv=>putD z.1 z.2 kv.1 kv.2) (kvs.map (λ kv=>D.tup (kv.1.map Cn)),vs)=((ps.foldl (λ acc p=>putK acc p.κ p.v) kvs).map (λ kv=>D.tup (kv.1.map Cn)),aB)/\Ak K (del H P) ((ps.foldl (λ acc p=>putK acc p.κ p.v) kvs).map zbu) aB
 |[],_,kvs,vs,.nil,h=>⟨vs,rfl,h⟩
 |p::ps,_,kvs,vs,.cons (b:=kv) hq t,h=>by
  obtain⟨k,d⟩:=kv;obtain⟨e1,e2⟩:=hq;dsimp only at e1 e2;subst e1;have hf:∀a b:List Key,Br (.tup (a.map Cn)) (.tup (b.map Cn))=decide (a=b):=λ a b=>by simp only[Br];exact NE a b
  have aU:∃aB,(putD (kvs.map λ kv=>.tup (kv.1.map Cn)) vs (.tup (p.κ.map Cn)) d)=((putK kvs p.κ p.v).map (λ kv=>.tup (kv.1.map Cn)),aB)/\Ak K (del H P) ((putK kvs p.κ p.v).map zbu) aB:=by
   unfold putD putK;rw[Kq (fk:=λ κ:List Key=>D.tup (κ.map Cn)) hf];by_cases hh:(kvs.any λ kv=>decide (kv.1=p.κ))=true
   ·rw[if_pos hh,if_pos hh];refine⟨_,by rw[HQ (fk:=λ κ:List Key=>D.tup (κ.map Cn)) hf],?_⟩;rw[<-HP (fk:=λ κ:List Key=>D.tup (κ.map Cn)) hf];exact HR e2 h
   ·rw[if_neg hh,if_neg hh];refine⟨_,by rw[zas];rfl,?_⟩;rw[zas];exact h.snoc e2
  obtain⟨xg,g1,g2⟩:=aU;obtain⟨qx,g3,g4⟩:=eX t g2;refine⟨qx,?_,g4⟩;rw[zat];dsimp only;rw[g1];exact g3
def U1 (hc:X.calm=true)(hu:X.A.units+n<cLine)(hg:Gl X "dict")(hm:X.mg "dict" = none)(he:DE X WX true e f)(hv:bootBuiltins "dict" = some (.type "dict"):=by decide +kernel)(hs: ~~~(starEach [e] X.env=[(false,eval e X.env)]))(hn:2<=n:=by decide):
 DN X WX (.Call (.Name "dict" p) [e] [] pos) (λ ρ=>(f ρ).bind lQ):=by
 obtain⟨te,e1,e2⟩:=he;refine⟨_,eW hc hu hg hm e1 hv hs hn,λ P0 P σ H Q ρ E h=>?_⟩;refine e2 P0 P σ H _ ρ E ?_;dsimp only at h;refine XR h λ d h=>?_;intro v H1 s1 hv;unfold lQ at h;split at h
 ·rename_i xs;split at h
  ·rename_i l eb;split at h
   ·rename_i hl;cases hv with
    |lst hs hh =>
     obtain⟨ps,q1,q2,q3⟩:=X4 hh eb hl.2;subst q1;obtain⟨aB,g1,g2⟩:=eX (kvs:=[]) q3 .nil;refine⟨_,ps,rfl,hs.Bf,q2,by rw[q3.length];exact hl.1,λ r hr=>?_⟩;have e3:lP l=((zJ ps).map (λ kv=>D.tup (kv.1.map Cn)),aB):=g1;rw[e3] at h;have aR:∀a∈[r],H1 a=none:=λ a ha=>by rw[za9.mp ha];exact hr
     exact h _ [r] _ (s1.trans (AK hr _)) (λ a ha=>Di s1 (aR a ha)) (by simp) (.dT An (g2.mono (Ca (AK hr _) aR)).ows)
   ·exact h.elim
  ·exact h.elim
 ·exact h.elim
end
open PySem PySem.Spec PyProof.Rows
section
variable {c:Bool}{P:Addr->Prop}{H:Hp}{a b:Expr}{f g:Ah->M D}{te:TE}
abbrev lR (x y:D):M D:=match x,y with
 | .tup xs,.tup ys=>(match DF xs,DF ys with|some ns,some ms=>.ok (.bl (HT.lexLt ns ms))|_,_=>.bad)
 |_,_=>.bad
def lS:WJ X.K WX (vS X.K) lR:=by
 intro P H x y v w Q ht hx hy h;unfold lR at h;split at h
 ·rename_i xs ys;split at h
  ·rename_i ns ms e1 e2;have:=J5 e1;subst this;have:=J5 e2;subst this;cases hx with
   |tup h1 h2 =>
    cases hy with
    |tup h3 h4 =>
     have:=Gr h2;subst this;have:=Gr h4;subst this;exact⟨_,_,ns,ms,rfl,rfl,Fq.of (Al h1).2,Fq.of (Al h3).2,h _ H (Aj.refl H) (.bl _)⟩
  ·exact h.elim
 ·exact h.elim
def sF (hu:X.A.units+n<cLine)(ha:DE X WX c a f)(hb:DE X WX c b g):DT X WX (.Compare a [.Lt] [b] pos) (λ ρ=>((f ρ).bind λ x=>(g ρ).bind λ y=>lR x y).bind SQ):=Gm (qO (by omega)) lS ha hb (JL _)
def eY (hk:DE X WX true a f)(hv:DE X WX true b g):DN X WX (.Dict [some a] [b] pos) (λ ρ=>(f ρ).bind λ k=>(g ρ).bind λ v=>if keyOk false k=true then .ok (.BN false [k] [.sh v]) else .bad):=by
 obtain⟨tk,k1,k2⟩:=hk;obtain⟨tv,v1,v2⟩:=hv;refine⟨_,jL (ZX k1 v1 jK) rfl rfl (by simp) (by simp),λ P0 P σ H Q ρ E h p hp=>?_⟩;dsimp only at h;have hn:∀a∈[p],H a=none:=λ a ha=>by rw[za9.mp ha];exact hp
 have s0:Aj H (upd H p (.dK [])):=AK hp _;have E1:Am X.K P0 (PU P [p]) (upd H p (.dK [])) σ ρ:=E.more s0 LL (λ a ha=>ha.elim (λ z=>(E.BX a z).same s0) λ z=>by
  rw[za9.mp z];exact⟨_,An,λ _=>⟨λ z=>(by cases z),λ _ z=>by cases z⟩⟩) (Ca s0 hn)
 refine k2 P0 (PU P [p]) σ _ _ ρ E1 ?_;cases q:f ρ with
 |bad=>rw[q] at h;exact h
 |ex x=>rw[q] at h;exact λ H' s=>h H' (s0.trans s)
 |ok k =>
  rw[q] at h;simp only[M.A8] at h;intro y H2 s2 hy;have E2:=E1.same s2;refine v2 P0 (PU P [p]) σ H2 _ ρ E2 ?_;cases q2:g ρ with
  |bad=>rw[q2] at h;exact h
  |ex x=>rw[q2] at h;exact λ H' s=>h H' ((s0.trans s2).trans s)
  |ok d =>
   rw[q2] at h;simp only[M.A8] at h;intro w H3 s3 hw;by_cases hc:keyOk false k=true
   ·rw[if_pos hc] at h;have hK:=DH hc;cases hK with
    |k κ =>
     have ey:=hy.kJ;subst ey;refine⟨s3 _ _ (s2 _ _ An),[(κ,w)],rfl,by simp,?_⟩;have s4:Aj H (upd H3 p (.dK (HA [] [(κ,w)]))):=λ a o ha=>by
      rw[Ai (λ z=>by rw[z,hp] at ha;cases ha)];exact s3 _ _ (s2 _ _ (s0 _ _ ha))
     have s5:Aj (del H3 (PU P [p])) (del (upd H3 p (.dK (HA [] [(κ,w)]))) (PU P [p])):=λ a o ha=>by
      obtain⟨n1,n2⟩:=Al ha;rw[AB n1,Ai (λ z=>n1 (.inr (by rw[z];exact za9.mpr rfl)))];exact n2
     refine h _ [p] _ s4 hn (by simp) ?_;have e1:HA [] [(κ,w)]=[(κ,w)]:=rfl;rw[e1] at s5 ⊢;exact .dK (kvs:=[(κ,w)]) An (.cons (.sh (hw.mono s5)) .nil)
   ·rw[if_neg hc] at h;exact h.elim
abbrev R8 (x:D)(m:M D):M D:=match x with
 | .BN b ks vs=>m.bind λ y=>if keyOk b y=true then .ok ((EI ks vs y).getD .Ax) else .bad
 |_=>.bad
def X5 {K}(h:BF K (del H P) v (.BN bb ks vs)):∃a,v=.ref a/\zB H a:=by
 cases h with
 |SN h1 h2=>exact⟨_,rfl,.inl ⟨_,h1.Bf⟩⟩
 |Ts h1 h2=>exact⟨_,rfl,.inr ⟨_,h1.Bf⟩⟩
def OA (hu:X.A.units+n<cLine)(ha:DE X WX c o f)(hb:DE X WX c k g)(m:M1 X o "get" apos k ac:=by exact⟨rfl,rfl,rfl,rfl⟩)(hn:1<=n:=by decide):
 DE X WX c (.Call (.Attribute o "get" apos) [k] [] ac) (λ ρ=>(f ρ).bind λ x=>R8 x (g ρ)):=by
 obtain⟨ta,a1,a2⟩:=ha;obtain⟨tb,b1,b2⟩:=hb;refine⟨_,ZZ (by omega) a1 b1 m,λ P0 P σ H Q ρ E h=>?_⟩;dsimp only at h;refine a2 P0 P σ H _ ρ E ?_;refine XR h λ x h=>?_;intro v H1 s1 hv;unfold R8 at h;split at h
 ·rename_i bb ks vs;obtain⟨a,rfl,hD⟩:=X5 hv;refine⟨a,rfl,hD,b2 P0 P σ H1 _ ρ (E.same s1) ?_⟩;cases e2:g ρ with
  |bad=>rw[e2] at h;exact h
  |ex y=>rw[e2] at h;exact gV.same (m:=.ex y) h s1
  |ok y =>
   rw[e2] at h;simp only[M.A8] at h;intro w H2 s2 hw;by_cases hk:keyOk bb y=true
   ·rw[if_pos hk] at h;obtain⟨a',xs,ea,g',hl,aR⟩:=NF (hv.mono s2.del) hw (DH hk);cases ea;refine⟨_,g',?_⟩;refine gV.same (gV.same h s1) s2 _ H2 (Aj.refl _) ?_;cases eg:EI ks vs y with
    |none =>
     have:EI ks xs y=none:=by
      cases qy:EI ks xs y with
      |none=>rfl
      |some z =>
       have h1:=Ez (xs:=xs) (y:=y) aR;have h2:=Ez (ks:=ks) (xs:=vs) (y:=y) (by rw[<-hl.length,aR]);rw[h1,qy,eg] at h2;cases h2
     rw[this];exact .Ax
    |some d =>
     obtain⟨x,e3,e4⟩:=Kr hl eg;rw[e3];exact e4
   ·rw[if_neg hk] at h;exact h.elim
 ·exact h.elim
end
abbrev Itv (K:za1)(a:Addr)(n:Nat):It:=
 ⟨λ i H=>∃xs x,DB K H a xs/\xs.length=n/\i<n/\xs[n-1-i]?=some x,λ i H x H'=>H'=H/\∀xs,DB K H a xs->xs[n-1-i]?=some x,λ i H=>∃xs,DB K H a xs/\xs.length=n/\n<=i⟩
def eZ {h:Heap}(h1:h.IsRevIter it a i)(h2:h.IsList a xs):a≠it:=λ z=>by
 subst z;obtain⟨o,e1,e2,_⟩:=h1;obtain⟨o2,e3,e4,_⟩:=h2;rw[e1] at e3;cases e3;rw[e2] at e4;exact absurd (Value.type.inj e4) (by decide)
def fA {K}(a it:Addr)(n:Nat):Turn P w K tg (Itv K a n) [it] it (λ i h=>i<=n/\h.IsRevIter it a ((n:Int)-1-i)) where
 mem:=by simp
 obj:=λ i h st b hb=>by
  have e:b=it:=by simpa using hb
  subst e;obtain⟨_,o,e,c,d⟩:=st;exact⟨o,e,λ v z=>by rw[d] at z;cases z⟩
 keep:=λ i h h' st k=>⟨st.1,st.2.at λ o e=>k it (by simp) o e⟩
 item:=by
  intro X hP hw hK hc i pins s σ H E I hf st hg;subst hP hw hK;obtain⟨xs,x,hq,qz,b5,hx⟩:=hg;obtain⟨aa,rv,p,hz⟩:=I.list hq;obtain⟨u,hu,ru⟩:=rv.get hx;obtain⟨f0,f1,f2,f3,f4,f5⟩:=hf it (by simp);have hl:=rv.length;have q0:aa.toArray.size=n:=by rw[zac,<-hl,qz]
  have W:=Walks.listRev (prog:=X.prog) (w:=X.w) (A:=X.A) (I.ok.hd hc) it a (eZ st.2 p.isList) aa.toArray;rw[q0] at W;refine W.item i s _ _ b5 ⟨st.1,st.2,p.isList⟩ λ v h' tk hv aZ kp=>?_;have ev:v=u:=by
   rw[List.getElem?_toArray,hu] at hv;exact (zau hv).symm
  subst ev;have I1:Inv X pins σ H {s with heap:=h',toks:=tk}:=I.turned (t':=tk) (λ b o hb e=>kp b o (by simpa using hb) e) f0 f1 f3 f4 f5;obtain⟨o,e,c,d⟩:=id aZ.2.1;exact⟨v,rfl,T6 (s:={s with heap:=h',toks:=tk}) e c d (by decide) ⟨x,H,I1,ru,⟨rfl,λ ys hy=>by rw[I.Hw hy hq];exact hx⟩,⟨aZ.1,aZ.2.1⟩,λ b hb=>(hf b hb).1⟩⟩
 done:=by
  intro X hP hw hK hc i pins s σ H E I hf st hg;subst hP hw hK;obtain⟨xs,hq,qz,b5⟩:=hg;obtain⟨aa,rv,p,hz⟩:=I.list hq;obtain⟨f0,f1,f2,f3,f4,f5⟩:=hf it (by simp);have hl:=rv.length;have q0:aa.toArray.size=n:=by rw[zac,<-hl,qz]
  have W:=Walks.listRev (prog:=X.prog) (w:=X.w) (A:=X.A) (I.ok.hd hc) it a (eZ st.2 p.isList) aa.toArray;rw[q0] at W;have rb:i=n:=Nat.le_antisymm st.1 b5;subst rb;exact W.done s _ _ ⟨st.1,st.2,p.isList⟩ λ h' tk kp=>⟨rfl,I.turned (t':=tk) (λ b o hb e=>kp b o (by simpa using hb) e) f0 f1 f3 f4 f5⟩
 self:=λ _ _ _ _ _ st h=>wpAny_pyIter_revIter st.2 h
section
variable {a:Expr}{f:Ah->M D}{p:Pos}{te:TE}
abbrev aaU (K:za1)(ta:TA):TI:=λ σ H R=>ta σ H λ vs H1=>∃a xs,vs=[.ref a]/\DB K H1 a xs/\R (Itv K a xs.length) H1
def sG (hg:Gl X "reversed")(hm:X.mg "reversed" = none)(ha:PA X [a] ta)(hb:bootBuiltins "reversed" = some (.type "reversed"):=by decide +kernel)(hs: ~~~(starEach [a] X.env=[(false,eval a X.env)])):
 PI X tg (.Call (.Name "reversed" p) [a] [] pos) (aaU X.K ta):=by
 intro pins s σ H R I h;refine Call_ (DY I hg hm hb (zbj (B9 (ha pos pins s σ H _ I h) λ us s1 zz=>?_) hs rfl));obtain⟨vs,H1,I1,r1,q1⟩:=zz;obtain⟨j,xs,e,hq,q⟩:=q1;subst e;cases r1 with
 |cons r rr =>
  cases rr;cases r;obtain⟨aa,rv,p,hz⟩:=I1.list hq;have hl:=rv.length;refine call_reversed_list p.isList ?_;have hit:(s1.heap.push (revObj j ((aa.toArray.size:Int)-1))).IsRevIter s1.heap.objs.size j ((xs.length:Int)-1-(0:Nat)):=by
   rw[zac,<-hl];exact⟨_,zap _ rfl,rfl,by simp[revObj]⟩
  refine wpAny_pyIter_revIter (s:={s1 with heap:=s1.heap.push (revObj j ((aa.toArray.size:Int)-1))}) hit ?_;refine⟨s1.heap.objs.size,[s1.heap.objs.size],_,_,H1,rfl,I1.kept (t':=s1.toks) λ b o e=>zad _ e,fA j _ xs.length,⟨zba _,hit⟩,λ b hb=>?_,q⟩;have e:b=s1.heap.objs.size:=by simpa using hb
  subst e;exact I1.V7 (zaf _) (I1.AF.fresh (zaf _))
def sH (hg:Gl X "reversed")(hm:X.mg "reversed" = none)(ha:DE X WX true a f)(hb:bootBuiltins "reversed" = some (.type "reversed"):=by decide +kernel)(hs: ~~~(starEach [a] X.env=[(false,eval a X.env)])):
 DI X WX tg (.Call (.Name "reversed" p) [a] [] pos) (λ ρ=>(f ρ).bind λ d=>match d with | .lst ds=>.ok ds.reverse|_=>.bad):=by
 obtain⟨ta,a1,a2⟩:=ha;refine⟨_,sG hg hm (Bc a1 Cd hs) hb hs,λ P0 P σ H R ρ E h=>?_⟩;dsimp only at h;refine a2 P0 P σ H _ ρ E ?_;cases q:f ρ with
 |bad|ex x=>rw[q] at h;exact h
 |ok d =>
  rw[q] at h;cases d with
  |lst ds =>
   intro v H1 s1 hv;cases hv with
   | @lst a xs _ hs hl =>
    have hlen:=hl.length;refine⟨a,xs,rfl,hs.Bf,h _ H1 s1 ⟨λ i P' H' s hi=>?_,λ i P' H' s hi=>?_,λ i P' H' v db d s ht hd y=>?_⟩⟩
    ·rw[zbp] at hi;obtain⟨x,hx,_⟩:=hl.get (za7 (show xs.length-1-i<ds.length by omega));exact⟨xs,x,(s.seq hs).Bf,rfl,by omega,hx⟩
    ·rw[zbp] at hi;exact⟨xs,(s.seq hs).Bf,rfl,by omega⟩
    ·obtain⟨rfl,y⟩:=y;have ah:=(zae.mp hd).1;rw[zbp] at ah;rw[List.getElem?_reverse ah] at hd;obtain⟨x,hx,bh⟩:=hl.get hd;have e:=y xs (s.seq hs).Bf;rw[hlen,hx] at e;cases e;exact⟨Aj.refl _,bh.mono s⟩
  |_=>exact h.elim
end
structure fB (K:za1)(x qual:Str)(st:Stmt)(f:Addr)(fd:FuncData):Prop where
 ex:∃(oc:Value) (od:Option Addr) (dV kV doc pm:Value) (an:Option Addr) (AX ct:Value) (Ta:Array (Option Value)),
  fd=zb6 x qual (B3 st) (Az st) (A3 st) dV kV doc pm an AX ct/\K.lookup f=some ⟨oc,od,.func fd,Ta⟩/\zc2 K AX qual=true
 kp:zbd K (.ref f)=true
section
variable {P:Program}{w:World}{K:za1}
def lT {st}(F:fB K x qual st f fd)(S:Ac N ps (A3 st))(g:Ah->M Out)(hb:∀(AX:Value) (A:Around) (outer:List Env) (s:Shared) (H:Hp) (E:XK),Bm k (A.deeper (envOfC qual (A3 st) s.heap.objs.size f AX))->SR (iG P w K mg base N qual (A3 st) f AX A outer s H E) (CC K E) (Az st) g):
 Cw P w K mg base (Q7 P w base) (k+1) f fd ps (R3 K ps.length λ t ar=>EJ (g (CQ N t ar))):=by
 obtain⟨oc,od,dV,kV,doc,pm,an,AX,ct,Ta,rfl,lk,aO⟩:=F.ex;refine T9 lk aO S (λ vs H Q E h=>h.1) λ A outer s H vs Q E hr h=>?_;obtain⟨hl,P',p,t,fp,rest,ar,rfl,ht,hp,nd,ho,hv,hq⟩:=h;obtain⟨tt,h1,h2⟩:=hb AX A outer s H E hr;refine⟨tt,h1,h2 ⟨λ a=>P' a/\a∉fp,λ _=>p⟩ P' _ H _ _ (Ku ht hp nd ho hv) ?_⟩;dsimp only at hq;revert hq;cases g (CQ N t ar) with
 |bad|ex x=>exact λ h=>h.elim
 |ok o =>
  have sub:∀ {P2:Addr->Prop} {H2:Hp} {σ2:St} {ρ:Ah},Am K ⟨λ a=>P' a/\a∉fp,λ _=>p⟩ P2 H2 σ2 ρ->∀a,P2 a/\¬ (P' a/\a∉fp)->P2 a/\(P' a->a∈fp):=λ E a ha=>⟨ha.1,λ z=>zcx λ w=>ha.2 ⟨z,w⟩⟩;cases o with
  |ret d|Cq d=>exact λ h=>h.elim
  |next ρ =>
   intro hq σ' H' P2 t2 E2;unfold EJ at hq;dsimp only at hq;split at hq
   ·rename_i t' e;obtain⟨c,ag,k1,k2,k3,k4,k5,k6⟩:=NG E2 e;exact hq .Ax H' P2 ag [] (λ a ha hn=>⟨E2.sub a ⟨ha,hn⟩,t2.2 a ⟨ha,hn⟩⟩) E2.BX t2.1 k4 k5 (.sh .Ax) zbr (λ a ha=>by cases ha) (λ a ha=>sub E2 a (k6 a ha)) (λ a ha=>by cases ha)
   ·exact hq.elim
  |Fv r ρ =>
   intro hq v fr σ' H' P2 t2 E2 o2 aL hf;unfold EJ at hq;dsimp only at hq;split at hq
   ·rename_i t' e;obtain⟨c,ag,k1,k2,k3,k4,k5,k6⟩:=NG E2 e;exact hq v H' P2 ag fr (λ a ha hn=>⟨E2.sub a ⟨ha,hn⟩,t2.2 a ⟨ha,hn⟩⟩) E2.BX t2.1 k4 k5 o2 aL (λ a ha=>(hf a ha).2.2 0 c _ ag k1 k2 k3) (λ a ha=>sub E2 a (k6 a ha)) (λ a ha=>sub E2 a ⟨(hf a ha).1,(hf a ha).2.1⟩)
   ·exact hq.elim
  |brk ρ|cont ρ=>exact λ h=>h.elim
end
def Se {K}{st}{kV}(l:K.lookup f=some ⟨oc,od,.func (zb6 x qual (B3 st) (Az st) (A3 st) dV kV doc pm an AX ct),Ta⟩)(c:zc2 K AX qual=true)(k:zbd K (.ref f)=true):fB K x qual st f (zb6 x qual (B3 st) (Az st) (A3 st) dV kV doc pm an AX ct):=⟨⟨oc,od,dV,kV,doc,pm,an,AX,ct,Ta,rfl,l,c⟩,k⟩
structure OB (P:Program)(w:World)(K:za1)(mg:Str->Option Value)(base:Heap)(x:Str)(k n:Nat)(F:OT->List D->M (OT×OT)):Prop where
 ex:∃C fa fd ps,sD K mg x C/\Mk K C fa/\Cw P w K mg base (Q7 P w base) k fa fd ps (R3 K n F)/\Binds K fd ps []/\Binds K fd ps [.none]
def OB.zK {K}(G:OB P w K mg base x k n F):xT P w K mg base x k n F:=by
 obtain⟨C,fa,fd,ps,h1,h2,h3,h4,_⟩:=G.ex;exact⟨⟨C,fa,fd,ps,h1,h2,h3,h4⟩⟩
structure OC (K:za1)(mg:Str->Option Value)(x qual:Str)(st:Stmt)(ps:List Str):Prop where
 ex:∃C f fd,sD K mg x C/\Mk K C f/\fB K "__init__" qual st f fd/\Binds K fd ps []/\Binds K fd ps [.none]
def U2 {K}{st}(T:OC K mg x qual st ps)(S:Ac N ps (A3 st))(g:Ah->M Out)(hb:∀(f:Addr) (AX:Value) (A:Around) (outer:List Env) (s:Shared) (H:Hp) (E:XK),Bm k (A.deeper (envOfC qual (A3 st) s.heap.objs.size f AX))->SR (iG P w K mg base N qual (A3 st) f AX A outer s H E) (CC K E) (Az st) g)(hn: ~~~(ps.length=n)):
 OB P w K mg base x (k+1) n (λ t ar=>EJ (g (CQ N t ar))):=by
 obtain⟨C,f,fd,h1,h2,F,hB⟩:=T.ex;subst hn;exact⟨⟨C,f,fd,ps,h1,h2,lT F S g (hb f),hB⟩⟩
def ln0 {P:List Value->Prop}(h:P [])(us:List Value)(hl:us.length=0):P us:=by
 cases us with
 |nil=>exact h
 |cons _ _=>cases hl
def zL {P:List Value->Prop}(h:∀a,P [a])(us:List Value)(hl:us.length=1):P us:=by
 cases us with
 |nil=>cases hl
 |cons a us=>exact ln0 (P:=λ l=>P (a::l)) (h a) us (Nat.succ.inj hl)
def ln2 {P:List Value->Prop}(h:∀a b,P [a,b])(us:List Value)(hl:us.length=2):P us:=by
 cases us with
 |nil=>cases hl
 |cons a us=>exact zL (P:=λ l=>P (a::l)) (λ b=>h a b) us (Nat.succ.inj hl)
def ln3 {P:List Value->Prop}(h:∀a b c,P [a,b,c])(us:List Value)(hl:us.length=3):P us:=by
 cases us with
 |nil=>cases hl
 |cons a us=>exact ln2 (P:=λ l=>P (a::l)) (λ b c=>h a b c) us (Nat.succ.inj hl)
def ln4 {P:List Value->Prop}(h:∀a b c d,P [a,b,c,d])(us:List Value)(hl:us.length=4):P us:=by
 cases us with
 |nil=>cases hl
 |cons a us=>exact ln3 (P:=λ l=>P (a::l)) (λ b c d=>h a b c d) us (Nat.succ.inj hl)
def ln5 {P:List Value->Prop}(h:∀a b c d e,P [a,b,c,d,e])(us:List Value)(hl:us.length=5):P us:=by
 cases us with
 |nil=>cases hl
 |cons a us=>exact ln4 (P:=λ l=>P (a::l)) (λ b c d e=>h a b c d e) us (Nat.succ.inj hl)
def AS {K}{st}(X:K.In h)(G:h.Ns mainGlobals mg)(p:FP K x st)(hb:∀(kV dc pm:Value) (an:Option Addr) (cd ct:Value) (us:List Value),us.length=ps.length->bindArgs (zb6 x x (B3 st) (Az st) (A3 st) .none kV dc pm an cd ct) ⟨us,[]⟩=pure (ps.zip us):=by first | exact (λ _ _ _ _ _ _=>zL λ _=>rfl) | exact (λ _ _ _ _ _ _=>ln2 λ _ _=>rfl) | exact (λ _ _ _ _ _ _=>ln3 λ _ _ _=>rfl) | exact (λ _ _ _ _ _ _=>ln4 λ _ _ _ _=>rfl)):AJ K mg x st ps:=by
 obtain⟨f,oc,od,an,sl,kV,dc,pm,cd,ct,a,l,c,k⟩:=p.ex;have F:=Vn (st:=st) l c k;exact⟨⟨_,_,F,PySem.W.mg_of X G a,F.binds hb⟩⟩
def OD {K}{st}(aC:zan K mainGlobals x=some (some (.ref C)))(cl:SM K C)(p:MP K C m qual st)(hb:∀(kV dc pm:Value) (an:Option Addr) (cd ct:Value) (us:List Value),us.length=ps.length->bindArgs (zb6 m qual (B3 st) (Az st) (A3 st) .none kV dc pm an cd ct) ⟨us,[]⟩=pure (ps.zip us):=by first | exact (λ _ _ _ _ _ _=>zL λ _=>rfl) | exact (λ _ _ _ _ _ _=>ln2 λ _ _=>rfl) | exact (λ _ _ _ _ _ _=>ln3 λ _ _ _=>rfl) | exact (λ _ _ _ _ _ _=>ln4 λ _ _ _ _=>rfl)):KA K x m qual st ps:=by
 obtain⟨f,oc,od,an,sl,kV,dc,pm,cd,ct,a,i,l,c,k⟩:=p.ex;have F:=Vn (st:=st) l c k;exact⟨⟨_,_,_,aC,cl,⟨a,i,k⟩,F,F.binds hb⟩⟩
open PySem PySem.W PySem.Calls PyProof.Rows
abbrev R0:Rn:=⟨topRun,Heap.nsMap,importEnds,fenceModules?,PySem.start,treeTable⟩
def sI:R0=R1:=by
 unfold R0 R1;rw[PySem.W.Fast.te14082659384304107361,PySem.W.Fast.te8920871248978507458,PySem.W.Fast.te10274390034422433532,PySem.W.Fast.te14289696077712309145,PySem.W.Fast.te1435165496053646825,PySem.W.Fast.te14364793385576792824]
def X6 (p:Program)(w:World)(N:Nat):openEnds treeTable p w N=Wn R0 p w N:=by
 unfold openEnds fencedOpening Wn;rfl
def OE:∀ {as:List Addr},(yT h as).lookup a=some o->h.get? a=some o
 |[],e=>by cases e
 |b::r,e=>by
  unfold yT at e;rw[zc5] at e;cases q:h.get? b with
  |none=>rw[q] at e;exact OE (as:=r) e
  |some u =>
   rw[q] at e;dsimp only [zbw] at e;rw[zbz] at e;cases c:a==b with
   |true=>rw[c] at e;cases e;rw[eq_of_beq c];exact q
   |false=>rw[c] at e;exact OE (as:=r) e
abbrev xV (h h':Heap):Prop:=∀(b:Addr) (o:Obj),h.get? b=some o->h'.get? b=some o
def sJ (s:xV h h'):(yT h as).In h':=λ a o e=>s a o (OE e)
def lU {lo}(h:∀w:World,(openEnds treeTable p w N).map (λ s=>openSeen q lo (importedModules p.main.body) Xt true s)=some (openGood q lo)):LeftO p q lo Xt (λ s=>s.heap) (λ w=>Zj R0 p w N) N:=λ w=>by
 have e:=h w;unfold Zj;dsimp only;rw[<-X6];cases q':openEnds treeTable p w N with
 |none=>rw[q'] at e;cases e
 |some s =>
  rw[q'] at e;rw[zbw] at e ⊢;dsimp only;rw[zau e]
def xW {l:PySem.W.OpenLaw}{K:World->za1}{CX:World->Wt}{sp:World->Sp}(hn:l.most=some n)(a6:n<=sizeLine)(f6:d.params.defaults=[])(hr:Bm k callerA)(hY:∀(w:World) (h:Heap),YP w h->(K w).In h)(F:∀(w:World) (mg:Str->Option Value) (fa:Addr) (h:Heap),(K w).In h->h.Ns mainGlobals mg->mg d.name=some (.ref fa)->∃fd:FuncData,(∀(s:Shared) (u:Value),BindsTo s fd ⟨[u],[]⟩ [(x,u)])/\
  ∀base:Heap,(K w).In base->base.Ns mainGlobals mg->Cw l.prog w (K w) mg base (CX w) k fa fd [x] (sp w))(bx:∀(w:World) (H:Hp) (a:Addr) (ns:List Int),(∀n∈ns,Sm n)->ns.length<=n->jG H->DB (K w) H a (ns.map V.int)->sp w [.ref a] H (λ v _=>v=.bl true) λ _ _ _=>False)(jb:∀(w:World) (H:Hp) (s:Shared) (e:Value) (s':Shared),CX w [] H s (λ _ _ _=>False) e s'->False):PySem.W.WalkO q loose XP YP l.row.toRowW d [] (λ f vs=>PySem.call f vs):=by
 refine HT.QW hn f6 λ w s₀ s₁ mg mb fa o pm cd doc a vs ns aV G Y ho hd aO f7 cg bf hlen hg=>?_;have KX:=hY w _ Y;obtain⟨fd,hb,hF⟩:=F w mg fa _ KX G.T.g f7;exact Tf KX G.T.g G.T.b G.T.builtins G.T.nolimit hg cg bf (zc0 hlen a6) hr hF hb (λ H hO hS=>bx w H a ns aV hlen hO hS) λ H e s'=>jb w H s₁ e s'
abbrev cst:Option (Int×Int)->D
 |none=>.Ax
 |some p=>.tup [.int p.1,.int p.2]
abbrev AD:Option (Int×Int)->Option (Int×Int)->Option (Int×Int)
 |some p,some q=>some (p.1+q.1,p.2+q.2)
 |_,_=>none
abbrev sL (p q:Int×Int):Int×Int:=if p.1<q.1\/(p.1=q.1/\p.2<=q.2) then p else q
abbrev Ha:Option (Int×Int)->Option (Int×Int)->Option (Int×Int)
 |none,b=>b
 |some p,none=>some p
 |some p,some q=>some (sL p q)
abbrev Hr (cs:List (Option (Int×Int))):Option (Int×Int):=cs.foldl Ha none
def Mr (cs:List (Option (Int×Int))):B6 (λ d ρ=>.ok (ρ.set 0 (some (.val d)))) (λ ρ=>(rv 0 ρ).bind λ x=>.ok (!Bz x)) (rv 0) (cs.map cst) [none]=.ok ((cs.filterMap id).map λ p=>cst (some p)):=by
 induction cs with
 |nil=>rfl
 |cons c r ih =>
  rw[za6,B6];cases c with
  |none =>
   show B6 _ _ _ (r.map cst) [none]=_;rw[ih];rfl
  |some p =>
   show (match B6 _ _ _ (r.map cst) [none] with | .ok ys=>M.ok (cst (some p)::ys)|_=>.bad)=_;rw[ih];rfl
def YD (ps:List (Int×Int)):Mn (ps.map λ p=>cst (some p))=some (ps.map λ p=>(cst (some p),[p.1,p.2])):=by
 induction ps with
 |nil=>rfl
 |cons p r ih=>rw[za6,Mn,ih];rfl
def fC (cs:List (Option (Int×Int))):C2 ((cs.filterMap id).map λ p=>(cst (some p),[p.1,p.2]))=(Hr cs).map λ p=>(cst (some p),[p.1,p.2]):=by
 have key:∀(cs:List (Option (Int×Int))) (z:Option (Int×Int)),((cs.filterMap id).map λ p=>(cst (some p),[p.1,p.2])).foldl FI (z.map λ p=>(cst (some p),[p.1,p.2]))=(cs.foldl Ha z).map λ p=>(cst (some p),[p.1,p.2]):=by
  intro cs;induction cs with
  |nil=>intro z;rfl
  |cons c r ih =>
   intro z;cases c with
   |none =>
    rw[show List.filterMap id (none::r)=List.filterMap id r from rfl,zat,ih z];cases z<;>rfl
   |some q =>
    rw[show List.filterMap id (some q::r)=q::List.filterMap id r from rfl,za6,zat,zat,<-ih (Ha z (some q))];congr 1;cases z with
    |none=>rfl
    |some p =>
     simp only[zbw,FI,HT.Gh,HT.Ft,Ha,sL];by_cases h1:q.1=p.1
     ·by_cases h2:q.2=p.2
      ·rw[if_pos (show p.1<q.1\/(p.1=q.1/\p.2<=q.2) by omega)];simp[h1,h2]
      ·by_cases h3:q.2<p.2
       ·rw[if_neg (show ¬ (p.1<q.1\/(p.1=q.1/\p.2<=q.2)) by omega)];simp[h1,h2,h3]
       ·rw[if_pos (show p.1<q.1\/(p.1=q.1/\p.2<=q.2) by omega)];simp[h1,h2,h3]
     ·by_cases h3:q.1<p.1
      ·rw[if_neg (show ¬ (p.1<q.1\/(p.1=q.1/\p.2<=q.2)) by omega)];simp[h1,h3]
      ·rw[if_pos (show p.1<q.1\/(p.1=q.1/\p.2<=q.2) by omega)];simp[h1,h3]
 exact key cs none
def lV (cs:List (Option (Int×Int))):WL (.lst ((cs.filterMap id).map λ p=>cst (some p))) .Ax=.ok (cst (Hr cs)):=by
 simp only[WL,YD,fC];cases Hr cs<;>rfl
def fD (cs:List (Option (Int×Int))):QT (B6 (λ d ρ=>.ok (ρ.set 0 (some (.val d)))) (λ ρ=>(rv 0 ρ).bind λ x=>.ok (!Bz x)) (rv 0) (cs.map cst) [none])=.ok (.lst ((cs.filterMap id).map λ p=>cst (some p))):=by
 rw[Mr];rfl
noncomputable abbrev Co:=Option (Int×Int)
variable {Cf:Int->Int->Co}
abbrev BQ:Co->Co->Prop
 |_,none=>True
 |none,some _=>False
 |some p,some q=>p.1<q.1\/(p.1=q.1/\p.2<=q.2)
def Ct:∀a:Co,BQ a a
 |none=>trivial
 |some p=>.inr ⟨rfl,Int.le_refl _⟩
def AE:∀ {a b c:Co},BQ a b->BQ b c->BQ a c
 |_,_,none,_,_=>trivial
 |none,none,some _,_,h|some _,none,some _,_,h|none,some _,some _,h,_=>h.elim
 |some p,some q,some r,h1,h2=>by simp only[BQ] at *;omega
def OF:∀ {a b:Co},BQ a b->BQ b a->a=b
 |none,none,_,_=>rfl
 |none,some _,h,_|some _,none,_,h=>h.elim
 |some p,some q,h1,h2=>by
  obtain⟨p1,p2⟩:=p;obtain⟨q1,q2⟩:=q;simp only[BQ] at h1 h2;have e1:p1=q1:=by omega
  have e2:p2=q2:=by omega
  rw[e1,e2]
def Dl:∀a b:Co,(Ha a b=a/\BQ a b)\/(Ha a b=b/\BQ b a/\a≠b)
 |none,none=>.inl ⟨rfl,trivial⟩
 |none,some q=>.inr ⟨rfl,trivial,λ h=>by cases h⟩
 |some p,none=>.inl ⟨rfl,trivial⟩
 |some p,some q=>by
  unfold Ha sL;by_cases h:p.1<q.1\/(p.1=q.1/\p.2<=q.2)
  ·dsimp only;rw[if_pos h];exact .inl ⟨rfl,h⟩
  ·dsimp only;rw[if_neg h];refine .inr ⟨rfl,?_,λ e=>?_⟩
   ·simp only[BQ];omega
   ·cases e;exact h (.inr ⟨rfl,Int.le_refl _⟩)
def Gy (a b:Co):BQ (Ha a b) a:=by
 rcases Dl a b with ⟨e,h⟩|⟨e,h,_⟩
 ·rw[e];exact Ct a
 ·rw[e];exact h
def J9 (a b:Co):BQ (Ha a b) b:=by
 rcases Dl a b with ⟨e,h⟩|⟨e,h,_⟩
 ·rw[e];exact h
 ·rw[e];exact Ct b
def U3 (cs:List Co):∀z:Co,BQ (cs.foldl Ha z) z/\(∀x∈cs,BQ (cs.foldl Ha z) x)/\(cs.foldl Ha z=z\/cs.foldl Ha z∈cs):=by
 induction cs with
 |nil=>intro z;exact⟨Ct z,(λ x h=>by cases h),.inl rfl⟩
 |cons c r ih =>
  intro z;obtain⟨h1,h2,h3⟩:=ih (Ha z c);rw[zat];refine⟨AE h1 (Gy z c),λ x hx=>?_,?_⟩
  ·rcases zab.mp hx with rfl|hx
   ·exact AE h1 (J9 z x)
   ·exact h2 x hx
  ·rcases h3 with h3|h3
   ·rw[h3];rcases Dl z c with ⟨e,_⟩|⟨e,_⟩
    ·exact .inl e
    ·rw[e];exact .inr za3
   ·exact .inr (za4 _ h3)
def NI (h:x∈cs):BQ (Hr cs) x:=(U3 cs none).2.1 x h
def KD (cs:List Co):Hr cs=none\/Hr cs∈cs:=(U3 cs none).2.2
def X7 (h1:∀x∈cs,BQ v x)(h2:v≠none->∃x∈cs,BQ x v):Hr cs=v:=by
 refine OF ?_ ?_
 ·cases v with
  |none=>cases Hr cs<;>exact trivial
  |some p =>
   obtain⟨x,hx,hl⟩:=h2 (by intro z;cases z);exact AE (NI hx) hl
 ·rcases KD cs with h|h
  ·rw[h];cases v<;>exact trivial
  ·exact h1 _ h
def LQ:∀a b:Co,AD a b=AD b a
 |none,none=>rfl
 |none,some _|some _,none=>rfl
 |some p,some q=>by simp only[AD];rw[Int.add_comm,Int.add_comm p.2]
def FR:∀ {a b:Co}(c:Co),BQ a b->BQ (AD a c) (AD b c)
 |_,none,c,_=>by cases c<;>exact trivial
 |none,some _,c,h=>h.elim
 |some p,some q,none,h=>trivial
 |some p,some q,some r,h=>by simp only[AD,BQ] at *;omega
abbrev NN:Co->Prop
 |none=>True
 |some p=>0<=p.1/\0<=p.2
def fE:∀ {a b:Co},NN a->NN b->NN (AD a b)
 |none,none,_,_=>trivial
 |none,some _,_,_|some _,none,_,_=>trivial
 |some p,some q,h1,h2=>by simp only[AD,NN] at *;omega
def xX (h1:NN a)(h2:NN b):NN (Ha a b):=by
 rcases Dl a b with ⟨e,_⟩|⟨e,_⟩
 ·rw[e];exact h1
 ·rw[e];exact h2
abbrev ltN (a b:Co):Prop:=NN a/\BQ a b/\a≠b
def YE (a b c:Co)(h1:ltN a b)(h2:ltN b c):ltN a c:=
 ⟨h1.1,AE h1.2.1 h2.2.1,λ e=>by subst e;exact h1.2.2 (OF h1.2.1 h2.2.1)⟩
abbrev rank:Co->Nat×Nat×Nat
 |none=>(1,0,0)
 |some p=>(0,p.1.toNat,p.2.toNat)
def sM:∀a:Co,NN a->Acc ltN a:=by
 have wf:WellFounded (InvImage (Prod.Lex (· < ·) (Prod.Lex (· < ·) (· < ·))) rank):=InvImage.wf rank (Prod.lex Nat.lt_wfRel (Prod.lex Nat.lt_wfRel Nat.lt_wfRel)).wf;intro a;induction a using wf.induction with
 |h a ih =>
  intro ha;refine .intro _ λ b ⟨hb,hl,ad⟩=>ih b ?_ hb;cases b with
  |none=>cases a with
   |none=>exact (ad rfl).elim
   |some p=>exact hl.elim
  |some q=>cases a with
   |none=>exact Prod.Lex.left _ _ (by decide)
   |some p =>
    obtain⟨p1,p2⟩:=p;obtain⟨q1,q2⟩:=q;simp only[BQ,NN] at hl ha hb;show Prod.Lex _ _ (0,q1.toNat,q2.toNat) (0,p1.toNat,p2.toNat);refine Prod.Lex.right _ ?_;by_cases h:q1<p1
    ·exact Prod.Lex.left _ _ (by omega)
    ·have e:q1=p1:=by omega
     subst e;have h2:q2≠p2:=λ e=>ad (by rw[e]);exact Prod.Lex.right _ (by omega)
def lW (a:Co):Acc ltN a:=.intro _ λ b h=>sM b h.1
def YF (cs:List Co):Acc (Q8 ltN) cs:=Oi ltN lW cs.length cs rfl
structure Road where
 a:Int
 b:Int
 l:Option Int
 w:Int
variable {rs:List Road}
abbrev E5:Option Int->D
 |none=>.Ax
 |some i=>.int i
abbrev Bx (r:Road):D:=.tup [.int r.a,.int r.b,E5 r.l,.int r.w]
abbrev Ad (m:Int)(rs:List Road):D:=.tup [.int m,.lst (rs.map Bx)]
abbrev CT (r:Road):Co:=match r.l with | none=>none | some l=>some (l,1)
structure Sf (m:Nat)(r:Road):Prop where
 a0:0<=r.a
 a1:r.a<m
 b0:0<=r.b
 b1:r.b<m
 l0:∀l,r.l=some l->0<=l
abbrev KG (r:Road):Road:=⟨r.b,r.a,r.l,r.w⟩
def oA (h:Sf m r):NN (CT r):=by
 unfold CT;split
 ·trivial
 ·rename_i l e;exact⟨h.l0 l e,by show (0:Int)<=1;decide⟩
abbrev atC (cs:List Co)(i:Int):Co:=cs.getD i.toNat none
def Ep (h0:0<=i)(h1:i<cs.length):cs[i.toNat]?=some (atC cs i):=by
 unfold atC;rw[zbb,za7 (show i.toNat<cs.length by omega)];rfl
def set_same {α:Type}:∀ {l:List α}{i:Nat}{x:α},l[i]?=some x->l.set i x=l
 |[],_,_,h=>by cases h
 |y::r,0,x,h=>by cases h;rfl
 |y::r,i+1,x,h=>by rw[zag,set_same (by simpa using h)]
abbrev Dm (r:Road)(cs:List Co):List Co:=cs.set r.b.toNat (Ha (atC cs r.b) (AD (atC cs r.a) (CT r)))
def Sg (hi:0<=i)(hj:0<=j)(h1:i<cs.length):atC (cs.set i.toNat v) j=if j=i then v else atC cs j:=by
 unfold atC;rw[zbb,zbb];by_cases h:j=i
 ·subst h;rw[if_pos rfl,zb3 (by omega)];rfl
 ·rw[if_neg h,zbs (by omega)]
structure Good (m s:Nat)(rs:List Road)(cs:List Co):Prop where
 len:cs.length=m
 st:atC cs s=some (0,0)
 nn:∀c∈cs,NN c
 sup:∀p:Int,0<=p->p<m->p≠s->atC cs p≠none->∃r∈rs,r.b=p/\BQ (AD (atC cs r.a) (CT r)) (atC cs p)
def Good.oB (g:Good m s rs cs){i:Int}(h0:0<=i)(h1:i<m):NN (atC cs i):=
 g.nn _ (zao (Ep h0 (by rw[g.len];exact h1)))
def YG (g:Good m s rs cs)(hr:r∈rs)(AF:∀r∈rs,Sf m r):
 Good m s rs (Dm r cs)/\(∀i:Int,0<=i->BQ (atC (Dm r cs) i) (atC cs i))/\(Ha (atC cs r.b) (AD (atC cs r.a) (CT r))=atC cs r.b->Dm r cs=cs)/\
 (Ha (atC cs r.b) (AD (atC cs r.a) (CT r))≠atC cs r.b->Q8 ltN (Dm r cs) cs):=by
 have ok:=AF r hr;have ij:r.b<cs.length:=by rw[g.len];exact ok.b1
 have hx:NN (AD (atC cs r.a) (CT r)):=fE (g.oB ok.a0 ok.a1) (oA ok);have hv:NN (Ha (atC cs r.b) (AD (atC cs r.a) (CT r))):=xX (g.oB ok.b0 ok.b1) hx;have br:∀i:Int,0<=i->atC (Dm r cs) i=if i=r.b then Ha (atC cs r.b) (AD (atC cs r.a) (CT r)) else atC cs i:=λ i hi=>Sg ok.b0 hi ij
 have le:∀i:Int,0<=i->BQ (atC (Dm r cs) i) (atC cs i):=λ i hi=>by
  rw[br i hi];by_cases h:i=r.b
  ·rw[if_pos h,h];exact Gy _ _
  ·rw[if_neg h];exact Ct _
 refine⟨⟨by unfold Dm;rw[zc7];exact g.len,?_,λ c hc=>?_,λ p h0 h1 hp hn=>?_⟩,le,λ h=>?_,λ h=>?_⟩
 ·rw[br s (by omega)];by_cases h:(s:Int)=r.b
  ·rw[if_pos h,<-h,g.st];cases q:AD (atC cs r.a) (CT r) with
   |none=>rfl
   |some x =>
    rw[q] at hx;unfold Ha sL;dsimp only;rw[if_pos (by simp only[NN] at hx;omega)]
  ·rw[if_neg h];exact g.st
 ·unfold Dm at hc;rcases List.mem_or_eq_of_mem_set hc with h|h
  ·exact g.nn c h
  ·rw[h];exact hv
 ·rw[br p h0] at hn ⊢;by_cases h:p=r.b
  ·rw[if_pos h] at hn ⊢;rcases Dl (atC cs r.b) (AD (atC cs r.a) (CT r)) with ⟨e,_⟩|⟨e,_⟩
   ·rw[e] at hn ⊢;subst h;obtain⟨r',h2,h3,h4⟩:=g.sup r.b h0 h1 hp hn;exact⟨r',h2,h3,AE (FR _ (le r'.a (AF r' h2).a0)) h4⟩
   ·rw[e];exact⟨r,hr,h.symm,FR _ (le r.a ok.a0)⟩
  ·rw[if_neg h] at hn ⊢;obtain⟨r',h2,h3,h4⟩:=g.sup p h0 h1 hp hn;exact⟨r',h2,h3,AE (FR _ (le r'.a (AF r' h2).a0)) h4⟩
 ·unfold Dm;rw[h];exact set_same (Ep ok.b0 ij)
 ·unfold Dm;exact WQ ltN (Ep ok.b0 ij) ⟨hv,Gy _ _,h⟩
abbrev Right (m s:Nat)(rs:List Road)(cs:List Co):Prop:=
 cs.length=m/\atC cs s=some (0,0)/\(∀c∈cs,NN c)/\∀p:Int,0<=p->p<m->p≠s->atC cs p=Hr ((rs.filter λ r=>decide (r.b=p)).map λ r=>AD (CT r) (atC cs r.a))
def right_of (g:Good m s rs cs)(h:∀r∈rs,Ha (atC cs r.b) (AD (atC cs r.a) (CT r))=atC cs r.b):Right m s rs cs:=by
 refine⟨g.len,g.st,g.nn,λ p h0 h1 hp=>?_⟩;symm;refine X7 (λ x hx=>?_) λ hn=>?_
 ·obtain⟨r,hr,rfl⟩:=zar.mp hx;obtain⟨h2,h3⟩:=zb9.mp hr;have e:r.b=p:=by simpa using h3
  have:=J9 (atC cs r.b) (AD (atC cs r.a) (CT r));rw[h r h2,e] at this;rw[LQ];exact this
 ·obtain⟨r,h2,h3,h4⟩:=g.sup p h0 h1 hp hn;refine⟨_,zar.mpr ⟨r,zb9.mpr ⟨h2,by simpa using h3⟩,rfl⟩,?_⟩;rw[LQ];exact h4
def VJ (rs:List Road)(h:s<m):Good m s rs ((zak m none).set s (some (0,0))):=by
 have hl:(zak m (none:Co)).length=m:=List.length_replicate;have br:∀i:Int,0<=i->atC ((zak m none).set s (some (0,0))) i=if i=s then some (0,0) else none:=λ i hi=>by
  have:=Sg (cs:=zak m none) (i:=(s:Int)) (j:=i) (v:=some (0,0)) (by omega) hi (by rw[hl];omega);rw[zbg] at this;rw[this];by_cases h:i=s
  ·rw[if_pos h,if_pos h]
  ·rw[if_neg h,if_neg h];unfold atC;rw[zbb,zcm];split<;>rfl
 refine⟨by rw[zc7,hl],?_,λ c hc=>?_,λ p h0 h1 hp hn=>?_⟩
 ·rw[br s (by omega),if_pos rfl]
 ·rcases List.mem_or_eq_of_mem_set hc with h|h
  ·rw[List.eq_of_mem_replicate h];trivial
  ·rw[h];exact⟨Int.le_refl _,Int.le_refl _⟩
 ·rw[br p h0,if_neg hp] at hn;exact (hn rfl).elim
def sN {α:Type}{l:List α}{n:Int}(h:0<=n/\n<l.length):V2 l n=l[n.toNat]? :=by
 unfold V2 Wv;obtain⟨h1,h2⟩:=h;simp[h1,h2]
def lX {n:Nat}{j:Int}(h:0<=j/\j<n):Wv n j=some j.toNat:=by
 unfold Wv;obtain⟨h1,h2⟩:=h;simp[h1,h2]
def Gz {α:Type}{f}{l:List α}{x}(h0:0<=n)(h:l[n.toNat]?=some x):uJ (.lst (l.map f)) (.int n)=.ok (f x):=by
 have h1:=(zae.mp h).1;unfold uJ;dsimp only;rw[sN (by rw[za2];omega),zaw,h];rfl
def FU (h0:0<=i)(h1:i<cs.length):uJ (.lst (cs.map cst)) (.int i)=.ok (cst (atC cs i)):=Gz h0 (Ep h0 h1)
def OG (c:Co):Pl (n+1) (cst c):=by
 cases c with
 |none=>exact cH
 |some p=>exact S4 (Dy (Ci _) (Dy (Ci _) S5))
def X8 (a b:Co):Br (cst a) (cst b)=decide (a=b):=by
 rcases a with _|⟨a1,a2⟩<;>rcases b with _|⟨b1,b2⟩
 ·simp[cst,Br]
 ·simp[cst,Br]
 ·simp[cst,Br]
 ·rw[zcw];simp[cst,Br,C9]
def lY (a b:Co):Vt 16 (cst a) (cst b)=.ok (.bl (!decide (a=b))):=by rw[Oa (OG (n:=15) a) (OG (n:=15) b),X8]
def KH (a b:Co):XU 16 (cst a) (cst b)=.ok (.bl (decide (a=b))):=by rw[O9 (OG (n:=15) a) (OG (n:=15) b),X8]
def X9 (c:Co):MT (cst c)=true:=by
 cases c<;>simp[cst,MT,Y5]
def fF (c:Co):dp (.ok (cst c))=.ok (cst c):=by
 unfold dp;rw[M.A8,if_pos (X9 c)]
def sO (l:Option Int):Pl n (E5 l):=by
 cases l with
 |none=>exact cH
 |some i=>exact Ci i
def oC (r:Road):Pl 1 (Bx r):=S4 (Dy (Ci _) (Dy (Ci _) (Dy (sO r.l) (Dy (Ci _) S5))))
def fG (m:Int)(rs:List Road):Pl 3 (Ad m rs):=S4 (Dy (Ci _) (Dy (O8 λ d hd=>by
 obtain⟨r,_,rfl⟩:=zar.mp hd;exact oC r) S5))
def B7 (h:0<b):F8 (.int a) (.int b)=.ok (.int (a%b)):=by
 unfold F8 Bh;dsimp only;rw[if_pos h]
def Bp (h:Zx a b):Ei (.int a) (.int b)=.ok (.int (a / b)):=by
 unfold Ei Bh;dsimp only;rw[if_pos h]
inductive Wk (rs:List Road):Int->Int->Int×Int->Prop
 |nil (u:Int):Wk rs u u (0,0)
 |cons {r:Road} {l:Int} {w:Int} {c:Int×Int}:r∈rs->r.l=some l->Wk rs r.b w c->Wk rs r.a w (l+c.1,1+c.2)
def Wk.trans (h:Wk rs u v c)(k:Wk rs v w d):Wk rs u w (c.1+d.1,c.2+d.2):=by
 induction h with
 |nil u=>simpa using k
 |cons hr hl _ ih =>
  have:=Wk.cons hr hl (ih k);simpa [zd3] using this
def Wk.one (hr:r∈rs)(hl:r.l=some l):Wk rs r.a r.b (l,1):=by
 have:=Wk.cons hr hl (Wk.nil (rs:=rs) r.b);simpa using this
abbrev By (rs:List Road)(u w:Int)(x:Co):Prop:=(∀c,Wk rs u w c->BQ x (some c))/\∀p,x=some p->Wk rs u w p
def By.C5 (h:By rs u w x)(k:By rs u w y):x=y:=by
 refine OF ?_ ?_
 ·cases y with
  |none=>cases x<;>exact trivial
  |some q=>exact h.1 q (k.2 q rfl)
 ·cases x with
  |none=>cases y<;>exact trivial
  |some q=>exact k.1 q (h.2 q rfl)
def KI (h:CT r=some c):∃l,r.l=some l/\c=(l,1):=by
 unfold CT at h;split at h
 ·cases h
 ·rename_i l e;cases h;exact⟨l,e,rfl⟩
def EA (h:AD a b=some c):∃p q,a=some p/\b=some q/\c=(p.1+q.1,p.2+q.2):=by
 cases a with
 |none=>cases h
 |some p=>cases b with
  |none=>cases h
  |some q=>cases h;exact⟨p,q,rfl,rfl,rfl⟩
def Right.min_le (h:Right m s rs cs)(hr:r∈rs)(AF:Sf m r):BQ (atC cs r.b) (AD (CT r) (atC cs r.a)):=by
 obtain⟨h1,h2,h3,h4⟩:=h;by_cases hs:r.b=s
 ·rw[hs,h2];have hn:NN (AD (CT r) (atC cs r.a)):=fE (oA AF) (h3 _ (zao (Ep AF.a0 (by rw[h1];exact AF.a1))));cases q:AD (CT r) (atC cs r.a) with
  |none=>exact trivial
  |some p=>rw[q] at hn;simp only[NN] at hn;simp only[BQ];omega
 ·rw[h4 r.b AF.b0 AF.b1 hs];exact NI (zar.mpr ⟨r,zb9.mpr ⟨hr,by simp⟩,rfl⟩)
def YH (h:Right m s rs cs)(AF:∀r∈rs,Sf m r)(k:Wk rs u w c):BQ (atC cs w) (AD (atC cs u) (some c)):=by
 induction k with
 |nil u =>
  cases atC cs u with
  |none=>exact trivial
  |some p=>simp only[AD,BQ];omega
 | @cons r l w c hr hl _ ih =>
  refine AE ih ?_;have h1:=h.min_le hr (AF r hr);have e:CT r=some (l,1):=by unfold CT;rw[hl]
  rw[e] at h1;cases q:atC cs r.a with
  |none=>exact trivial
  |some p =>
   rw[q] at h1;cases q2:atC cs r.b with
   |none=>rw[q2] at h1;exact h1.elim
   |some p2=>rw[q2] at h1;simp only[AD,BQ] at *;omega
def YI {m s:Nat}{rs:List Road}{cs:List Co}(h:Right m s rs cs)(AF:∀r∈rs,Sf m r):∀(n:Nat) (w:Int) (p:Int×Int),0<=w->w<m->atC cs w=some p->p.2.toNat=n->Wk rs s w p:=by
 obtain⟨h1,h2,h3,h4⟩:=h;intro n;induction n with
 |zero =>
  intro w p h0 hw hp hn;by_cases hs:w=s
  ·rw[hs,h2] at hp;cases hp;rw[hs];exact .nil _
  ·exfalso;have e:=h4 w h0 hw hs;rw[hp] at e;rcases KD ((rs.filter λ r=>decide (r.b=w)).map λ r=>AD (CT r) (atC cs r.a)) with z|z
   ·rw[z] at e;cases e
   ·rw[<-e] at z;obtain⟨r,hr,e2⟩:=zar.mp z;have d6:=(zb9.mp hr).1;obtain⟨p1,p2,e3,e4,e5⟩:=EA e2;obtain⟨l,hl,rfl⟩:=KI e3;have ok:=AF r d6;have nn:=h3 _ (zao (Ep ok.a0 (by rw[h1];exact ok.a1)));rw[e4] at nn;simp only[NN] at nn;rw[e5] at hn;simp only at hn;omega
 |succ n ih =>
  intro w p h0 hw hp hn;by_cases hs:w=s
  ·rw[hs,h2] at hp;cases hp;rw[hs];exact .nil _
  ·have e:=h4 w h0 hw hs;rw[hp] at e;rcases KD ((rs.filter λ r=>decide (r.b=w)).map λ r=>AD (CT r) (atC cs r.a)) with z|z
   ·rw[z] at e;cases e
   ·rw[<-e] at z;obtain⟨r,hr,e2⟩:=zar.mp z;obtain⟨d6,rc⟩:=zb9.mp hr;have rc:r.b=w:=by simpa using rc
    obtain⟨p1,p2,e3,e4,e5⟩:=EA e2;obtain⟨l,hl,rfl⟩:=KI e3;have ok:=AF r d6;have nn:=h3 _ (zao (Ep ok.a0 (by rw[h1];exact ok.a1)));rw[e4] at nn;simp only[NN] at nn;subst e5;simp only at hn;have w1:=ih r.a p2 ok.a0 ok.a1 e4 (by omega);have w2:=w1.trans (Wk.one d6 hl);rw[rc] at w2;have e6:((l+p2.1,1+p2.2):Int×Int)=(p2.1+l,p2.2+1):=by rw[Int.add_comm l,Int.add_comm 1]
    show Wk rs s w (l+p2.1,1+p2.2);rw[e6];exact w2
def Right.oE (h:Right m s rs cs)(AF:∀r∈rs,Sf m r){w:Int}(h0:0<=w)(hw:w<m):By rs s w (atC cs w):=by
 refine⟨λ c k=>?_,λ p hp=>YI h AF _ w p h0 hw hp rfl⟩;have:=YH h AF k;rw[h.2.1] at this;have e:AD (some (0,0)) (some c)=some c:=by simp[AD]
 rw[e] at this;exact this
abbrev over (k:Int)(A:Int->Int->Co):Int->Int->Co:=λ x y=>Ha (A x y) (AD (A x k) (A k y))
def Wk.nn (AF:∀r∈rs,Sf m r)(h:Wk rs u w c):0<=c.1/\0<=c.2:=by
 induction h with
 |nil=>exact⟨Int.le_refl _,Int.le_refl _⟩
 |cons hr hl _ ih =>
  have:=(AF _ hr).l0 _ hl;simp only;omega
abbrev pD (p:Int×Int):D:=.tup [.int p.1,.int p.2]
def HZ (p q:Int×Int):Br (pD p) (pD q)=decide (p=q):=by
 obtain⟨a,b⟩:=p;obtain⟨c,d⟩:=q;unfold pD;simp only[Br,C9,Bool.and_true];rw[zcw];simp
def I9 (p:Int×Int):keyOk true (pD p)=true:=rfl
def FV {α:Type}[DecidableEq α]:∀ {l u:List α},l.Nodup->(∀x∈l,x∈u)->l.length<=u.length
 |[],_,_,_=>zba _
 |x::r,u,nd,h=>by
  have aL:=zbc.mp nd;have hx:=h x za3;have ih:=FV (l:=r) (u:=u.erase x) aL.2 λ y hy=>(List.mem_erase_of_ne (λ z=>aL.1 (by rw[<-z];exact hy))).mpr (h y (za4 _ hy));have e:=List.length_erase_of_mem hx;have:0<u.length:=List.length_pos_of_mem hx;rw[za8];omega
def sP (p:Int×Int):MT (pD p)=true:=by simp[pD,MT,Y5]
abbrev BC (m:Nat):List Int:=(zb8 m).map λ i:Nat=>(i:Int)
def U4 (m:Nat):((zb8 m).map λ i:Nat=>D.int (i:Int))=(BC m).map D.int:=by unfold BC;rw[zbx];rfl
def Ia (m:Nat):(BC m).length=m:=by unfold BC;simp
def KJ:p∈BC m↔0<=p/\p<m:=by
 unfold BC;constructor
 ·intro h;obtain⟨i,hi,rfl⟩:=zar.mp h;have:=zcb.mp hi;omega
 ·rintro ⟨h0,h1⟩;exact zar.mpr ⟨p.toNat,zcb.mpr (by omega),by omega⟩
abbrev sQ (B:List (Int×Int)):Prop:=∀x,(x,x)∉B
structure OH (m:Nat)(B:List (Int×Int)):Prop where
 nd:B.Nodup
 no:sQ B
 inn:∀p∈B,(0<=p.1/\p.1<m)/\(0<=p.2/\p.2<m)
def OH.len (h:OH m B)(hm:m<=20):B.length<1000:=by
 have key:=FV (l:=B) (u:=(zb8 m).flatMap λ i:Nat=>(zb8 m).map λ j:Nat=>((i:Int),(j:Int))) h.nd λ p hp=>by
  obtain⟨h1,h2⟩:=h.inn p hp;refine List.mem_flatMap.mpr ⟨p.1.toNat,zcb.mpr (by omega),zar.mpr ⟨p.2.toNat,zcb.mpr (by omega),?_⟩⟩;rw[Int.toNat_of_nonneg h1.1,Int.toNat_of_nonneg h2.1]
 have e:((zb8 m).flatMap λ i:Nat=>(zb8 m).map λ j:Nat=>((i:Int),(j:Int))).length=m*m:=by
  rw[List.length_flatMap];simp[List.map_const',List.sum_replicate_nat]
 rw[e] at key;have:m*m<=20*20:=Nat.mul_le_mul hm hm;omega
def sR (a b c d:Int):HT.lexLt [a,b] [c,d]=decide (a<c\/(a=c/\b<d)):=by
 rw[HT.Gh,HT.Gh,HT.Ft,zcw];by_cases h1:a=c
 ·subst h1;by_cases h2:b=d
  ·subst h2;simp
  ·simp[h2]
 ·simp[h1]
def R9:Bh f (.int a) (.int b)=f a b:=rfl
def U5 {bs:List Bool}:Y3 [.lst (bs.map D.bl)]=.ok (.bl (bs.all id)):=by unfold Y3;dsimp only;rw[Od]
def fH {bs:List Bool}:wW [.lst (bs.map D.bl)]=.ok (.bl (bs.any id)):=by unfold wW;dsimp only;rw[Od]
def KL (h:a.length+b.length<=1000):Ko (.lst a) (.lst b)=.ok (.lst ((a++b).map .sh)):=if_pos h
def U6 (m:Nat):(BC m).Pairwise (·<=·):=by
 unfold BC;rw[List.pairwise_map];exact (List.pairwise_lt_range (n:=m)).imp λ h=>by omega
def OI (m:Nat):(BC m).Nodup:=by
 unfold BC List.Nodup;rw[List.pairwise_map];exact (List.pairwise_lt_range (n:=m)).imp λ h=>by omega
def YJ:HW L=BC m↔L.Perm (BC m):=
 ⟨λ h=>by rw[<-h];exact (EK L).symm,λ h=>HX ((EK L).trans h) (Gv L) (U6 m)⟩
def Ib (h:L.Perm (BC m)):L.length=m:=by rw[h.length_eq,Ia]
def B8 (h:L.Perm (BC m)):p∈L↔0<=p/\p<m:=by rw[h.mem_iff,KJ]
def GA (h:L.Perm (BC m)):L.Nodup:=h.nodup_iff.mpr (OI m)
def Ra:∀ {a b:List Int},C9 (a.map D.int) (b.map D.int)=decide (a=b)
 |[],[]=>by simp[C9]
 |[],y::t=>by simp[C9]
 |x::r,[]=>by simp[C9]
 |x::r,y::t=>by
  rw[za6,za6,C9,Ra,Br];by_cases h:x=y<;>by_cases k:r=t<;>simp[h,k]
def U7 {a:List Int}:Br (.lst (a.map D.int)) (.lst (b.map D.int))=decide (a=b):=by rw[Br];exact Ra
def U8 {a:List Int}:XU 16 (.lst (a.map D.int)) (.lst (b.map D.int))=.ok (.bl (decide (a=b))):=by rw[O9 (NA (n:=15) a) (NA (n:=15) b),U7]
def fI {a:List Int}:Vt 16 (.lst (a.map D.int)) (.lst (b.map D.int))=.ok (.bl (!decide (a=b))):=by rw[Oa (NA (n:=15) a) (NA (n:=15) b),U7]
def YK (h:L.Perm (BC i))(n:Nat):(L.take n++(i:Int)::L.drop n).Perm (BC (i+1)):=by
 have e:BC (i+1)=BC i++[(i:Int)]:=by unfold BC;rw[List.range_succ,zas];rfl
 rw[e];refine List.perm_middle.trans ?_;rw[zcj];exact ((h.cons _).trans (List.perm_append_singleton _ _).symm)
def Sh (hi:ρ[i]?=some (some (.own ds)))(h0:0<=p)(h1:p<ds.length):kB i ρ (.ok (.int p)) d=.ok (.next (ρ.set i (some (.own (ds.set p.toNat d))))):=by
 unfold kB;rw[hi];dsimp only;rw[M.A8];unfold rN;dsimp only;rw[lX ⟨h0,h1⟩]
def aaX:cQ 0 (none::ρ)=none::ρ:=rfl
def fJ:∃T Q:Int,XT (.int 10) (.int 60)=.ok (.int T)/\XT (.int 982451653) (.int 7)=.ok (.int Q)/\1000000<T/\T.natAbs<2^200/\0<Q/\Q.natAbs<2^250:=⟨10^60,982451653^7,rfl,rfl,by decide,by decide,by decide,by decide⟩
abbrev Rb:Int:=za5 fJ
def oF:∃Q:Int,XT (.int 10) (.int 60)=.ok (.int Rb)/\XT (.int 982451653) (.int 7)=.ok (.int Q)/\1000000<Rb/\Rb.natAbs<2^200/\0<Q/\Q.natAbs<2^250:=za0 fJ
def oG:XT (.int 10) (.int 60)=.ok (.int Rb):=(za0 oF).1
def VL:1000000<Rb:=(za0 oF).2.2.1
def lZ:F8 (.int i) (.int Rb)=.ok (.int (i%Rb)):=B7 (by have:=VL;omega)
abbrev cl:Nat->D->Prop
 |0,d=>wN d=false
 |n+1,d=>wN d=false/\∀ds,(d=.tup ds\/d=.lst ds)->∀e∈ds,cl n e
structure EL (m:Nat)(r:Road):Prop where
 a0:0<=r.a
 a1:r.a<m
 b0:0<=r.b
 b1:r.b<m
 ab:r.a≠r.b
 l0:∀l,r.l=some l->0<=l/\l<Rb
 w0:0<=r.w
 w1:r.w<Rb
def fK (h:0<S.length)(h0:0<=q):F8 (.int q) (.int (S.length:Int))=.ok (.int (q%S.length))/\∃y,y∈S/\AI (.lst S) (.int (q%(S.length:Int)))=.ok y:=by
 have bx:(0:Int)<(S.length:Int):=by omega
 have b0:0<=q%(S.length:Int):=zbq _ (by omega);have b1:q%(S.length:Int)<S.length:=zbm _ bx;refine⟨B7 bx,S[(q%(S.length:Int)).toNat]'(by omega),List.getElem_mem _,?_⟩;have:=Gz (f:=λ d:D=>d) (l:=S) b0 (za7 (by omega));rw[List.map_id'] at this;exact this
def KN:er (.tup [a,b])=.tup [er a,er b]:=by simp[er,XS]
section
variable {α β:Type}{a b c d e f g:α}{x y:β}
def aaY:(if [a,b,c,d,e].length<=1000 then x else y)=x:=rfl
def aaZ:(if [a,b,c,d,e,f].length<=1000 then x else y)=x:=rfl
def aa0:(if [a,b,c,d,e,f,g].length<=1000 then x else y)=x:=rfl
def mB:er (.BN t [] [])=.BN t [] []:=by simp[er,XS]
end
structure V4 (m:Nat)(rs:List Road)(rk:Int->Nat)(Af:Int->Int->Co):Prop where
 snd:∀x y c,Af x y=some c->Wk rs x y c/\x≠y/\(0<=x/\x<m)/\0<=y/\y<m
 road:∀r∈rs,BQ (Af r.a r.b) (CT r)
 tri:∀p x y,x≠y->rk p<rk x->rk p<rk y->BQ (Af x y) (AD (Af x p) (Af p y))
 inj:∀x y:Int,0<=x->x<m->0<=y->y<m->rk x=rk y->x=y
 nn:∀x y c,Wk rs x y c->0<=c.1/\0<=c.2
inductive KO (Af:Int->Int->Co) (rk:Int->Nat) (s:Int):Int->Int×Int->Prop
 |nil:KO Af rk s s (0,0)
 |snoc {x y:Int} {c d:Int×Int}:KO Af rk s x c->rk x<rk y->Af x y=some d->KO Af rk s y (c.1+d.1,c.2+d.2)
inductive Si (Af:Int->Int->Co) (rk:Int->Nat) (t:Int):Nat->Int->Int×Int->Prop
 |nil:Si Af rk t 0 t (0,0)
 |snoc {n:Nat} {x y:Int} {c d:Int×Int}:Si Af rk t n x c->rk y<rk x->Af x y=some d->Si Af rk t (n+1) y (c.1+d.1,c.2+d.2)
abbrev NJ (p q:Int×Int):Prop:=p.1<q.1\/(p.1=q.1/\p.2<=q.2)
def OJ (h:BQ a (some q)):∃p,a=some p/\NJ p q:=by
 cases a with
 |none=>exact h.elim
 |some p=>exact⟨p,rfl,h⟩
abbrev UD (Af:Int->Int->Co)(rk:Int->Nat)(s w:Int)(c:Int×Int):Prop:=∃t n c1 c2,KO Af rk s t c1/\Si Af rk t n w c2/\NJ (c1.1+c2.1,c1.2+c2.2) c
section
variable {m:Nat}{Af:Int->Int->Co}{s w:Int}
def KO.walk (L:V4 m rs rk Af)(h:KO Af rk s t c):Wk rs s t c:=by
 induction h with
 |nil=>exact .nil s
 |snoc _ _ ha ih=>exact ih.trans (L.snd _ _ _ ha).1
def Si.walk (L:V4 m rs rk Af)(h:Si Af rk t n x c):Wk rs t x c:=by
 induction h with
 |nil=>exact .nil t
 |snoc _ _ ha ih=>exact ih.trans (L.snd _ _ _ ha).1
def sS (L:V4 m rs rk Af):∀(n:Nat){t x y:Int}{c1 c2 d:Int×Int},KO Af rk s t c1->Si Af rk t n x c2->Af x y=some d->UD Af rk s y (c1.1+c2.1+d.1,c1.2+c2.2+d.2):=by
 intro n;induction n with
 |zero =>
  intro t x y c1 c2 d hu hd ha;obtain⟨_,ad,hx,hy⟩:=L.snd _ _ _ ha;cases hd with
  |nil =>
   by_cases h:rk y<rk t
   ·exact⟨t,1,c1,_,hu,.snoc .nil h ha,by simp only[NJ];omega⟩
   ·have h2:rk t<rk y:=by
     have hq:rk t≠rk y:=λ e=>ad (L.inj t y hx.1 hx.2 hy.1 hy.2 e);omega
    exact⟨y,0,_,_,.snoc hu h2 ha,.nil,by simp only[NJ];omega⟩
 |succ n ih =>
  intro t x y c1 c2 d hu hd ha;obtain⟨hw,ad,hx,hy⟩:=L.snd _ _ _ ha;by_cases h:rk y<rk x
  ·exact⟨t,n+2,c1,_,hu,.snoc hd h ha,by simp only[NJ];omega⟩
  ·have h2:rk x<rk y:=by
    have hq:rk x≠rk y:=λ e=>ad (L.inj x y hx.1 hx.2 hy.1 hy.2 e);omega
   cases hd with
   | @snoc _ z _ c e bh hr b7 =>
    have n1:=L.nn _ _ _ hw;have n2:=L.nn _ _ _ (L.snd _ _ _ b7).1;by_cases hz:z=y
    ·subst hz;exact⟨t,n,c1,c,hu,bh,by simp only[NJ];omega⟩
    ·have q:=L.tri x z y hz hr h2;rw[b7,ha] at q;obtain⟨f,hf,hle⟩:=OJ q;obtain⟨t',n',re,rf,g1,g2,g3⟩:=ih hu bh hf;refine⟨t',n',re,rf,g1,g2,?_⟩;simp only[NJ] at *;omega
def mC (L:V4 m rs rk Af)(h:Wk rs u w c):∀ {c0:Int×Int},UD Af rk s u c0->UD Af rk s w (c0.1+c.1,c0.2+c.2):=by
 induction h with
 |nil u =>
  intro c0 h;simpa using h
 | @cons r l w c hr hl _ ih =>
  intro c0 h0;obtain⟨t,n,c1,c2,g1,g2,g3⟩:=h0;have q:=L.road r hr;unfold CT at q;rw[hl] at q;obtain⟨d,hd,hle⟩:=OJ q;obtain⟨t',n',re,rf,k1,k2,k3⟩:=sS L n g1 g2 hd;have r1:=@ih (c0.1+l,c0.2+1) ⟨t',n',re,rf,k1,k2,by simp only[NJ] at *;omega⟩;simpa [zd3] using r1
abbrev Kept (rs:List Road)(Af Cf:Int->Int->Co):Prop:=∀x y c,Cf x y=some c↔(Af x y=some c/\By rs x y (some c))
def mD (L:V4 m rs rk Af)(K:Kept rs Af Cf){t:Int}{c1:Int×Int}(h:KO Af rk s t c1):∀ {c2:Int×Int},Wk rs t w c2->(∀c,Wk rs s w c->NJ (c1.1+c2.1,c1.2+c2.2) c)->KO Cf rk s t c1:=by
 induction h with
 |nil=>exact λ _ _=>.nil
 | @snoc x y c d hu hr ha ih =>
  intro c2 hw hm;have b7:=(L.snd _ _ _ ha).1;refine .snoc (ih (c2:=(d.1+c2.1,d.2+c2.2)) (b7.trans hw) λ c' cx=>?_) hr ((K x y d).mpr ⟨ha,λ e he=>?_,λ p hp=>by cases hp;exact b7⟩)
  ·have:=hm c' cx;simp only[NJ] at *;omega
  ·have:=hm _ (((hu.walk L).trans he).trans hw);simp only[NJ,BQ] at *;omega
def mE (L:V4 m rs rk Af)(K:Kept rs Af Cf)(hs:Wk rs s t c1)(h:Si Af rk t n x c2):(∀c,Wk rs s x c->NJ (c1.1+c2.1,c1.2+c2.2) c)->Si Cf rk t n x c2:=by
 induction h with
 |nil=>exact λ _=>.nil
 | @snoc n x y c d hd hr ha ih =>
  intro hm;have b7:=(L.snd _ _ _ ha).1;refine .snoc (ih λ c' cx=>?_) hr ((K x y d).mpr ⟨ha,λ e he=>?_,λ p hp=>by cases hp;exact b7⟩)
  ·have:=hm _ (cx.trans b7);simp only[NJ] at *;omega
  ·have:=hm _ ((hs.trans (hd.walk L)).trans he);simp only[NJ,BQ] at *;omega
def U9 (L:V4 m rs rk Af)(K:Kept rs Af Cf)(h:By rs s w (some c)):∃t n c1 c2,KO Cf rk s t c1/\Si Cf rk t n w c2/\c=(c1.1+c2.1,c1.2+c2.2):=by
 obtain⟨t,n,c1,c2,g1,g2,g3⟩:=mC L (h.2 c rfl) (c0:=(0,0)) ⟨s,0,_,_,.nil,.nil,by simp[NJ]⟩;have hw:=(g1.walk L).trans (g2.walk L);have q:=h.1 _ hw;have e:c=(c1.1+c2.1,c1.2+c2.2):=by
  obtain⟨a,b⟩:=c;simp only[NJ,BQ] at *;refine Prod.ext ?_ ?_<;>dsimp only<;>omega
 refine⟨t,n,c1,c2,mD L K g1 (g2.walk L) λ c' cx=>?_,mE L K (g1.walk L) g2 λ c' cx=>?_,e⟩
 ·have:=h.1 _ cx;rw[e] at this;exact this
 ·have:=h.1 _ cx;rw[e] at this;exact this
structure zM (rk:Int->Nat)(Cf:Int->Int->Co)(s:Int)(R:Int->Co):Prop where
 st:BQ (R s) (some (0,0))
 cl:∀x y,rk x<rk y->BQ (R y) (AD (R x) (Cf x y))
 sd:∀x c,R x=some c->KO Cf rk s x c
def zM.le (h:zM rk Cf s R)(u:KO Cf rk s t c):BQ (R t) (some c):=by
 induction u with
 |nil=>exact h.st
 | @snoc x y c d hu hr ha ih =>
  refine AE (h.cl x y hr) ?_;rw[ha];exact FR (some d) ih
structure zN (rk:Int->Nat)(Cf:Int->Int->Co)(s:Int)(R T:Int->Co)(m:Nat):Prop where
 top:∀x:Int,0<=x->x<m->BQ (T x) (R x)
 cl:∀x y:Int,0<=x->x<m->0<=y->y<m->rk y<rk x->BQ (T y) (AD (T x) (Cf x y))
 sd:∀x c,T x=some c->∃t n c1 c2,KO Cf rk s t c1/\Si Cf rk t n x c2/\c=(c1.1+c2.1,c1.2+c2.2)
def Kept.Zh (K:Kept rs Af Cf)(h:Cf x y=some c):Af x y=some c:=((K x y c).mp h).1
def KO.of_kept (K:Kept rs Af Cf)(h:KO Cf rk s t c):KO Af rk s t c:=by
 induction h with
 |nil=>exact .nil
 |snoc _ hr ha ih=>exact .snoc ih hr (K.Zh ha)
def Si.of_kept (K:Kept rs Af Cf)(h:Si Cf rk t n x c):Si Af rk t n x c:=by
 induction h with
 |nil=>exact .nil
 |snoc _ hr ha ih=>exact .snoc ih hr (K.Zh ha)
def xY (L:V4 m rs rk Af)(K:Kept rs Af Cf)(h:Si Cf rk t n x c)(ht:0<=t/\t<m):0<=x/\x<m:=by
 cases h with
 |nil=>exact ht
 |snoc _ hr ha=>exact (L.snd _ _ _ (K.Zh ha)).2.2.2
def xZ (L:V4 m rs rk Af)(K:Kept rs Af Cf)(h:KO Cf rk s t c)(ht:0<=s/\s<m):0<=t/\t<m:=by
 cases h with
 |nil=>exact ht
 |snoc _ hr ha=>exact (L.snd _ _ _ (K.Zh ha)).2.2.2
def zN.le (L:V4 m rs rk Af)(K:Kept rs Af Cf)(h:zN rk Cf s R T m){t:Int}(ht:0<=t/\t<m)(hT:BQ (T t) (some c1))(u:Si Cf rk t n x c2):BQ (T x) (some (c1.1+c2.1,c1.2+c2.2)):=by
 induction u with
 |nil=>simpa using hT
 | @snoc n x y c d hd hr ha ih =>
  have hx:=xY L K hd ht;have hy:=(L.snd _ _ _ (K.Zh ha)).2.2.2;refine AE (h.cl x y hx.1 hx.2 hy.1 hy.2 hr) ?_;rw[ha];have:=FR (some d) ih;simp only[AD,zd3] at this;exact this
def YL (L:V4 m rs rk Af)(K:Kept rs Af Cf)(hs:0<=s/\s<m)(hR:zM rk Cf s R)(hT:zN rk Cf s R T m)(hx:By rs s w x):By rs s w (T w):=by
 have key:BQ (T w) x:=by
  cases x with
  |none=>cases T w<;>exact trivial
  |some c =>
   obtain⟨t,n,c1,c2,g1,g2,e⟩:=U9 L K hx;have ht:=xZ L K g1 hs;rw[e];exact hT.le L K ht (AE (hT.top t ht.1 ht.2) (hR.le g1)) g2
 refine⟨λ c hc=>AE key (hx.1 c hc),λ p hp=>?_⟩;obtain⟨t,n,c1,c2,g1,g2,rfl⟩:=hT.sd w p hp;exact ((g1.of_kept K).walk L).trans ((g2.of_kept K).walk L)
end
def Wk.turn (h:Wk rs u w c):Wk (rs.map KG) w u c:=by
 induction h with
 |nil u=>exact .nil u
 | @cons r l w c hr hl _ ih =>
  have h1:Wk (rs.map KG) (KG r).a (KG r).b (l,1):=Wk.one (zar.mpr ⟨r,hr,rfl⟩) hl;have:=ih.trans h1;have e:(c.1+l,c.2+1)=(l+c.1,1+c.2):=by rw[Int.add_comm,Int.add_comm c.2]
  rw[<-e];exact this
def FW (rs:List Road):(rs.map KG).map KG=rs:=by
 rw[zbx];exact (List.map_congr_left λ r _=>rfl).trans (List.map_id rs)
def By.turn (h:By rs u w x):By (rs.map KG) w u x:=by
 refine⟨λ c hc=>h.1 c ?_,λ p hp=>(h.2 p hp).turn⟩;have:=hc.turn;rw[FW] at this;exact this
def V4.turn (L:V4 m rs rk Af):V4 m (rs.map KG) rk (λ x y=>Af y x):=by
 refine⟨λ x y c h=>?_,λ r hr=>?_,λ p x y ad h1 h2=>?_,L.inj,λ x y c h=>?_⟩
 ·obtain⟨a,b,c,d⟩:=L.snd _ _ _ h;exact⟨a.turn,zbl b,d,c⟩
 ·obtain⟨r',bw,rfl⟩:=zar.mp hr;exact L.road r' bw
 ·rw[LQ];exact L.tri p y x (zbl ad) h2 h1
 ·have:=h.turn;rw[FW] at this;exact L.nn _ _ _ this
def Kept.turn (K:Kept rs Af Cf):Kept (rs.map KG) (λ x y=>Af y x) (λ x y=>Cf y x):=λ x y c=>by
 refine (K y x c).trans ⟨λ h=>⟨h.1,h.2.turn⟩,λ h=>⟨h.1,?_⟩⟩;have:=h.2.turn;rw[FW] at this;exact this
section
variable {κ β:Type} [DecidableEq κ]
abbrev Ao:List (κ×β)->κ->Option β
 |[],_=>none
 |(k,v)::r,x=>if k=x then some v else Ao r x
abbrev CF (A:List (κ×β))(k:κ)(v:β):List (κ×β):=if (Ao A k).isSome=true then A.map λ kv=>if kv.1=k then (kv.1,v) else kv else A++[(k,v)]
def Sj (k j:κ)(v:β):∀A:List (κ×β),Ao (A.map λ kv=>if kv.1=k then (kv.1,v) else kv) j=if j=k then (Ao A j).map λ _=>v else Ao A j
 |[]=>by simp[Ao]
 |(k',v')::r=>by
  rw[za6];by_cases h1:k'=k
  ·rw[if_pos h1];subst h1;simp only[Ao];by_cases h2:k'=j
   ·subst h2;simp
   ·rw[if_neg h2,if_neg h2,Sj k' j v r]
  ·rw[if_neg h1];simp only[Ao];by_cases h2:k'=j
   ·subst h2;rw[if_pos rfl,if_pos rfl,if_neg h1]
   ·rw[if_neg h2,if_neg h2,Sj k j v r]
def Ua (k j:κ)(v:β):∀A:List (κ×β),Ao A k=none->Ao (A++[(k,v)]) j=if j=k then some v else Ao A j
 |[],_=>by
  simp only[List.nil_append,Ao];by_cases h:k=j
  ·subst h;simp
  ·rw[if_neg h,if_neg (zbl h)]
 |(k',v')::r,h=>by
  simp only[Ao] at h;by_cases h1:k'=k
  ·rw[if_pos h1] at h;cases h
  ·rw[if_neg h1] at h;rw[zd8];simp only[Ao];rw[Ua k j v r h];by_cases h2:k'=j
   ·subst h2;rw[if_pos rfl,if_pos rfl,if_neg h1]
   ·rw[if_neg h2,if_neg h2]
def Er (A:List (κ×β))(k j:κ)(v:β):Ao (CF A k v) j=if j=k then some v else Ao A j:=by
 unfold CF;by_cases h:(Ao A k).isSome=true
 ·rw[if_pos h,Sj];by_cases hj:j=k
  ·subst hj;rw[if_pos rfl,if_pos rfl];obtain⟨x,hx⟩:=zbv.mp h;rw[hx];rfl
  ·rw[if_neg hj,if_neg hj]
 ·rw[if_neg h];exact Ua k j v A (by cases e:Ao A k with|none=>rfl|some x=>rw[e] at h;exact (h rfl).elim)
def GB:∀ {A:List (κ×β)}{k:κ},(Ao A k).isSome=true↔k∈A.map zay
 |[],k=>by simp[Ao]
 |(k',v')::r,k=>by
  simp only[Ao,za6,zab];by_cases h:k'=k
  ·rw[if_pos h];simp[h]
  ·rw[if_neg h,GB];simp[zbl h]
def Ub {A:List (κ×β)}{k:κ}:Ao A k=none↔k∉A.map zay:=by
 rw[<-GB];cases Ao A k<;>simp
def Uc (A:List (κ×β))(k:κ)(v:β):(CF A k v).map zay=if (Ao A k).isSome=true then A.map zay else A.map zay++[k]:=by
 unfold CF;split
 ·rw[zbx];refine List.map_congr_left λ kv _=>?_;dsimp only [Function.comp];split<;>rfl
 ·rw[zas];rfl
def LR {A:List (κ×β)}{k:κ}{v:β}(h:(A.map zay).Nodup):((CF A k v).map zay).Nodup:=by
 rw[Uc];split
 ·exact h
 ·rename_i hn;rw[GB] at hn;rw[zav];exact⟨h,by simp,λ x hx y hy=>by rw[za9.mp hy];exact λ e=>hn (e▸hx)⟩
def OK {A:List (κ×β)}{k x:κ}{v:β}(h:x∈(CF A k v).map zay):x∈A.map zay\/x=k:=by
 rw[Uc] at h;split at h
 ·exact .inl h
 ·rcases zal.mp h with h|h
  ·exact .inl h
  ·exact .inr (za9.mp h)
def OL:∀ {A:List (κ×β)}{k:κ}{v:β},Ao A k=some v->(k,v)∈A
 |(k',v')::r,k,v,h=>by
  simp only[Ao] at h;split at h
  ·rename_i e;cases h;subst e;exact za3
  ·exact za4 _ (OL h)
def Sk:∀ {A:List (κ×β)}{k:κ}{v:β},(A.map zay).Nodup->(k,v)∈A->Ao A k=some v
 |(k',v')::r,k,v,hn,h=>by
  rw[za6,zbc] at hn;simp only[Ao];rcases zab.mp h with e|h
  ·cases e;rw[if_pos rfl]
  ·have:k'≠k:=λ e=>hn.1 (e▸zar.mpr ⟨_,h,rfl⟩);rw[if_neg this];exact Sk hn.2 h
variable {kf:κ->D}{vf:β->D}(he:∀a b,Br (kf a) (kf b)=decide (a=b))
include he
def KQ (A:List (κ×β))(k:κ):S7 (A.map λ kv=>kf kv.1) (kf k)=(Ao A k).isSome:=by
 induction A with
 |nil=>rfl
 |cons kv r ih =>
  obtain⟨k',v'⟩:=kv;unfold S7 at ih ⊢;rw[za6,zd1,ih,he];simp only[Ao];by_cases h:k'=k
  ·rw[if_pos h,decide_eq_true h];rfl
  ·rw[if_neg h,decide_eq_false h];rfl
def FX (A:List (κ×β))(k:κ):EI (A.map λ kv=>kf kv.1) (A.map λ kv=>vf kv.2) (kf k)=(Ao A k).map vf:=by
 induction A with
 |nil=>rfl
 |cons kv r ih =>
  obtain⟨k',v'⟩:=kv;rw[za6,za6,EI,he,ih];simp only[Ao];by_cases h:k'=k
  ·rw[decide_eq_true h,if_pos rfl,if_pos h];rfl
  ·rw[decide_eq_false h,if_neg zaq,if_neg h]
def fL (k:κ)(v:β)(A:List (κ×β)):MU (A.map λ kv=>kf kv.1) (A.map λ kv=>vf kv.2) (kf k) (vf v)=(A.map λ kv=>if kv.1=k then (kv.1,v) else kv).map λ kv=>vf kv.2:=by
 induction A with
 |nil=>rfl
 |cons kv r ih =>
  obtain⟨k',v'⟩:=kv;rw[za6,za6,MU,he,ih,za6,za6];by_cases h:k'=k
  ·rw[decide_eq_true h,if_pos rfl,if_pos h]
  ·rw[decide_eq_false h,if_neg zaq,if_neg h]
def Ic (A:List (κ×β))(k:κ)(v:β):putD (A.map λ kv=>kf kv.1) (A.map λ kv=>vf kv.2) (kf k) (vf v)=((CF A k v).map (λ kv=>kf kv.1),(CF A k v).map λ kv=>vf kv.2):=by
 unfold putD CF;rw[KQ he];by_cases h:(Ao A k).isSome=true
 ·rw[if_pos h,if_pos h,fL he];refine Prod.ext ?_ rfl;dsimp only;rw[zbx];refine List.map_congr_left λ kv _=>?_;dsimp only [Function.comp];split<;>rfl
 ·rw[if_neg h,if_neg h,zas,zas];rfl
end
def EM (a b:Int):Br (.int a) (.int b)=decide (a=b):=by
 simp only[Br];by_cases h:a=b
 ·subst h;simp
 ·simp[h]
noncomputable abbrev LA:=List ((Int×Int)×((Int×Int)×Option Int))
abbrev VM (v:(Int×Int)×Option Int):D:=.tup [cst (some v.1),E5 v.2]
abbrev Qp (A:LA):D:=.BN true (A.map λ kv=>pD kv.1) (A.map λ kv=>VM kv.2)
abbrev MX (A:LA):OT:=.BN true (A.map λ kv=>pD kv.1) ((A.map λ kv=>VM kv.2).map .sh)
abbrev Ab (A:LA)(p:Int×Int):Co:=(Ao A p).map zay
abbrev layA (A:LA)(p:Int×Int)(c:Co)(mid:Option Int):LA:=match c with
 |none=>A
 |some c=>(match Ao A p with
  |none=>CF A p (c,mid)
  |some z=>if c.1<z.1.1\/(c.1=z.1.1/\c.2<z.1.2) then CF A p (c,mid) else A)
def Ie (A:LA)(p q:Int×Int)(c:Co)(mid:Option Int):Ab (layA A p c mid) q=if q=p then Ha (Ab A p) c else Ab A q:=by
 unfold layA Ab;cases c with
 |none =>
  by_cases h:q=p
  ·subst h;rw[if_pos rfl];cases Ao A q<;>rfl
  ·rw[if_neg h]
 |some c =>
  cases e:Ao A p with
  |none =>
   dsimp only;rw[Er];by_cases h:q=p
   ·rw[if_pos h,if_pos h];rfl
   ·rw[if_neg h,if_neg h]
  |some z =>
   dsimp only;by_cases hc:c.1<z.1.1\/(c.1=z.1.1/\c.2<z.1.2)
   ·rw[if_pos hc,Er];by_cases h:q=p
    ·rw[if_pos h,if_pos h];simp only[zbw,Ha,sL];rw[if_neg (by omega)]
    ·rw[if_neg h,if_neg h]
   ·rw[if_neg hc];by_cases h:q=p
    ·subst h;rw[if_pos rfl,e];simp only[zbw,Ha,sL];rw[if_pos (by omega)]
    ·rw[if_neg h]
def VN (A:LA)(p q:Int×Int)(c:Co)(mid:Option Int):BQ (Ab (layA A p c mid) q) (Ab A q):=by
 rw[Ie];split
 ·rename_i h;subst h;exact Gy _ _
 ·exact Ct _
def fM (h:x∈(layA A p c mid).map zay):x∈A.map zay\/x=p:=by
 unfold layA at h;split at h
 ·exact .inl h
 ·split at h
  ·exact OK h
  ·split at h
   ·exact OK h
   ·exact .inl h
def YM (h:(A.map zay).Nodup):((layA A p c mid).map zay).Nodup:=by
 unfold layA;split
 ·exact h
 ·split
  ·exact LR h
  ·split
   ·exact LR h
   ·exact h
abbrev NK (p u:Int)(A:LA)(w:Int):LA:=if u=w then A else layA A (u,w) (AD (Ab A (u,p)) (Ab A (p,w))) (some p)
abbrev YN (p:Int)(H:List Int)(A:LA)(u:Int):LA:=H.foldl (NK p u) A
abbrev mF (A:LA)(p:Int)(H:List Int):LA:=H.foldl (YN p H) A
abbrev Q9:LA->List Int->LA
 |A,[]=>A
 |A,p::r=>Q9 (mF A p r) r
abbrev lay0 (rs:List Road):LA:=rs.foldl (λ A r=>layA A (r.a,r.b) (CT r) none) []
abbrev Bu (rs:List Road)(L:List Int):LA:=Q9 (lay0 rs) L
structure Hs (m:Nat)(A:LA):Prop where
 nd:(A.map zay).Nodup
 rg:∀p∈A.map zay,p.1≠p.2/\(0<=p.1/\p.1<m)/\0<=p.2/\p.2<m
def Hs.lay {m:Nat}{A:LA}(h:Hs m A){p:Int×Int}{c:Co}{mid:Option Int}(hp:p.1≠p.2/\(0<=p.1/\p.1<m)/\0<=p.2/\p.2<m):Hs m (layA A p c mid):=
 ⟨YM h.nd,λ q hq=>(fM hq).elim (h.rg q) λ e=>e▸hp⟩
def Hs.len (h:Hs m A)(hm:m<=20):A.length<1000:=by
 have:=OH.len (B:=A.map zay) (m:=m) ⟨h.nd,λ x hx=>(h.rg _ hx).1 rfl,λ q hq=>⟨(h.rg q hq).2.1,(h.rg q hq).2.2⟩⟩ hm;rwa[za2] at this
def FY {α β:Type}{f:β->α->β}(P:List α->β->Prop):∀ {L pre:List α}{b:β},P pre b->(∀a∈L,∀pre b,P pre b->P (pre++[a]) (f b a))->P (pre++L) (L.foldl f b)
 |[],pre,b,h,_=>by rw[zbi];exact h
 |a::L,pre,b,h,hs=>by
  have:=FY P (L:=L) (hs a za3 pre b h) λ x hx=>hs x (za4 _ hx);rw[zbk] at this;exact this
abbrev mG (rs:List Road)(A:LA):Prop:=∀x y c,Ab A (x,y)=some c->Wk rs x y c
def mG.lay (h:mG rs A)(hc:∀p,c=some p->Wk rs x y p):mG rs (layA A (x,y) c mid):=λ u w d hd=>by
 rw[Ie] at hd;split at hd
 ·rename_i e;cases e;rcases Dl (Ab A (x,y)) c with ⟨e,_⟩|⟨e,_⟩
  ·rw[e] at hd;exact h _ _ _ hd
  ·rw[e] at hd;exact hc d hd
 ·exact h _ _ _ hd
structure Over (m:Nat)(rs:List Road)(p:Int)(H:List Int)(A0 A:LA):Prop where
 ok:Hs m A
 sd:mG rs A
 le:∀q,BQ (Ab A q) (Ab A0 q)
 sm:∀x y,(x∉H\/y∉H)->Ab A (x,y)=Ab A0 (x,y)
def YO {m:Nat}{H:List Int}(hp:p∉H)(hH:∀x∈H,0<=x/\x<m)(h:Over m rs p H A0 A)(hu:u∈H)(hw:w∈H):Over m rs p H A0 (NK p u A w)/\(u≠w->BQ (Ab (NK p u A w) (u,w)) (AD (Ab A0 (u,p)) (Ab A0 (p,w)))):=by
 unfold NK;by_cases e:u=w
 ·rw[if_pos e];exact⟨h,λ z=>(z e).elim⟩
 ·rw[if_neg e];have e1:=h.sm u p (.inr hp);have e2:=h.sm p w (.inl hp);refine⟨⟨h.ok.lay ⟨e,hH u hu,hH w hw⟩,h.sd.lay λ c hc=>?_,λ q=>AE (VN _ _ _ _ _) (h.le q),λ x y ci=>?_⟩,λ _=>?_⟩
  ·obtain⟨a,b,ha,hb,rfl⟩:=EA hc;exact (h.sd _ _ _ ha).trans (h.sd _ _ _ hb)
  ·rw[Ie,if_neg (λ z=>by cases z;exact ci.elim (λ q=>q hu) λ q=>q hw)];exact h.sm x y ci
  ·rw[Ie,if_pos rfl,e1,e2];exact J9 _ _
def oH (q:Int×Int):BQ (Ab (NK p u A w) q) (Ab A q):=by
 unfold NK;split
 ·exact Ct _
 ·exact VN _ _ _ _ _
def oI (q:Int×Int):∀(H:List Int) (A:LA),BQ (Ab (H.foldl (NK p u) A) q) (Ab A q)
 |[],A=>Ct _
 |w::H,A=>AE (oI q H (NK p u A w)) (oH q)
def sT {m:Nat}{H:List Int}(hp:p∉H)(hH:∀x∈H,0<=x/\x<m)(h:Over m rs p H A0 A)(hu:u∈H):Over m rs p H A0 (YN p H A u)/\∀w∈H,u≠w->BQ (Ab (YN p H A u) (u,w)) (AD (Ab A0 (u,p)) (Ab A0 (p,w))):=by
 unfold YN;have:=FY (L:=H) (pre:=[]) (f:=NK p u) (b:=A) (λ W A=>Over m rs p H A0 A/\∀w∈W,u≠w->BQ (Ab A (u,w)) (AD (Ab A0 (u,p)) (Ab A0 (p,w)))) ⟨h,λ w hw=>by cases hw⟩ λ w hw W B hB=>by
  obtain⟨b1,b2⟩:=hB;obtain⟨c1,c2⟩:=YO hp hH b1 hu hw;refine⟨c1,λ x hx ad=>?_⟩;rcases zal.mp hx with hx|hx
  ·exact AE (oH _) (b2 x hx ad)
  ·rw[za9.mp hx] at ad ⊢;exact c2 ad
 exact this
def fN {m:Nat}{H:List Int}(hp:p∉H)(hH:∀x∈H,0<=x/\x<m)(h1:Hs m A)(h2:mG rs A):Over m rs p H A (mF A p H)/\∀u∈H,∀w∈H,u≠w->BQ (Ab (mF A p H) (u,w)) (AD (Ab A (u,p)) (Ab A (p,w))):=by
 unfold mF;have:=FY (L:=H) (pre:=[]) (f:=YN p H) (b:=A) (λ U B=>Over m rs p H A B/\∀u∈U,∀w∈H,u≠w->BQ (Ab B (u,w)) (AD (Ab A (u,p)) (Ab A (p,w)))) ⟨⟨h1,h2,λ q=>Ct _,λ x y _=>rfl⟩,λ u hu=>by cases hu⟩ λ u hu U B hB=>by
  obtain⟨b1,b2⟩:=hB;obtain⟨c1,c2⟩:=sT hp hH b1 hu;refine⟨c1,λ x hx w hw ad=>?_⟩;rcases zal.mp hx with hx|hx
  ·exact AE (oI _ H B) (b2 x hx w hw ad)
  ·rw[za9.mp hx] at ad ⊢;exact c2 w hw ad
 exact this
def Sl (AF:∀r∈rs,Sf m r/\r.a≠r.b):Hs m (lay0 rs)/\mG rs (lay0 rs)/\∀r∈rs,BQ (Ab (lay0 rs) (r.a,r.b)) (CT r):=by
 unfold lay0;have:=FY (L:=rs) (pre:=[]) (f:=λ A r=>layA A (r.a,r.b) (CT r) none) (b:=[]) (λ W A=>Hs m A/\mG rs A/\∀r∈W,BQ (Ab A (r.a,r.b)) (CT r)) ⟨⟨by simp,λ p hp=>by cases hp⟩,⟨(λ _ _ _ h=>by cases h),λ r hr=>by cases hr⟩⟩ λ r hr W B hB=>by
  obtain⟨b1,b2,b3⟩:=hB;obtain⟨o1,o2⟩:=AF r hr;refine⟨b1.lay ⟨o2,⟨o1.a0,o1.a1⟩,o1.b0,o1.b1⟩,b2.lay λ c hc=>?_,λ x hx=>?_⟩
  ·obtain⟨l,hl,rfl⟩:=KI hc;exact Wk.one hr hl
  ·rcases zal.mp hx with hx|hx
   ·exact AE (VN _ _ _ _ _) (b3 x hx)
   ·rw[za9.mp hx,Ie,if_pos rfl];exact J9 _ _
 exact this
abbrev BR:List Int->Int->Nat
 |[],_=>0
 |a::l,x=>if a=x then 0 else BR l x+1
def Xa:∀ {pre post:List Int}{p:Int},p∉pre->BR (pre++p::post) p=pre.length
 |[],post,p,_=>by simp[BR]
 |a::pre,post,p,h=>by
  rw[zab,not_or] at h;rw[zd8,BR,if_neg (zbl h.1),Xa h.2];rfl
def VO:∀ {pre post:List Int}{x:Int},x∈pre->BR (pre++post) x<pre.length
 |a::pre,post,x,h=>by
  rw[zd8,BR];by_cases e:a=x
  ·rw[if_pos e];simp
  ·rw[if_neg e,za8];have:=VO (post:=post) ((zab.mp h).resolve_left (zbl e));omega
def Sn:∀ {pre post:List Int}{x:Int},x∉pre->pre.length<=BR (pre++post) x
 |[],post,x,_=>zba _
 |a::pre,post,x,h=>by
  rw[zab,not_or] at h;rw[zd8,BR,if_neg (zbl h.1),za8];have:=Sn (post:=post) h.2;omega
def So:∀ {L:List Int}{x y:Int},x∈L->y∈L->BR L x=BR L y->x=y
 |a::l,x,y,hx,hy,e=>by
  rw[BR,BR] at e;by_cases h1:a=x
  ·by_cases h2:a=y
   ·rw[<-h1,<-h2]
   ·rw[if_pos h1,if_neg h2] at e;omega
  ·by_cases h2:a=y
   ·rw[if_neg h1,if_pos h2] at e;omega
   ·rw[if_neg h1,if_neg h2] at e;exact So ((zab.mp hx).resolve_left (zbl h1)) ((zab.mp hy).resolve_left (zbl h2)) (by omega)
def VP (h:BR L x<L.length):x∈L:=by
 refine zcx λ hn=>?_;have:=Sn (pre:=L) (post:=[]) hn;rw[zbi] at this;omega
def fO:∀(L:List Int) (x:Int),BR L x<=L.length
 |[],_=>zaf _
 |a::l,x=>by
  rw[BR,za8];split
  ·omega
  ·have:=fO l x;omega
def Ms:∀ {L:List Int}{p:Int},p∈L->∃pre post,L=pre++p::post/\p∉pre
 |a::l,p,h=>by
  by_cases ha:a=p
  ·subst ha;exact⟨[],l,rfl,by simp⟩
  ·obtain⟨pre,post,e2,hn⟩:=Ms ((zab.mp h).resolve_left (zbl ha));exact⟨a::pre,post,by rw[zd8,<-e2],by simp[zbl ha,hn]⟩
def fP (h:BR L p<L.length):∃pre post,L=pre++p::post/\p∉pre/\∀x,BR L p<BR L x->x∈L->x∈post:=by
 obtain⟨pre,post,e,hn⟩:=Ms (VP h);refine⟨pre,post,e,hn,λ x hr hx=>?_⟩;subst e;rw[Xa hn] at hr;rcases zal.mp hx with hx|hx
 ·have:=VO (post:=p::post) hx;omega
 ·rcases zab.mp hx with rfl|hx
  ·rw[Xa hn] at hr;omega
  ·exact hx
def sU {m:Nat}{rs:List Road}{L:List Int}(hL:L.Nodup)(hr:∀x∈L,0<=x/\x<m):∀(post pre:List Int) (A:LA),L=pre++post->Hs m A->mG rs A->(∀r∈rs,BQ (Ab A (r.a,r.b)) (CT r))->
 (∀pa p pb,L=pa++p::pb->pa.length<pre.length->∀x∈pb,∀y∈pb,x≠y->BQ (Ab A (x,y)) (AD (Ab A (x,p)) (Ab A (p,y))))->
 Hs m (Q9 A post)/\mG rs (Q9 A post)/\(∀r∈rs,BQ (Ab (Q9 A post) (r.a,r.b)) (CT r))/\∀pa p pb,L=pa++p::pb->∀x∈pb,∀y∈pb,x≠y->BQ (Ab (Q9 A post) (x,y)) (AD (Ab (Q9 A post) (x,p)) (Ab (Q9 A post) (p,y))):=by
 intro post;induction post with
 |nil =>
  intro pre A e h1 h2 h3 h4;rw[zbi] at e;refine⟨h1,h2,h3,λ pa p pb e2=>h4 pa p pb e2 ?_⟩;rw[<-e,e2,zah,za8];omega
 |cons p post ih =>
  intro pre A e h1 h2 h3 h4;rw[Q9];have hn:(pre++p::post).Nodup:=e▸hL;rw[zav,zbc] at hn;have b5:∀x∈post,0<=x/\x<m:=λ x hx=>hr x (by rw[e];simp[hx]);obtain⟨o,ov⟩:=fN (p:=p) hn.2.1.1 b5 h1 h2;refine ih (pre++[p]) (mF A p post) (by rw[e];simp) o.ok o.sd (λ r bw=>AE (o.le _) (h3 r bw)) λ pa q pb e2 ah x hx y hy ad=>?_;rw[zah,zbh] at ah;by_cases hq:pa.length<pre.length
  ·-- an mw one
   have u3:q∉post:=λ e7=>by
    have e3:pre++p::post=pa++q::pb:=by rw[<-e,e2]
    have q1:q∈pre:=by
     have:=congrArg (λ l=>l[pa.length]?) e3;rw[zc6 hq,zd2 (zaf _),Nat.sub_self] at this;exact zao this
    exact hn.2.2 q q1 q (za4 _ e7) rfl
   rw[o.sm x q (.inr u3),o.sm q y (.inl u3)];exact AE (o.le _) (h4 pa q pb e2 hq x hx y hy ad)
  ·have hpl:pa.length=pre.length:=by omega
   have e3:pa++q::pb=pre++p::post:=by rw[<-e2,e]
   obtain⟨rfl,e4⟩:=List.append_inj e3 hpl;cases e4;rw[o.sm x p (.inr hn.2.1.1),o.sm p y (.inl hn.2.1.1)];exact ov x hx y hy ad
def KR (hL:L.Perm (BC m))(AF:∀r∈rs,Sf m r/\r.a≠r.b):Hs m (Bu rs L)/\V4 m rs (BR L) (λ x y=>Ab (Bu rs L) (x,y)):=by
 have f8:L.Nodup:=GA hL;obtain⟨a1,a2,a3⟩:=Sl AF;obtain⟨b1,b2,b3,b4⟩:=sU f8 (λ x hx=>(B8 hL).mp hx) L [] (lay0 rs) rfl a1 a2 a3 (λ pa p pb _ h=>by simp at h);refine⟨b1,λ x y c h=>?_,b3,λ p x y ad h1 h2=>?_,λ x y x0 x1 y0 y1 e=>So ((B8 hL).mpr ⟨x0,x1⟩) ((B8 hL).mpr ⟨y0,y1⟩) e,λ x y c h=>Wk.nn (λ r hr=>(AF r hr).1) h⟩
 ·have hm:(x,y)∈(Q9 (lay0 rs) L).map zay:=by
   rw[<-GB];unfold Ab at h;cases q:Ao (Bu rs L) (x,y) with
   |none=>rw[q] at h;cases h
   |some z=>unfold Bu at q;rw[q];rfl
  have:=b1.rg _ hm;exact⟨b2 _ _ _ h,this.1,this.2.1,this.2.2⟩
 ·have aM:∀ {x y:Int} {c:Int×Int},Ab (Bu rs L) (x,y)=some c->x∈L/\y∈L:=fun {x y c} h=>by
   have hm:(x,y)∈(Q9 (lay0 rs) L).map zay:=by
    rw[<-GB];unfold Ab at h;cases q:Ao (Bu rs L) (x,y) with
    |none=>rw[q] at h;cases h
    |some z=>unfold Bu at q;rw[q];rfl
   have:=b1.rg _ hm;exact⟨(B8 hL).mpr this.2.1,(B8 hL).mpr this.2.2⟩
  have hpl:BR L p<L.length:=zam h1 (fO L x);obtain⟨pre,post,e,hn,d8⟩:=fP hpl;cases q1:Ab (Bu rs L) (x,p) with
  |none=>cases Ab (Bu rs L) (x,y)<;>exact trivial
  |some c1 =>
   cases q2:Ab (Bu rs L) (p,y) with
   |none=>cases Ab (Bu rs L) (x,y)<;>exact trivial
   |some c2 =>
    have r:=b4 pre p post e x (d8 x h1 (aM q1).1) y (d8 y h2 (aM q2).2) ad;rw[<-q1,<-q2];exact r
noncomputable abbrev CA:=List ((Int×Int)×(Int×Int))
abbrev SS (C:CA):D:=.BN true (C.map λ kv=>pD kv.1) (C.map λ kv=>cst (some kv.2))
abbrev zO (C:CA):OT:=.BN true (C.map λ kv=>pD kv.1) ((C.map λ kv=>cst (some kv.2)).map .sh)
noncomputable abbrev RA:=List (Int×(Int×Int))
abbrev YQ (R:RA):D:=.BN false (R.map λ kv=>D.int kv.1) (R.map λ kv=>cst (some kv.2))
abbrev VQ (R:RA):OT:=.BN false (R.map λ kv=>D.int kv.1) ((R.map λ kv=>cst (some kv.2)).map .sh)
def sV (A:LA):er (MX A)=Qp A:=Ov
def sW (C:CA):er (zO C)=SS C:=Ov
def sX (R:RA):er (VQ R)=YQ R:=Ov
def LS (i:Int):keyOk false (.int i)=true:=rfl
def Sq (A:LA)(p:Int×Int)(neg:Bool):MV neg (pD p) (Qp A)=.ok (.bl (if neg=true then !(Ao A p).isSome else (Ao A p).isSome)):=by
 unfold Qp MV;dsimp only;rw[if_pos (I9 p),KQ HZ]
def OM (h:Ao A p=some v):AI (Qp A) (pD p)=.ok (VM v):=by
 unfold Qp AI;dsimp only;rw[if_pos (I9 p),FX HZ,h];rfl
def sY (C:CA)(p:Int×Int)(neg:Bool):MV neg (pD p) (SS C)=.ok (.bl (if neg=true then !(Ao C p).isSome else (Ao C p).isSome)):=by
 unfold SS MV;dsimp only;rw[if_pos (I9 p),KQ HZ]
def sZ (h:Ao C p=some c):AI (SS C) (pD p)=.ok (cst (some c)):=by
 unfold SS AI;dsimp only;rw[if_pos (I9 p),FX (vf:=λ c=>cst (some c)) HZ,h];rfl
def tD (C:CA)(p:Int×Int):R8 (SS C) (.ok (pD p))=.ok (cst (Ao C p)):=by
 unfold SS R8;simp only[M.A8];rw[if_pos (I9 p),FX (vf:=λ c=>cst (some c)) HZ];cases Ao C p<;>rfl
def fQ (R:RA)(p:Int)(neg:Bool):MV neg (.int p) (YQ R)=.ok (.bl (if neg=true then !(Ao R p).isSome else (Ao R p).isSome)):=by
 unfold YQ MV;dsimp only;rw[if_pos (LS p),KQ (kf:=D.int) EM]
def VR (h:Ao R p=some c):AI (YQ R) (.int p)=.ok (cst (some c)):=by
 unfold YQ AI;dsimp only;rw[if_pos (LS p),FX (kf:=D.int) (vf:=λ c=>cst (some c)) EM,h];rfl
def fR (R:RA)(p:Int):R8 (YQ R) (.ok (.int p))=.ok (cst (Ao R p)):=by
 unfold YQ R8;simp only[M.A8];rw[if_pos (LS p),FX (kf:=D.int) (vf:=λ c=>cst (some c)) EM];cases Ao R p<;>rfl
def fS (A:LA)(p:Int×Int)(v:(Int×Int)×Option Int):putD (A.map λ kv=>pD kv.1) (A.map λ kv=>VM kv.2) (pD p) (VM v)=((CF A p v).map (λ kv=>pD kv.1),(CF A p v).map λ kv=>VM kv.2):=Ic HZ A p v
def tE (R:RA)(p:Int)(c:Int×Int):putD (R.map λ kv=>D.int kv.1) (R.map λ kv=>cst (some kv.2)) (.int p) (cst (some c))=((CF R p c).map (λ kv=>D.int kv.1),(CF R p c).map λ kv=>cst (some kv.2)):=Ic (kf:=D.int) (vf:=λ c=>cst (some c)) EM R p c
def NL {α:Type}(k v:α->D):∀l:List α,Sd (l.map λ x=>.tup [k x,v x])=some (l.map λ x=>(k x,v x))
 |[]=>rfl
 |x::l=>by rw[za6,Sd,NL k v l];rfl
def oJ:∀(C C0:CA),((C0++C).map zay).Nodup->(C.map λ kv=>(pD kv.1,cst (some kv.2))).foldl (λ z kv=>putD z.1 z.2 kv.1 kv.2) (C0.map (λ kv=>pD kv.1),C0.map λ kv=>cst (some kv.2))=((C0++C).map (λ kv=>pD kv.1),(C0++C).map λ kv=>cst (some kv.2))
 |[],C0,_=>by simp
 |kv::C,C0,hn=>by
  obtain⟨p,c⟩:=kv;rw[za6,zat];dsimp only;have h0:Ao C0 p=none:=by
   rw[Ub];intro hm;rw[zas,zav] at hn;exact hn.2.2 p hm p (by simp) rfl
  have e:CF C0 p c=C0++[(p,c)]:=by unfold CF;rw[h0];rfl
  rw[Ic (vf:=λ c=>cst (some c)) HZ,e,oJ C (C0++[(p,c)]) (by rw[zbk];exact hn),zbk];rfl
def fT (hn:(C.map zay).Nodup)(hl:C.length<=1000):lQ (.lst (C.map λ kv=>.tup [pD kv.1,cst (some kv.2)]))=.ok (zO C):=by
 unfold lQ;dsimp only;rw[NL (λ kv:(Int×Int)×(Int×Int)=>pD kv.1) (λ kv=>cst (some kv.2))];dsimp only;have e:=oJ C [] hn;rw[if_pos ⟨by rw[za2];exact hl,by rw[List.all_map];exact List.all_eq_true.mpr λ x _=>rfl⟩];have e2:lP (C.map λ kv=>(pD kv.1,cst (some kv.2)))=(C.map (λ kv=>pD kv.1),C.map λ kv=>cst (some kv.2)):=e;rw[e2];rfl
abbrev Bd (m:Nat)(rs:List Road)(L:List Int)(A:LA)(K:List (Int×Int)):D:=.ins "Ladder" ["own_map","own_order","laid","kept_ones"] [Ad m rs,.lst (L.map D.int),Qp A,.lst (K.map pD)]
structure Be (m:Nat)(rs:List Road)(L:List Int)(A:LA)(K:List (Int×Int)):Prop where
 m1:1<=m
 m2:m<=16
 rl:rs.length<=60
 ok:∀r∈rs,Sf m r/\r.a≠r.b
 pm:L.Perm (BC m)
 la:A=Bu rs L
 kn:K.Nodup
 km:∀p,p∈K↔∃c,Ab A p=some c/\By rs p.1 p.2 (some c)
def Be.yA {K}(h:Be m rs L A K):Hs m A:=by
 rw[h.la];exact (KR h.pm h.ok).1
def Be.Zh {K}(h:Be m rs L A K):V4 m rs (BR L) (λ x y=>Ab A (x,y)):=by
 rw[h.la];exact (KR h.pm h.ok).2
def EN (h:Ab A p=some c):p∈A.map zay:=by
 rw[<-GB];unfold Ab at h;cases q:Ao A p with
 |none=>rw[q] at h;cases h
 |some z=>rfl
def Be.V1 {K}(h:Be m rs L A K)(hp:p∈K):p.1≠p.2/\(0<=p.1/\p.1<m)/\0<=p.2/\p.2<m:=by
 obtain⟨c,hc,_⟩:=(h.km p).mp hp;exact h.yA.rg p (EN hc)
def Be.kl {K}(h:Be m rs L A K):K.length<1000:=
 OH.len (m:=m) ⟨h.kn,λ x hx=>(h.V1 hx).1 rfl,λ q hq=>⟨(h.V1 hq).2.1,(h.V1 hq).2.2⟩⟩ (by have:=h.m2;omega)
abbrev Hu (A:LA)(K:List (Int×Int)):CA:=K.map λ p=>(p,(Ab A p).getD (0,0))
def ON (A:LA)(K:List (Int×Int)):(Hu A K).map zay=K:=by
 unfold Hu;rw[zbx];exact (List.map_congr_left λ p _=>rfl).trans (List.map_id K)
def Be.kept {K}(h:Be m rs L A K):Kept rs (λ x y=>Ab A (x,y)) (λ x y=>Ao (Hu A K) (x,y)):=λ x y c=>by
 have hn:((Hu A K).map zay).Nodup:=by rw[ON];exact h.kn
 constructor
 ·intro hf;have hm:=OL hf;unfold Hu at hm;obtain⟨p,hp,e⟩:=zar.mp hm;obtain⟨c',hc,aW⟩:=(h.km p).mp hp;rw[hc] at e;cases e;exact⟨hc,aW⟩
 ·rintro ⟨h1,h2⟩;refine Sk hn ?_;unfold Hu;exact zar.mpr ⟨(x,y),(h.km (x,y)).mpr ⟨c,h1,h2⟩,by rw[show Ab A (x,y)=some c from h1];rfl⟩
abbrev Qq (C:CA):CA:=C.map λ kv=>((kv.1.2,kv.1.1),kv.2)
def YR (h:(C.map zay).Nodup):((Qq C).map zay).Nodup:=by
 have e:(Qq C).map zay=(C.map zay).map λ p=>(p.2,p.1):=by
  unfold Qq;rw[zbx,zbx];rfl
 rw[e];exact (List.pairwise_map.mpr (h.imp fun {a b} jw e=>jw (by cases a;cases b;cases e;rfl)))
def KS (x y:Int):∀C:CA,Ao (Qq C) (x,y)=Ao C (y,x)
 |[]=>rfl
 |((a,b),c)::C=>by
  unfold Qq;rw[za6,Ao,Ao];have:=KS x y C;unfold Qq at this;rw[this];by_cases h:a=y/\b=x
  ·rw[if_pos (by rw[h.1,h.2]),if_pos (by rw[h.1,h.2])]
  ·rw[if_neg (λ e=>h (by cases e;exact⟨rfl,rfl⟩)),if_neg (λ e=>h (by cases e;exact⟨rfl,rfl⟩))]
def aa1 (p q:Int×Int):lR (cst (some p)) (cst (some q))=.ok (.bl (decide (p.1<q.1\/(p.1=q.1/\p.2<q.2)))):=by
 rw[<-sR];rfl
def OO (h:WP m (λ ρ=>HS ρ=some t/\OT.sh .Ax=r) (λ o=>match o with | .Fv r' ρ=>HS ρ=some t/\r'=r | _=>False) (λ _=>False)):EJ m=.ok (t,r):=by
 cases m with
 |bad|ex x=>exact h.elim
 |ok o =>
  cases o with
  |next ρ=>obtain⟨h1,h2⟩:=(show HS ρ=some t/\OT.sh .Ax=r from h);unfold EJ;dsimp only;rw[h1,<-h2]
  |Fv r' ρ=>obtain⟨h1,h2⟩:=(show HS ρ=some t/\r'=r from h);unfold EJ;dsimp only;rw[h1,<-h2]
  |ret d|Cq d|brk d|cont d=>exact h.elim
def LU (h:ρ[i]?=some (some (.ow (.tree p t))))(hN:TM t=true)(hF:F t ar=.ok (t2,r)):Mp i F ρ [] ar=.ok (ρ.set i (some (toCl p t2)),r):=by
 rw[cW h rfl rfl hN hF,HJ]
def LV:H9 0 (some (.ow (.tree p (MX A)))::ρ) []=.ok (true,A.map (λ kv=>pD kv.1),A.map λ kv=>VM kv.2):=JS
def YS:H9 0 (some (.ow (.tree p (VQ R)))::ρ) []=.ok (false,R.map (λ kv=>D.int kv.1),R.map λ kv=>cst (some kv.2)):=JS
def Hs.ov (h:Hs m A){u w:Int}(hu:0<=u/\u<m)(hw:0<=w/\w<m):Hs m (NK p u A w):=by
 unfold NK;split
 ·exact h
 ·rename_i e;exact h.lay ⟨e,hu,hw⟩
def Hs.ou {m:Nat}{p u:Int}(hu:0<=u/\u<m):∀ {H:List Int}{A:LA},Hs m A->(∀x∈H,0<=x/\x<m)->Hs m (H.foldl (NK p u) A)
 |[],A,h,_=>h
 |w::H,A,h,hH=>by
  have r:=Hs.ou (A:=NK p u A w) (H:=H) (p:=p) hu (h.ov hu (hH w za3)) λ x hx=>hH x (za4 _ hx);exact r
def EO {α β:Type}{f}{l:List α}{x}{b:β}(h:l[i]?=some x):(l.take (i+1)).foldl f b=f ((l.take i).foldl f b) x:=by
 rw[zcz,h,Option.toList_some,List.foldl_append];rfl
def Hs.lo {m:Nat}{p:Int}{H0:List Int}(h0:∀x∈H0,0<=x/\x<m):∀ {H:List Int}{A:LA},Hs m A->(∀x∈H,0<=x/\x<m)->Hs m (H.foldl (YN p H0) A)
 |[],A,h,_=>h
 |w::H,A,h,hH=>by
  have r:=Hs.lo (p:=p) (A:=YN p H0 A w) (H:=H) h0 (Hs.ou (hH w za3) h h0) λ x hx=>hH x (za4 _ hx);exact r
def mH (c:Co):Zg (.ok (.sh (cst c)))=.ok (.sh (cst c)):=by
 cases c<;>rfl
abbrev Rcb (a b:List Co×Bool):Prop:=b.2=true/\(a.2=false\/(a.2=true/\Q8 ltN a.1 b.1))
def tF (x:List Co):Acc Rcb (x,false):=.intro _ λ y h=>by cases h.1
def tG (x:List Co):Acc Rcb (x,true):=by
 have:=YF x;induction this with
 |intro x _ ih =>
  refine .intro _ λ y h=>?_;obtain⟨y,b⟩:=y;rcases h.2 with e|⟨e,h2⟩
  ·dsimp only at e;subst e;exact tF y
  ·dsimp only at e;subst e;exact ih y h2
def VS (n:Nat):Cz 0 n=(BC n).map D.int:=by rw[O7,U4]
def EL.okR (h:EL m r):Sf m r/\r.a≠r.b:=⟨⟨h.a0,h.a1,h.b0,h.b1,λ l hl=>(h.l0 l hl).1⟩,h.ab⟩
abbrev KP (rs:List Road)(A:LA)(p:Int×Int):Prop:=∃c,Ab A p=some c/\By rs p.1 p.2 (some c)
abbrev yB (A:LA)(cs:List Co)(u w:Int):Bool:=match Ab A (u,w) with
 |none=>false
 |some c=>decide (some c=atC cs w)
def fU (hR:Right m s rs cs)(AF:∀r∈rs,Sf m r){w:Int}(h0:0<=w)(h1:w<m):yB A cs s w=true↔KP rs A (s,w):=by
 have hm:=hR.oE AF h0 h1;unfold yB KP;cases q:Ab A ((s:Int),w) with
 |none=>simp
 |some c =>
  dsimp only;constructor
  ·intro h;have e:=of_decide_eq_true h;exact⟨c,rfl,e▸hm⟩
  ·rintro ⟨c',e,h⟩;cases e;exact decide_eq_true (h.C5 hm)
def tH {K:List (Int×Int)}(hA:Hs m A)(hm:m<=20)(hn:K.Nodup)(hK:∀p∈K,KP rs A p):K.length<1000:=by
 have hr:∀p∈K,p.1≠p.2/\(0<=p.1/\p.1<m)/\0<=p.2/\p.2<m:=λ p hp=>by
  obtain⟨c,hc,_⟩:=hK p hp;exact hA.rg p (EN hc)
 exact OH.len (m:=m) ⟨hn,λ x hx=>(hr _ hx).1 rfl,λ q hq=>⟨(hr q hq).2.1,(hr q hq).2.2⟩⟩ hm
def LW:∀ds:List D,(∀d∈ds,MT d=true)->Kn (ds.map .sh)=true
 |[],_=>rfl
 |d::ds,h=>by
  rw[za6,Kn,Km,h d za3,LW ds λ x hx=>h x (za4 _ hx)];rfl
def KU {ds:List D}(h:∀d∈ds,MT d=true):Zg (.ok (.lst (ds.map .sh)))=.ok (.lst (ds.map .sh)):=by
 unfold Zg;simp only[M.A8];rw[Km,LW ds h];rfl
def Ud (L:List Int):Zg (.ok (.lst ((L.map D.int).map .sh)))=.ok (.lst ((L.map D.int).map .sh)):=KU λ d hd=>by
 obtain⟨x,_,rfl⟩:=zar.mp hd;rfl
def mI (K:List (Int×Int)):Zg (.ok (.lst ((K.map pD).map .sh)))=.ok (.lst ((K.map pD).map .sh)):=KU λ d hd=>by
 obtain⟨x,_,rfl⟩:=zar.mp hd;exact sP x
def fV (cs:List Co):Zg (.ok (.lst ((cs.map cst).map .sh)))=.ok (.lst ((cs.map cst).map .sh)):=KU λ d hd=>by
 obtain⟨x,_,rfl⟩:=zar.mp hd;exact X9 x
def tI (v:(Int×Int)×Option Int):MT (VM v)=true:=by
 obtain⟨c,l⟩:=v;cases l<;>rfl
def mJ (A:LA):Zg (.ok (MX A))=.ok (MX A):=by
 unfold Zg MX;simp only[M.A8];rw[Km,LW _ λ d hd=>by
  obtain⟨x,_,rfl⟩:=zar.mp hd;exact tI x.2]
 rfl
def OP (hn:L.Nodup)(h:L[i]?=some x):BR L x=i:=by
 have ah:=(zae.mp h).1;have e:L=L.take i++x::L.drop (i+1):=by
  have h2:L.drop i=x::L.drop (i+1):=by
   rw[zd6 ah];rw[za7 ah] at h;rw[zau h]
  rw[<-h2,zcj]
 have hx:x∉L.take i:=λ hm=>by
  rw[e,zav] at hn;exact hn.2.2 x hm x za3 rfl
 rw[e,Xa hx,zbf];omega
def Xb (hn:L.Nodup)(h:y∈L.drop i):i<=BR L y:=by
 have hy:y∉L.take i:=λ hm=>by
  rw[<-zcj i L,zav] at hn;exact hn.2.2 y hm y h rfl
 have h1:=Sn (pre:=L.take i) (post:=L.drop i) hy;rw[zcj,zbf] at h1;have h2:L.drop i≠[]:=λ e=>by rw[e] at h;cases h
 have h3:i<L.length:=by
  rw[Ne,List.drop_eq_nil_iff] at h2;omega
 omega
def mK (h:y∈L)(hr:i<=BR L y):y∈L.drop i:=by
 rw[<-zcj i L] at h;rcases zal.mp h with h|h
 ·have h1:=VO (post:=L.drop i) h;rw[zcj,zbf] at h1;omega
 ·exact h
structure Qa (L:List Int)(C:CA)(s:Int)(i:Nat)(R:RA):Prop where
 nd:(R.map zay).Nodup
 rg:∀k∈R.map zay,k∈L
 st:BQ (Ao R s) (some (0,0))
 sd:∀y c,Ao R y=some c->KO (λ x y=>Ao C (x,y)) (BR L) s y c
 cl:∀x y,BR L x<i->BR L x<BR L y->BQ (Ao R y) (AD (Ao R x) (Ao C (x,y)))
def Qa.len (h:Qa L C s i R):R.length<=L.length:=by
 have:=FV h.nd h.rg;rwa[za2] at this
structure oK (L:List Int)(C:CA)(s:Int)(i:Nat)(x:Int)(c0:Int×Int)(W:List Int)(R0 R:RA):Prop where
 nd:(R.map zay).Nodup
 rg:∀k∈R.map zay,k∈L
 sd:∀y c,Ao R y=some c->KO (λ x y=>Ao C (x,y)) (BR L) s y c
 le:∀y,BQ (Ao R y) (Ao R0 y)
 sm:∀y,BR L y<=i->Ao R y=Ao R0 y
 cw:∀y∈W,BQ (Ao R y) (AD (some c0) (Ao C (x,y)))
def oK.put {R0}(h:oK L C s i x c0 W R0 R)(hy:y∈L)(hr:i<BR L y)(hx:BR L x=i)(mq:Ao R0 x=some c0)(hd:Ao C (x,y)=some d)(hv:Ha (Ao R y) (some (c0.1+d.1,c0.2+d.2))=some v):oK L C s i x c0 (W++[y]) R0 (CF R y v):=by
 have hle:BQ (some v) (Ao R y):=hv▸Gy _ _;refine⟨LR h.nd,λ k hk=>(OK hk).elim (h.rg k) λ e=>e▸hy,λ z c hz=>?_,λ z=>?_,λ z hz=>?_,λ z hz=>?_⟩
 ·rw[Er] at hz;split at hz
  ·rename_i e;subst e;cases hz;rcases Dl (Ao R z) (some (c0.1+d.1,c0.2+d.2)) with ⟨e,_⟩|⟨e,_⟩
   ·rw[hv] at e;exact h.sd z _ e.symm
   ·rw[hv] at e;cases e;have aA:=h.sd x c0 (by rw[h.sm x (by omega)];exact mq);exact .snoc aA (by omega) hd
  ·exact h.sd z c hz
 ·rw[Er];split
  ·rename_i e;subst e;exact AE hle (h.le z)
  ·exact h.le z
 ·rw[Er,if_neg (λ e=>by subst e;omega)];exact h.sm z hz
 ·rw[Er];split
  ·rename_i e;subst e;rw[hd];exact hv▸J9 _ _
  ·rename_i e;rcases zal.mp hz with hz|hz
   ·exact h.cw z hz
   ·exact (e (za9.mp hz)).elim
def oK.skip {R0}(h:oK L C s i x c0 W R0 R)(hd:Ao C (x,y)=none):oK L C s i x c0 (W++[y]) R0 R:=
 ⟨h.nd,h.rg,h.sd,h.le,h.sm,λ z hz=>by
  rcases zal.mp hz with hz|hz
  ·exact h.cw z hz
  ·rw[za9.mp hz,hd];cases Ao R y<;>exact trivial⟩
def Qa.go {R0}(hC:∀p c,Ao C p=some c->p.2∈L)(h0:Qa L C s i R0)(hx:L[i]?=some x)(hn:L.Nodup)(hc:Ao R0 x=some c0)(h:oK L C s i x c0 (L.drop (i+1)) R0 R):Qa L C s (i+1) R:=by
 have rh:=OP hn hx;refine⟨h.nd,h.rg,AE (h.le s) h0.st,h.sd,λ u y hu hy=>?_⟩;by_cases e:BR L u<i
 ·rw[h.sm u (by omega)];exact AE (h.le y) (h0.cl u y e hy)
 ·have e2:BR L u=i:=by omega
  have hi:=(zae.mp hx).1;have rj:u∈L:=VP (by omega);have eu:u=x:=So rj (zao hx) (by omega);subst eu;rw[h.sm u (by omega),hc];cases q:Ao C (u,y) with
  |none=>cases Ao R y<;>exact trivial
  |some d =>
   have:=h.cw y (mK (hC _ _ q) (by omega));rw[q] at this;exact this
def Qa.skip (h0:Qa L C s i R)(hx:L[i]?=some x)(hn:L.Nodup)(hc:Ao R x=none):Qa L C s (i+1) R:=by
 have rh:=OP hn hx;refine⟨h0.nd,h0.rg,h0.st,h0.sd,λ u y hu hy=>?_⟩;by_cases e:BR L u<i
 ·exact h0.cl u y e hy
 ·have hi:=(zae.mp hx).1;have eu:u=x:=So (VP (by omega)) (zao hx) (by omega);subst eu;rw[hc];cases Ao C (u,y)<;>cases Ao R y<;>exact trivial
def Qa.start (hs:s∈L):Qa L C s 0 [(s,(0,0))]:=by
 refine⟨by simp,λ k hk=>by simp at hk;rw[hk];exact hs,by simp[Ao,BQ],λ y c h=>?_,λ x y h=>by omega⟩;simp only[Ao] at h;split at h
 ·rename_i e;subst e;cases h;exact .nil
 ·cases h
def Qa.upC {m:Nat}(h:Qa L C s L.length R)(hC:∀p c,Ao C p=some c->p.1∈L/\p.2∈L):zM (BR L) (λ x y=>Ao C (x,y)) s (Ao R):=by
 refine⟨h.st,λ x y hr=>?_,h.sd⟩;cases q:Ao C (x,y) with
 |none=>cases Ao R x<;>cases Ao R y<;>exact trivial
 |some d =>
  have hx:BR L x<L.length:=zam hr (fO L y);have:=h.cl x y hx hr;rw[q] at this;exact this
structure iH (m:Nat)(L:List Int)(C:CA)(s:Int)(R:RA)(W:List Int)(T:List Co):Prop where
 len:T.length=m
 no:∀x:Int,0<=x->x<m->x∉W->atC T x=none
 top:∀x∈W,BQ (atC T x) (Ao R x)
 cl:∀x∈W,∀y∈W,BR L y<BR L x->BQ (atC T y) (AD (atC T x) (Ao C (x,y)))
 sd:∀(x:Int) c,0<=x->x<m->atC T x=some c->∃t n c1 c2,KO (λ x y=>Ao C (x,y)) (BR L) s t c1/\Si (λ x y=>Ao C (x,y)) (BR L) t n x c2/\c=(c1.1+c2.1,c1.2+c2.2)
def iH.step (hR:∀y c,Ao R y=some c->KO (λ x y=>Ao C (x,y)) (BR L) s y c)(h:iH m L C s R W T){y:Int}(rm:0<=y)(xh:y<m)(rn:y∉W)(hW:∀x∈W,(0<=x/\x<m)/\BR L y<BR L x):
 iH m L C s R (W++[y]) (T.set y.toNat (Hr (Ao R y::W.map λ x=>AD (atC T x) (Ao C (x,y))))):=by
 obtain⟨v,hv⟩:∃v,v=Hr (Ao R y::W.map λ x=>AD (atC T x) (Ao C (x,y))):=⟨_,rfl⟩;rw[<-hv];have br:∀i:Int,0<=i->atC (T.set y.toNat v) i=if i=y then v else atC T i:=λ i hi=>Sg rm hi (by rw[h.len];exact xh)
 have ci:∀x∈W,x≠y:=λ x hx e=>rn (e▸hx);refine⟨by rw[zc7];exact h.len,λ x h0 h1 hx=>?_,λ x hx=>?_,λ x hx z hz hr=>?_,λ x c h0 h1 hx=>?_⟩
 ·rw[zal,not_or] at hx;rw[br x h0,if_neg (λ e=>hx.2 (za9.mpr e))];exact h.no x h0 h1 hx.1
 ·rcases zal.mp hx with hx|hx
  ·rw[br x (hW x hx).1.1,if_neg (ci x hx)];exact h.top x hx
  ·have e:=za9.mp hx;subst e;rw[br x rm,if_pos rfl,hv];exact NI za3
 ·rcases zal.mp hx with aA|aA
  ·rcases zal.mp hz with cf|cf
   ·rw[br x (hW x aA).1.1,if_neg (ci x aA),br z (hW z cf).1.1,if_neg (ci z cf)];exact h.cl x aA z cf hr
   ·have e:=za9.mp cf;rw[e] at hr ⊢;rw[br x (hW x aA).1.1,if_neg (ci x aA),br y rm,if_pos rfl,hv];exact NI (za4 _ (zar.mpr ⟨x,aA,rfl⟩))
  ·have e:=za9.mp aA;rw[e] at hr;rcases zal.mp hz with cf|cf
   ·have:=(hW z cf).2;omega
   ·rw[za9.mp cf] at hr;omega
 ·rw[br x h0] at hx;split at hx
  ·rename_i e;subst e;rw[hv] at hx;rcases KD (Ao R x::W.map λ z=>AD (atC T z) (Ao C (z,x))) with e|e
   ·rw[e] at hx;cases hx
   ·rw[hx] at e;rcases zab.mp e with e|e
    ·exact⟨x,0,c,(0,0),hR x c e.symm,.nil,by simp⟩
    ·obtain⟨z,hz,e⟩:=zar.mp e;obtain⟨p,q,e1,e2,rfl⟩:=EA e;obtain⟨t,n,c1,c2,g1,g2,rfl⟩:=h.sd z p (hW z hz).1.1 (hW z hz).1.2 e1;exact⟨t,n+1,c1,_,g1,.snoc g2 (hW z hz).2 e2,by simp only[zd3]⟩
  ·exact h.sd x c h0 h1 hx
def iH.start:iH m L C s R [] (zak m none):=by
 have cj:∀x:Int,atC (zak m none) x=none:=λ x=>by
  unfold atC;rw[zbb,zcm];split<;>rfl
 exact⟨by simp,λ x _ _ _=>cj x,(λ x hx=>by cases hx),(λ x hx=>by cases hx),λ x c _ _ h=>by rw[cj] at h;cases h⟩
noncomputable abbrev Ar:=Option ((Int×Int)×Option Int)
abbrev JT (v:Ar)(c:Co)(mid:Option Int):Ar:=match c with
 |none=>v
 |some c=>(match v with
  |none=>some (c,mid)
  |some z=>if c.1<z.1.1\/(c.1=z.1.1/\c.2<z.1.2) then some (c,mid) else v)
def Xc (A:LA)(p q:Int×Int)(c:Co)(mid:Option Int):Ao (layA A p c mid) q=if q=p then JT (Ao A p) c mid else Ao A q:=by
 unfold layA JT;cases c with
 |none =>
  dsimp only;by_cases h:q=p
  ·rw[if_pos h,h]
  ·rw[if_neg h]
 |some c =>
  cases e:Ao A p with
  |none=>dsimp only;rw[Er]
  |some z =>
   dsimp only;by_cases hc:c.1<z.1.1\/(c.1=z.1.1/\c.2<z.1.2)
   ·rw[if_pos hc,if_pos hc,Er]
   ·rw[if_neg hc,if_neg hc];by_cases h:q=p
    ·rw[if_pos h,h,e]
    ·rw[if_neg h]
def VT (p u w:Int)(A:LA)(x y:Int):Ao (NK p u A w) (x,y)=if x=u/\y=w/\x≠y then JT (Ao A (x,y)) (AD (Ab A (x,p)) (Ab A (p,y))) (some p) else Ao A (x,y):=by
 unfold NK;by_cases e:u=w
 ·rw[if_pos e,if_neg (λ h=>h.2.2 (h.1.trans (e.trans h.2.1.symm)))]
 ·rw[if_neg e,Xc];by_cases h:(x,y)=(u,w)
  ·cases h;rw[if_pos rfl,if_pos ⟨rfl,rfl,e⟩]
  ·rw[if_neg h,if_neg (λ z=>h (by rw[z.1,z.2.1]))]
def fW {p u:Int}(hu:u≠p)(x y:Int):∀ {H:List Int}{A:LA},H.Nodup->p∉H->Ao (H.foldl (NK p u) A) (x,y)=if x=u/\y∈H/\x≠y then JT (Ao A (x,y)) (AD (Ab A (x,p)) (Ab A (p,y))) (some p) else Ao A (x,y)
 |[],A,_,_=>by rw[List.foldl_nil,if_neg (λ h=>by cases h.2.1)]
 |w::H,A,hn,hp=>by
  rw[zbc] at hn;have rp:p≠w:=λ e=>hp (by rw[e];exact za3);have xi:p∉H:=λ e=>hp (za4 _ e);have c1:Ab (NK p u A w) (x,p)=Ab A (x,p):=by unfold Ab;rw[VT,if_neg (λ h=>rp h.2.1)]
  have c2:Ab (NK p u A w) (p,y)=Ab A (p,y):=by unfold Ab;rw[VT,if_neg (λ h=>hu h.1.symm)]
  rw[zat,fW hu x y hn.2 xi,c1,c2,VT];by_cases h1:x=u
  ·by_cases h2:x=y
   ·rw[if_neg (λ h=>h.2.2 h2),if_neg (λ h=>h.2.2 h2),if_neg (λ h=>h.2.2 h2)]
   ·by_cases h3:y=w
    ·have h4:y∉H:=by rw[h3];exact hn.1
     rw[if_neg (λ h=>h4 h.2.1),if_pos ⟨h1,h3,h2⟩,if_pos ⟨h1,by rw[h3];exact za3,h2⟩]
    ·by_cases h4:y∈H
     ·rw[if_pos ⟨h1,h4,h2⟩,if_neg (λ h=>h3 h.2.1),if_pos ⟨h1,za4 _ h4,h2⟩]
     ·rw[if_neg (λ h=>h4 h.2.1),if_neg (λ h=>h3 h.2.1),if_neg (λ h=>by rcases zab.mp h.2.1 with z|z;exact h3 z;exact h4 z)]
  ·rw[if_neg (λ h=>h1 h.1),if_neg (λ h=>h1 h.1),if_neg (λ h=>h1 h.1)]
def Ue {p:Int}{H:List Int}(hn:H.Nodup)(hp:p∉H)(x y:Int):∀ {U:List Int}{A:LA},U.Nodup->p∉U->Ao (U.foldl (YN p H) A) (x,y)=if x∈U/\y∈H/\x≠y then JT (Ao A (x,y)) (AD (Ab A (x,p)) (Ab A (p,y))) (some p) else Ao A (x,y)
 |[],A,_,_=>by rw[List.foldl_nil,if_neg (λ h=>by cases h.1)]
 |u::U,A,hU,u4=>by
  rw[zbc] at hU;have u5:u≠p:=λ e=>u4 (by rw[e];exact za3);have xj:p∉U:=λ e=>u4 (za4 _ e);have at':∀x y,Ao (YN p H A u) (x,y)=if x=u/\y∈H/\x≠y then JT (Ao A (x,y)) (AD (Ab A (x,p)) (Ab A (p,y))) (some p) else Ao A (x,y):=λ x y=>fW u5 x y hn hp
  have c1:Ab (YN p H A u) (x,p)=Ab A (x,p):=by unfold Ab;rw[at',if_neg (λ h=>hp h.2.1)]
  have c2:Ab (YN p H A u) (p,y)=Ab A (p,y):=by unfold Ab;rw[at',if_neg (λ h=>u5 h.1.symm)]
  rw[zat,Ue hn hp x y hU.2 xj,c1,c2,at'];by_cases h2:y∈H/\x≠y
  ·by_cases h1:x=u
   ·have h3:x∉U:=by rw[h1];exact hU.1
    rw[if_neg (λ h=>h3 h.1),if_pos ⟨h1,h2⟩,if_pos ⟨by rw[h1];exact za3,h2⟩]
   ·by_cases h3:x∈U
    ·rw[if_pos ⟨h3,h2⟩,if_neg (λ h=>h1 h.1),if_pos ⟨za4 _ h3,h2⟩]
    ·rw[if_neg (λ h=>h3 h.1),if_neg (λ h=>h1 h.1),if_neg (λ h=>by rcases zab.mp h.1 with z|z;exact h1 z;exact h3 z)]
  ·rw[if_neg (λ h=>h2 h.2),if_neg (λ h=>h2 h.2),if_neg (λ h=>h2 h.2)]
def LX (hn:H.Nodup)(hp:p∉H)(A:LA)(x y:Int):Ao (mF A p H) (x,y)=if x∈H/\y∈H/\x≠y then JT (Ao A (x,y)) (AD (Ab A (x,p)) (Ab A (p,y))) (some p) else Ao A (x,y):=Ue hn hp x y hn hp
abbrev mL (A:LA)(x y:Int)(W:List Int)(v:Ar):Ar:=W.foldl (λ v p=>JT v (AD (Ab A (x,p)) (Ab A (p,y))) (some p)) v
def OQ {x y:Int}:∀ {L:List Int}{A:LA},L.Nodup->(x∉L\/y∉L)->Ao (Q9 A L) (x,y)=Ao A (x,y)
 |[],A,_,_=>rfl
 |p::r,A,hn,h=>by
  rw[zbc] at hn;have h':x∉r\/y∉r:=h.imp (λ z w=>z (za4 _ w)) λ z w=>z (za4 _ w);rw[Q9,OQ hn.2 h',LX hn.2 hn.1,if_neg (λ z=>h'.elim (λ w=>w z.1) λ w=>w z.2.1)]
def Xd {x y:Int}(ad:x≠y):∀ {L:List Int}{A:LA},L.Nodup->x∈L->y∈L->Ao (Q9 A L) (x,y)=mL (Q9 A L) x y (L.take (min (BR L x) (BR L y))) (Ao A (x,y))
 |[],A,_,h,_=>by cases h
 |p::r,A,hn,hx,hy=>by
  rw[zbc] at hn;have u6:∀z,z≠p->BR (p::r) z=BR r z+1:=λ z hz=>by show (if p=z then 0 else BR r z+1)=_;rw[if_neg (zbl hz)]
  have u7:BR (p::r) p=0:=by show (if p=p then 0 else BR r p+1)=_;rw[if_pos rfl]
  rw[Q9];by_cases h1:x=p
  ·rw[OQ hn.2 (.inl (by rw[h1];exact hn.1)),LX hn.2 hn.1,if_neg (λ z=>hn.1 (by rw[<-h1];exact z.1)),h1,u7,Nat.zero_min];rfl
  by_cases h2:y=p
  ·rw[OQ hn.2 (.inr (by rw[h2];exact hn.1)),LX hn.2 hn.1,if_neg (λ z=>hn.1 (by rw[<-h2];exact z.2.1)),h2,u7,Nat.min_zero];rfl
  have ml:x∈r:=(zab.mp hx).resolve_left h1;have lw:y∈r:=(zab.mp hy).resolve_left h2;have e1:Ab (Q9 (mF A p r) r) (x,p)=Ab A (x,p):=by unfold Ab;rw[OQ hn.2 (.inr hn.1),LX hn.2 hn.1,if_neg (λ z=>hn.1 z.2.1)]
  have e2:Ab (Q9 (mF A p r) r) (p,y)=Ab A (p,y):=by unfold Ab;rw[OQ hn.2 (.inl hn.1),LX hn.2 hn.1,if_neg (λ z=>hn.1 z.1)]
  have et:(p::r).take (min (BR (p::r) x) (BR (p::r) y))=p::r.take (min (BR r x) (BR r y)):=by
   rw[u6 x h1,u6 y h2,Nat.add_min_add_right,List.take_succ_cons]
  rw[et,Xd ad hn.2 ml lw,LX hn.2 hn.1,if_pos ⟨ml,lw,ad⟩];unfold mL;rw[zat,e1,e2]
def YT (hn:L.Nodup)(hx:x∈L)(hy:y∈L)(ad:x≠y):Ao (Bu rs L) (x,y)=mL (Bu rs L) x y (L.take (min (BR L x) (BR L y))) (Ao (lay0 rs) (x,y)):=Xd ad hn hx hy
def Xe (rs:List Road):∀x y c mid,Ao (lay0 rs) (x,y)=some (c,mid)->mid=none/\∃r∈rs,r.a=x/\r.b=y/\CT r=some c:=by
 unfold lay0;have:=FY (L:=rs) (pre:=[]) (f:=λ A r=>layA A (r.a,r.b) (CT r) none) (b:=[]) (λ _ A=>∀x y c mid,Ao A (x,y)=some (c,mid)->mid=none/\∃r∈rs,r.a=x/\r.b=y/\CT r=some c) (λ _ _ _ _ h=>by cases h) λ r hr W B hB x y c mid h=>by
  rw[Xc] at h;by_cases e:(x,y)=(r.a,r.b)
  ·cases e;rw[if_pos rfl] at h;unfold JT at h;cases q:CT r with
   |none=>rw[q] at h;exact hB _ _ _ _ h
   |some d =>
    rw[q] at h;dsimp only at h;split at h
    ·cases h;exact⟨rfl,r,hr,rfl,rfl,q⟩
    ·rename_i z hz;split at h
     ·cases h;exact⟨rfl,r,hr,rfl,rfl,q⟩
     ·exact hB _ _ _ _ h
  ·rw[if_neg e] at h;exact hB _ _ _ _ h
 exact this
abbrev fX (v:Ar):Co:=v.map zay
def mM (v:Ar)(c:Co)(mid:Option Int):fX (JT v c mid)=Ha (fX v) c:=by
 unfold JT fX;cases c with
 |none=>cases v<;>rfl
 |some c =>
  cases v with
  |none=>rfl
  |some z =>
   dsimp only;simp only[zbw,Ha,sL];by_cases hc:c.1<z.1.1\/(c.1=z.1.1/\c.2<z.1.2)
   ·rw[if_pos hc,if_neg (by omega)];rfl
   ·rw[if_neg hc,if_pos (by omega)];rfl
structure Fd (cd:Int->Co)(v0:Ar)(W:List Int)(v:Ar):Prop where
 le0:BQ (fX v) (fX v0)
 lec:∀p∈W,BQ (fX v) (cd p)
 Ax:∀c,v=some (c,none)->v0=some (c,none)
 mid:∀c p,v=some (c,some p)->(∃W1 W2,W=W1++p::W2/\cd p=some c/\∀q∈W1,cd q≠some c)/\fX v0≠some c
def tJ (h0:∀c p,v0≠some (c,some p))(W:List Int):Fd cd v0 W (W.foldl (λ v p=>JT v (cd p) (some p)) v0):=by
 have:=FY (L:=W) (pre:=[]) (f:=λ v p=>JT v (cd p) (some p)) (b:=v0) (λ W v=>Fd cd v0 W v) ⟨Ct _,(λ p hp=>by cases hp),λ c h=>h,λ c p h=>absurd h (h0 c p)⟩ λ p hp W v hv=>by
  have jx:=mM v (cd p) (some p);refine⟨?_,λ q hq=>?_,λ c h=>?_,λ c q h=>?_⟩
  ·rw[jx];exact AE (Gy _ _) hv.le0
  ·rw[jx];rcases zal.mp hq with hq|hq
   ·exact AE (Gy _ _) (hv.lec q hq)
   ·rw[za9.mp hq];exact J9 _ _
  ·unfold JT at h;split at h
   ·exact hv.Ax c h
   ·split at h
    ·cases h
    ·rename_i z;split at h
     ·cases h
     ·exact hv.Ax c h
  ·have keep:v=some (c,some q)->(∃W1 W2,W++[p]=W1++q::W2/\cd q=some c/\∀q∈W1,cd q≠some c)/\fX v0≠some c:=λ h=>by
    obtain⟨⟨W1,W2,e1,e2,e3⟩,e4⟩:=hv.mid c q h;exact⟨⟨W1,W2++[p],by rw[e1];simp,e2,e3⟩,e4⟩
   have new:∀d:Int×Int,cd p=some d->(∀z,fX v=some z->d.1<z.1\/(d.1=z.1/\d.2<z.2))->(∃W1 W2,W++[p]=W1++p::W2/\cd p=some d/\∀q∈W1,cd q≠some d)/\fX v0≠some d:=λ d hd ah=>by
    have no:∀o:Co,BQ (fX v) o->o≠some d:=λ o ho e=>by
     subst e;obtain⟨z,hz,hle⟩:=OJ ho;have:=ah z hz;simp only[NJ] at hle;omega
    exact⟨⟨W,[],rfl,hd,λ q hq=>no _ (hv.lec q hq)⟩,no _ hv.le0⟩
   unfold JT at h;split at h
   ·exact keep h
   ·rename_i c' hd;split at h
    ·cases h;exact new _ hd λ z hz=>by cases hz
    ·rename_i z;split at h
     ·rename_i hc;cases h;exact new _ hd λ z' hz=>by cases hz;exact hc
     ·exact keep h
 exact this
section
variable {m:Nat}
def Ug (hn:L.Nodup)(h:x∈L.take k):x∈L/\BR L x<k:=by
 obtain⟨i,hi⟩:=List.mem_iff_getElem?.mp h;rw[List.getElem?_take] at hi;split at hi
 ·rename_i hk;exact⟨zao hi,by rw[OP hn hi];exact hk⟩
 ·cases hi
end
def tK (ha:0<=a/\a<Rb)(hb:0<=b/\b<Rb)(h0:0<=i)(h1:i<2):∃w:Int,AI (.lst [.int a,.int b]) (.int i)=.ok (.int w)/\0<=w/\w<Rb:=by
 have hi:i=0\/i=1:=by omega
 rcases hi with rfl|rfl
 ·exact⟨a,rfl,ha⟩
 ·exact⟨b,rfl,hb⟩
def aa4 {α:Type}{a b c d e f g h:D}{x y:α}:(if [a,b,c,d,e,f,g,h].length<=1000 then x else y)=x:=if_pos (by simp)
def yC (r:Road):dp (.ok (Bx r))=.ok (Bx r):=by
 obtain⟨a,b,l,w⟩:=r;cases l<;>rfl
def tL (i:Int):dp (.ok (.int i))=.ok (.int i):=rfl
def mN (cs:List Co):Pl 16 (.lst (cs.map cst)):=(O8 (n:=1) λ d hd=>by
 obtain⟨c,_,rfl⟩:=zar.mp hd;exact OG (n:=0) c).le (by decide)
def Inv.freeze (I:Inv X pins σ H s)(e:H a=some (.dK kvs)):
 ∃o,s.heap.get? a=some o/\Inv X pins σ (upd H a (.GW o (.dK kvs))) s:=by
 obtain⟨z,y,vs,r,o,es,ep,ho,c⟩:=(show Bk X.prog X.w H s.heap a (.dK kvs) from I.AF a _ e);have ne:∀b u,H b=some u->u≠.dK kvs->b≠a:=λ b u q n hb=>n (by rw[hb,e] at q;exact (zau q).symm);have AF:GX X.prog X.w (upd H a (.GW o (.dK kvs))) s.heap:=λ b u q=>by
  by_cases hb:b=a
  ·subst hb;rw[An] at q;cases q;exact⟨ho,⟨z,y,vs,r,o,es,ep,ho,c⟩⟩
  ·rw[Ai hb] at q;exact (I.AF b u q).Qc (λ _ _ _ w=>w) (λ d w=>by rw[Ai (ne d _ w (λ z=>by cases z))];exact w) λ d xs w=>by rw[Ai (ne d _ w (λ z=>by cases z))];exact w
 refine⟨o,ho,?_⟩;have:=I.step (g':=s.gens) (d':=s.drawn) (t':=s.toks) (ch:=[]) (h':=s.heap) (H':=upd H a (.GW o (.dK kvs))) (λ b hb=>by cases hb) (λ _ _ _ _ _ q _=>q) (λ b o _ _ _ q _=>⟨o.slots,q⟩) (λ b o _ _ n=>by rw[Ai (λ z=>by rw[z,e] at n;cases n)];exact n)
  (λ b o _ q=>⟨o,q⟩) (λ b xs q=>by rw[Ai (ne b _ q (λ z=>by cases z))];exact q) (λ b o u q=>by rw[Ai (ne b _ q (λ z=>by cases z))];exact q) (λ b ps q=>⟨#[],by rw[Ai (ne b _ q (λ z=>by cases z)),q];simp⟩) (λ _ q=>q) AF I.bare
 exact this
def Inv.yD (I:Inv X pins σ H s)(e:H a=some (.dK kvs)):∀o u,X.H₀ a≠some (.GW o u):=λ o u q=>by
 rw[I.base.MQ a o u q] at e;cases e
def Inv.fY (I:Inv X pins σ H s)(e:H a=some (.GW o (.dK kvs)))(n0:∀o u,X.H₀ a≠some (.GW o u)):Inv X pins σ (upd H a (.dK kvs)) s:=by
 have ne:∀b u,H b=some u->u≠.GW o (.dK kvs)->b≠a:=λ b u q n hb=>n (by rw[hb,e] at q;exact (zau q).symm);have nn:∀b,H b=none->b≠a:=λ b q hb=>by rw[hb,e] at q;cases q
 refine⟨I.ok,I.os,I.bare,⟨I.base.keep,I.base.slot,λ b ob q n hx=>?_,I.base.there,λ b xs q=>?_,λ b ob u q=>?_,λ b ps q=>?_⟩,I.loc,I.cell,?_,λ x c h=>?_,λ p hp=>?_,λ b u q=>?_,I.len⟩
 ·have:=I.base.free b ob q n hx;rw[Ai (nn b this)];exact this
 ·have:=I.base.Qd b xs q;rw[Ai (ne b _ this (λ z=>by cases z))];exact this
 ·by_cases hb:b=a
  ·subst hb;exact absurd q (n0 ob u)
  ·rw[Ai hb];exact I.base.MQ b ob u q
 ·obtain⟨m,h⟩:=I.base.Qe b ps q;exact⟨m,by rw[Ai (ne b _ h (λ z=>by cases z))];exact h⟩
 ·rw[Ai (nn _ I.free)];exact I.free
 ·rw[Ai (nn _ (I.FG x c h))];exact I.FG x c h
 ·obtain⟨h1,h2,h3⟩:=I.pin p hp;exact⟨h1,by rw[Ai (nn _ h2)];exact h2,h3⟩
 ·by_cases hb:b=a
  ·subst hb;rw[An] at q;cases q;obtain⟨h1,z,y,vs,r,ob,es,ep,ho,c⟩:=(show Bk X.prog X.w H s.heap b (.GW o (.dK kvs)) from I.AF b _ e);exact⟨z,y,vs,r,ob,es,ep,ho,c⟩
  ·rw[Ai hb] at q;exact (I.AF b u q).Qc (λ _ _ _ w=>w) (λ d w=>by rw[Ai (ne d _ w (λ z=>by cases z))];exact w) λ d xs w=>by rw[Ai (ne d _ w (λ z=>by cases z))];exact w
def YU:∀ {k:Key}{u:Value},NM k u=true->RelV (kV k) u
 | .inl i,u,h=>by
  obtain⟨t,e⟩:=Value.isInt_shape (k:=i) (v:=u) h;exact⟨t,e⟩
 | .inr x,u,h=>by
  obtain⟨t,e⟩:=Value.isStrOf_shape (x:=x) (v:=u) h;exact⟨t,e⟩
def KV.get (r:KV kvs vs){i:Nat}{k:Key}(h:vs[i]?=some (k,x)):∃v,kvs[i]?=some (k,v):=by
 induction r generalizing i with
 |nil=>cases h
 | @cons p q ps qs hd tl ih =>
  cases i with
  |zero =>
   rw[zcn] at h;cases h;have ep:p=(k,p.2):=Prod.ext hd.1 rfl;exact⟨p.2,by rw[zcn,<-ep]⟩
  |succ i=>rw[zb5] at h ⊢;exact ih h
abbrev yE (a:Addr)(o:Obj)(kvs:List (Key×V)):It:=
 ⟨λ i H=>H a=some (.GW o (.dK kvs))/\i<kvs.length,λ i H v H'=>H'=H/\∃kv,kvs[i]?=some kv/\v=kV kv.1,λ i H=>H a=some (.GW o (.dK kvs))/\kvs.length<=i⟩
def YV {K}(a it:Addr)(o:Obj)(kvs:List (Key×V))(vs:List (Key×Value))(ep:Nat)(hD:∀h:Heap,h.get? a=some o->h.DictAt (AL P w) a vs ep)(jy:KV kvs vs)(ad:a≠it):
 Turn P w K tg (yE a o kvs) [it] it (λ i h=>i<=kvs.length/\h.IsKeyIter it a i kvs.length ep) where
 mem:=by simp
 obj:=λ i h st b hb=>by
  have e:b=it:=by simpa using hb
  subst e;obtain⟨_,o,e,c,d⟩:=st;exact⟨o,e,λ v z=>by rw[d] at z;cases z⟩
 keep:=λ i h h' st k=>⟨st.1,st.2.at λ o e=>k it (by simp) o e⟩
 item:=by
  intro X hP hw hK hc i pins s σ H E I hf st hg;subst hP hw hK;obtain⟨he,hi⟩:=hg;have hlen:kvs.length=vs.length:=zct jy;have gc:s.heap.get? a=some o:=(show Bk X.prog X.w H s.heap a (.GW o (.dK kvs)) from I.AF a _ he).1;obtain⟨f0,f1,f2,f3,f4,f5⟩:=hf it (by simp);have W:=Walks.dictKeys (prog:=X.prog) (w:=X.w) (knd:=AL X.prog X.w) (A:=X.A) (I.ok.hd hc) it a ad vs ep;refine W.item i s _ _ (by omega) ⟨by rw[<-hlen];exact st.2,hD _ gc⟩ λ v h' tk hv aZ kp=>?_;obtain⟨k,x,hk,xk⟩:=hv;obtain⟨v',iy⟩:=jy.get hk;have I1:Inv X pins σ H {s with heap:=h',toks:=tk}:=I.turned (t':=tk) (λ b o hb e=>kp b o (by simpa using hb) e) f0 f1 f3 f4 f5;obtain⟨ob,e,c,d⟩:=id aZ.1;exact⟨v,rfl,T6 (s:={s with heap:=h',toks:=tk}) e c d (by decide) ⟨kV k,H,I1,YU xk,⟨rfl,_,iy,rfl⟩,⟨hi,by rw[hlen];exact aZ.1⟩,λ b hb=>(hf b hb).1⟩⟩
 done:=by
  intro X hP hw hK hc i pins s σ H E I hf st hg;subst hP hw hK;obtain⟨he,hi⟩:=hg;have hlen:kvs.length=vs.length:=zct jy;have gc:s.heap.get? a=some o:=(show Bk X.prog X.w H s.heap a (.GW o (.dK kvs)) from I.AF a _ he).1;obtain⟨f0,f1,f2,f3,f4,f5⟩:=hf it (by simp);have W:=Walks.dictKeys (prog:=X.prog) (w:=X.w) (knd:=AL X.prog X.w) (A:=X.A) (I.ok.hd hc) it a ad vs ep;have rb:i=vs.length:=by have:=st.1;omega
  subst rb;exact W.done s _ _ ⟨by rw[<-hlen];rw[<-hlen] at st;exact st.2,hD _ gc⟩ λ h' tk kp=>⟨rfl,I.turned (t':=tk) (λ b o hb e=>kp b o (by simpa using hb) e) f0 f1 f3 f4 f5⟩
 self:=λ _ _ _ _ _ st h=>wpAny_pyIter_keyiter st.2 h
section
variable {f g:Ah->M D}{p:Pos}{te:TE}
abbrev yF (H0:Hp)(te:TE):TI:=λ σ H R=>te σ H λ v H1=>∃a kvs,v=.ref a/\((H1 a=some (.dK kvs)/\∀o,(∀o u,H0 a≠some (.GW o u))->R (yE a o kvs) (upd H1 a (.GW o (.dK kvs))))\/∃o,H1 a=some (.GW o (.dK kvs))/\R (yE a o kvs) H1)
def mO (ha:PE X e te):PI X tg e (yF X.H₀ te):=by
 intro pins s σ H R I h;refine B9 (ha pins s σ H _ I h) λ v s1 zz=>?_;obtain⟨x,H1,I1,r1,q1⟩:=zz;obtain⟨a,kvs,rfl,q⟩:=q1;cases r1;have fin:∀(H2:Hp) (o:Obj),Inv X pins σ H2 s1->H2 a=some (.GW o (.dK kvs))->R (yE a o kvs) H2->wpAny (model X.prog X.w) X.A (pyIter (.ref a)) (PIE X pins σ tg R) X.xe s1:=λ H2 o I2 e2 q2=>by
  obtain⟨gc,z,y,vs,r,ob,es,ep,ho,c⟩:=(show Bk X.prog X.w H2 s1.heap a (.GW o (.dK kvs)) from I2.AF a _ e2);have eo:o=ob:=zau (gc.symm.trans ho);subst eo;have hD:∀h:Heap,h.get? a=some o->h.DictAt (AL X.prog X.w) a vs ep:=λ h q=>⟨o,es,q,c⟩;have hlen:kvs.length=vs.length:=zct r;refine wpAny_pyIter_dict y (hD _ gc) ?_;refine⟨s1.heap.objs.size,[s1.heap.objs.size],_,_,H2,rfl,I2.kept (t':=s1.toks) λ b o e=>zad _ e,YV a _ o kvs vs ep hD r (zax (zai gc)),⟨zba _,_,zap _ rfl,rfl,by rw[hlen];rfl⟩,λ b hb=>?_,q2⟩;have e:b=s1.heap.objs.size:=by simpa using hb
  subst e;exact I2.V7 (zaf _) (I2.AF.fresh (zaf _))
 rcases q with ⟨e1,q⟩|⟨o,e1,q⟩
 ·obtain⟨o,ho,I2⟩:=I1.freeze e1;exact fin _ o I2 An (q o (I1.yD e1))
 ·exact fin H1 o I1 e1 q
end
abbrev Rz (H H':Hp):Prop:=∀b u,H b=some u->H' b=some u\/(∃o kvs,u=.GW o (.dK kvs)/\H' b=some (.dK kvs))\/∃o kvs,u=.dK kvs/\H' b=some (.GW o (.dK kvs))
def Rz.tup (e:Rz H H')(h:H a=some (.tup xs)):H' a=some (.tup xs):=by
 rcases e _ _ h with q|⟨o,k,q,_⟩|⟨o,k,q,_⟩
 ·exact q
 ·cases q
 ·cases q
def Rz.dT (e:Rz H H')(h:Rd H a (.dT kvs)):Rd H' a (.dT kvs):=by
 rcases h with h|⟨o,h⟩
 ·rcases e _ _ h with q|⟨o,k,q,_⟩|⟨o,k,q,_⟩
  ·exact .inl q
  ·cases q
  ·cases q
 ·rcases e _ _ h with q|⟨o,k,q,_⟩|⟨o,k,q,_⟩
  ·exact .inr ⟨_,q⟩
  ·cases q
  ·cases q
def Rz.dK (e:Rz H H')(h:Rd H a (.dK kvs)):Rd H' a (.dK kvs):=by
 rcases h with h|⟨o,h⟩
 ·rcases e _ _ h with q|⟨o,k,q,_⟩|⟨o,k,q,r⟩
  ·exact .inl q
  ·cases q
  ·cases q;exact .inr ⟨_,r⟩
 ·rcases e _ _ h with q|⟨o,k,q,r⟩|⟨o,k,q,_⟩
  ·exact .inr ⟨_,q⟩
  ·cases q;exact .inl r
  ·cases q
def Rz.ins (e:Rz H H')(h:H a=some (.ins C dx fs)):H' a=some (.ins C dx fs):=by
 rcases e _ _ h with q|⟨o,k,q,_⟩|⟨o,k,q,_⟩
 ·exact q
 ·cases q
 ·cases q
def Rz.seq {K}(e:Rz H H')(h:DB K H a xs):DB K H' a xs:=by
 rcases h with (h|⟨o,h⟩)|h
 ·rcases e _ _ h with q|⟨o,k,q,_⟩|⟨o,k,q,_⟩
  ·exact .inl (.inl q)
  ·cases q
  ·cases q
 ·rcases e _ _ h with q|⟨o,k,q,_⟩|⟨o,k,q,_⟩
  ·exact .inl (.inr ⟨_,q⟩)
  ·cases q
  ·cases q
 ·exact .inr h
mutual
theorem BF.rz {K:za1}{H H':Hp}(e:Rz H H'):∀ {v:V}{d:D},BF K H v d->BF K H' v d:=by
 intro _ _ x_;cases x_ with
 |Ax=>exact .Ax
 |bl b=>exact .bl b
 |int i=>exact .int i
 |str x=>exact .str x
 |tup h r=>exact .tup (e.tup h) (Ak.rz e r)
 |lst h r=>exact .lst (e.seq h) (Ak.rz e r)
 |SN h r=>exact .SN (e.dK h) (Ak.rz e r)
 |Ts h r=>exact .Ts (e.dT h) (Ak.rz e r)
 |ins n h r=>exact .ins n (e.ins h) (Ak.rz e r)
 |Lo h r=>exact .Lo h r
theorem Ak.rz {K:za1}{H H':Hp}(e:Rz H H'):∀ {vs:List V}{ds:List D},Ak K H vs ds->Ak K H' vs ds:=by
 intro _ _ x_;cases x_ with
 |nil=>exact .nil
 |cons h t=>exact .cons (BF.rz e h) (Ak.rz e t)
end
mutual
theorem BS.rz {K:za1}{H H':Hp}{P P':Addr->Prop}(sm:Rz (del H P) (del H' P')):∀ {v:V}{t:OT}{fp:List Addr},(∀a∈fp,H' a=H a)->BS K H P v t fp->BS K H' P' v t fp:=by
 intro _ _ _ k x_;cases x_ with
 |sh h=>exact .sh (h.rz sm)
 |lst h r=>exact .lst ((k _ za3).trans h) (Av.rz sm (λ a ha=>k a (za4 _ ha)) r)
 |tup h r=>exact .tup (sm.tup h) (Av.rz sm k r)
 |dK h r=>exact .dK ((k _ za3).trans h) (Av.rz sm (λ a ha=>k a (za4 _ ha)) r)
 |dT h r=>exact .dT ((k _ za3).trans h) (Av.rz sm (λ a ha=>k a (za4 _ ha)) r)
 |ins n h r=>exact .ins n ((k _ za3).trans h) (Av.rz sm (λ a ha=>k a (za4 _ ha)) r)
theorem Av.rz {K:za1}{H H':Hp}{P P':Addr->Prop}(sm:Rz (del H P) (del H' P')):∀ {v:List V}{t:List OT}{fp:List Addr},(∀a∈fp,H' a=H a)->Av K H P v t fp->Av K H' P' v t fp:=by
 intro _ _ _ k x_;cases x_ with
 |nil=>exact .nil
 |cons h r=>exact .cons (BS.rz sm (λ a ha=>k a (zb2 _ ha)) h) (Av.rz sm (λ a ha=>k a (zaa _ ha)) r)
end
def CW.rz {K:za1}{H H':Hp}{P P':Addr->Prop}(sm:Rz (del H P) (del H' P')):∀ {ps:List Addr}{Hq:List (List D)},(∀a∈ps,H' a=H a)->CW K H P ps Hq->CW K H' P' ps Hq:=by
 intro _ _ k x_;cases x_ with
 |nil=>exact .nil
 |cons h r t=>exact .cons ((k _ za3).trans h) (r.rz sm) (CW.rz sm (λ a ha=>k a (za4 _ ha)) t)
def CU.rz {K}(sm:Rz (del H P) (del H' P'))(k:∀a∈fp,H' a=H a)(h:CU K H P c v fp):CU K H' P' c v fp:=by
 cases c with
 |val d=>exact h
 |own ds =>
  obtain⟨p,xs,rfl,rfl,h1,h2⟩:=h;exact⟨p,xs,rfl,rfl,(k p za3).trans h1,h2.rz sm⟩
 |ow o =>
  cases o with
  |rows Hq =>
   obtain⟨p,ps,rfl,rfl,h1,h2⟩:=h;exact⟨p,ps,rfl,rfl,(k p za3).trans h1,h2.rz sm λ a ha=>k a (za4 _ ha)⟩
  |Nv p ds =>
   obtain⟨p,xs,rfl,rfl,h1,h2⟩:=h;exact⟨p,xs,rfl,rfl,(k p za3).trans h1,h2.rz sm⟩
  |tree p t=>exact BS.rz sm k h
def Am.rz {K}(E:Am K P0 P H σ ρ)(k:∀a,P a->H' a=H a)(sm:Rz (del H P) (del H' P)):Am K P0 P H' σ ρ:=by
 have key:∀(j:Nat) (d:Cl) (w:V) (fq:List Addr),ρ[j]?=some (some d)->σ[j]?=some (some w)->CU K H' P d w fq->CU K H P d w fq:=λ j d w fq hk sk ho=>by
  have io:Gk d=true:=by cases d<;>first|rfl|exact ho.elim
  obtain⟨w',b6,s2,o2,h3,_⟩:=E.ows j d hk io;rw[sk] at s2;cases s2;have o3:=o2.rz sm λ a ha=>k a (h3 a ha).1;rw[ho.C5 o3];exact o2
 exact⟨E.sub,λ a h=>by obtain⟨o,z,y⟩:=E.BX a h;exact⟨o,(k a h).trans z,y⟩,λ i d h=>let ⟨v,h1,h2⟩:=E.val i d h;⟨v,h1,h2.rz sm⟩,
  λ i c h io=>let ⟨v,fp,h1,h2,h3,h4⟩:=E.ows i c h io;⟨v,fp,h1,h2.rz sm λ a ha=>k a (h3 a ha).1,h3,h4⟩,
  λ i j c c' v v' fp ag hi hj si sj h h' ad=>E.apart i j c c' v v' fp ag hi hj si sj (key i c v fp hi si h) (key j c' v' ag hj sj h') ad,E.len,E.pin⟩
abbrev Fz (H0:Hp)(H H':Hp):Prop:=H'=H\/∃a o kvs,H a=some (.dK kvs)/\H'=upd H a (.GW o (.dK kvs))/\∀o u,H0 a≠some (.GW o u)
abbrev Uz (H0:Hp)(H H':Hp):Prop:=H'=H\/∃a o kvs,H a=some (.GW o (.dK kvs))/\H'=upd H a (.dK kvs)/\∀o u,H0 a≠some (.GW o u)
def Inv.uz (I:Inv X pins σ H s)(u:Uz X.H₀ H H'):Inv X pins σ H' s:=by
 rcases u with rfl|⟨a,o,kvs,e,rfl,n0⟩
 ·exact I
 ·exact I.fY e n0
abbrev tUz (H0:Hp)(t:TE):TE:=λ σ H Q=>t σ H λ v H2=>∃H3,Uz H0 H2 H3/\Q v H3
def yG (h:PE X e t):PE X e (tUz X.H₀ t):=by
 intro pins s σ H Q I q;refine B9 (h pins s σ H _ I q) λ v s1 zz=>?_;obtain⟨x,H1,I1,r1,q1⟩:=zz;obtain⟨H3,u,q⟩:=q1;exact⟨x,H3,I1.uz u,r1,q⟩
abbrev DIK (X:Cx)(WX:Str->Hp->Prop)(tg iter:Expr)(f:Ah->M (List D)):Prop:=
 ∃wi,PI X tg iter wi/\∀P0 P σ H R ρ,Am X.K P0 P H σ ρ->(match f ρ with | .ok ds=>∀J H1 H',Aj H H1->Fz X.H₀ H1 H'->(∀b,P b->H' b=H1 b)->Rz (del H1 P) (del H' P)->Vw X.K J P H' ds->R J H' | .ex x=>∀H',Aj H H'->WX x H' | .bad=>False)->wi σ H R
abbrev tM (d:D):M (List D):=match d with | .BN false ks _=>.ok ks | _=>.bad
def mP {K}:∀k:Key,BF K H (kV k) (Cn k)
 | .inl i=>.int i
 | .inr x=>.str x
def fZ {K}(nP:¬ P a)(e:H a=some (.GW o (.dK kvs))):Vw K (yE a o kvs) P H (kvs.map λ kv=>Cn kv.1):=by
 have at':∀ {P':Addr->Prop} {H':Hp},Aj (del H P) (del H' P')->H' a=some (.GW o (.dK kvs)):=λ s=>(Al (s a _ (by rw[AB nP];exact e))).2;refine⟨λ i P' H' s hi=>⟨at' s,by rw[za2] at hi;exact hi⟩,λ i P' H' s hi=>⟨at' s,by rw[za2] at hi;exact hi⟩,λ i P' H' v db d s ht hd y=>?_⟩;obtain⟨rfl,kv,hk,rfl⟩:=y;rw[zaw,hk] at hd;cases hd;exact⟨Aj.refl _,mP _⟩
section
variable {c:Bool}{P:Addr->Prop}{H:Hp}{a b:Expr}{f g:Ah->M D}{fs:Ah->M (List D)}
def mQ (ha:DE X WX true e f):DIK X WX tg e (λ ρ=>(f ρ).bind tM):=by
 obtain⟨ta,a1,a2⟩:=ha;refine⟨_,mO a1,λ P0 P σ H R ρ E h=>?_⟩;dsimp only at h;refine a2 P0 P σ H _ ρ E ?_;cases q:f ρ with
 |bad|ex x=>rw[q] at h;exact h
 |ok d =>
  rw[q] at h;simp only[M.A8] at h;unfold tM at h;cases d with
  |BN t ks vs =>
   intro v H1 s1 hv;cases hv with
   | @SN a kvs _ hh hl =>
    rcases hh with hh|⟨o,hh⟩
    ·obtain⟨nP,ea⟩:=Al hh;refine⟨a,kvs,rfl,.inl ⟨ea,λ o n0=>h _ H1 _ s1 (.inr ⟨a,o,kvs,ea,rfl,n0⟩) (λ b hb=>Ai λ z=>nP (by rw[<-z];exact hb)) (λ b u q=>?_) (fZ nP An)⟩⟩;obtain⟨n,q'⟩:=Al q;by_cases hb:b=a
     ·subst hb;rw[ea] at q';cases q';exact .inr (.inr ⟨o,kvs,rfl,by rw[AB n];exact An⟩)
     ·exact .inl (by rw[AB n,Ai hb];exact q')
    ·obtain⟨nP,ea⟩:=Al hh;exact⟨a,kvs,rfl,.inr ⟨o,ea,h _ H1 H1 s1 (.inl rfl) (λ _ _=>rfl) (λ _ _ q=>.inl q) (fZ nP ea)⟩⟩
   |Ts _ _=>exact h.elim
  |_=>exact h.elim
def mR (i2:∀P0 P σ H R ρ,Am X.K P0 P H σ ρ->(match fi ρ with | .ok ds=>∀J H1 H',Aj H H1->Fz X.H₀ H1 H'->(∀b,P b->H' b=H1 b)->Rz (del H1 P) (del H' P)->Vw X.K J P H' ds->R J H' | .ex x=>∀H',Aj H H'->WX x H' | .bad=>False)->wi σ H R)(g2:∀P0 P σ H Q ρ v d,Am X.K P0 P H σ ρ->BF X.K (del H P) v d->gG X.K P0 P H Q (gt d ρ)->gg v σ H Q)(t2:∀s H' C ex P0 P σ H Q ρ,Am X.K P0 P H σ ρ->gT (λ _ _=>False) H Q (ft ρ)->tc s H' C ex σ H Q)(e2:∀s H' C ex P0 P σ H Q ρ,Am X.K P0 P H σ ρ->gV X.K (λ _ _=>False) (Lv true P0 P) H Q (fe ρ)->te s H' C ex σ H Q)(E:Am X.K P0 P H σ ρ)(h:Zf X.K WX P H Q ((fi ρ).bind λ ds=>if ds.length<=1000 then Kt (B6 gt ft fe ds (Bb μ ρ)) else .bad)):tUz X.H₀ (Tq wi μ gg tc te) σ H Q:=by
 unfold tUz;refine i2 P0 P σ H _ ρ E ?_;cases q:fi ρ with
 |bad|ex x=>rw[q] at h;exact h
 |ok ds =>
  rw[q] at h;simp only[M.A8] at h;by_cases hd:¬ ds.length<=1000
  ·rw[if_neg hd] at h;exact h.elim
  have hd:ds.length<=1000:=by omega
  rw[if_pos hd] at h;intro J H0 H1 s0 fz kP rz ok s C ex;cases qc:B6 gt ft fe ds (Bb μ ρ) with
  |bad|ex x=>rw[qc] at h;exact h.elim
  |ok total =>
   rw[qc] at h;unfold Kt at h;dsimp only at h;have E1:Am X.K P0 P H1 σ ρ:=(E.same s0).rz kP rz;refine⟨λ i m ys H2=>m=ds.length-i/\i<=ds.length/\ys.length<=i/\Aj H1 H2/\∃es rest,Ak X.K (del H2 P) ys es/\B6 gt ft fe (ds.drop i) (Bb μ ρ)=.ok rest/\es++rest=total,
    ⟨ds.length,by simp,zba _,zaf _,Aj.refl _,[],total,.nil,by rw[zd5];exact qc,rfl⟩,?_⟩
   rintro i m ys H2 ⟨rfl,hi,hy,s2,es,rest,b9,ae,a8⟩;by_cases ah:i<ds.length
   ·refine .inr ⟨ok.go i P H2 s2.del ah,Nat.lt_of_le_of_lt hy (AA (by omega)),λ aP H'=>i+1<=ds.length/\aP.length<=i+1/\Aj H1 H'/\∃es rest,Ak X.K (del H' P) aP es/\B6 gt ft fe (ds.drop (i+1)) (Bb μ ρ)=.ok rest/\es++rest=total,λ aP H' hq=>⟨ds.length-(i+1),by omega,rfl,hq.1,hq.2.1,hq.2.2.1,hq.2.2.2⟩,λ v H3 y=>?_⟩;have E2:=E1.same s2;obtain⟨s3,hv⟩:=ok.iP i P H2 v H3 ds[i] s2.del E2.BX (za7 ah) y;rw[HF ah,B6] at ae;have E3:=(E2.same s3).block μ;refine g2 P0 P _ H3 _ (Bb μ ρ) v ds[i] E3 hv ?_;cases q1:gt ds[i] (Bb μ ρ) with
    |bad|ex x=>rw[q1] at ae;cases ae
    |ok ρ1 =>
     rw[q1] at ae;dsimp only at ae;intro σ4 E4;refine t2 s H1 C ex P0 P σ4 H3 _ ρ1 E4 ?_;cases q2:ft ρ1 with
     |bad|ex x=>rw[q2] at ae;cases ae
     |ok k =>
      rw[q2] at ae;dsimp only at ae;intro H5 s5;cases k with
      |false =>
       simp only[zaz,if_false] at ae ⊢;exact⟨ah,by omega,(s2.trans s3).trans s5,es,rest,(b9.mono s3.del).mono s5.del,ae,a8⟩
      |true =>
       simp only[if_true] at ae ⊢;refine e2 s H1 C ex P0 P σ4 H5 _ ρ1 (E4.same s5) ?_;cases q3:fe ρ1 with
       |bad|ex x=>rw[q3] at ae;cases ae
       |ok y' =>
        rw[q3] at ae;dsimp only at ae;cases q4:B6 gt ft fe (ds.drop (i+1)) (Bb μ ρ) with
        |bad|ex x=>rw[q4] at ae;cases ae
        |ok jl =>
         rw[q4] at ae;cases ae;intro w H6 s6 hw;refine⟨ah,by rw[zah,zbh];omega,((s2.trans s3).trans s5).trans s6,es++[y'],jl,(((b9.mono s3.del).mono s5.del).mono s6.del).snoc hw,rfl,?_⟩;rw[zbk];exact a8
   ·have e:i=ds.length:=by omega
    subst e;rw[zco,B6] at ae;cases ae;rw[zbi] at a8;subst a8;refine .inl ⟨ok.stop _ P H2 s2.del (zaf _),λ D0 hn=>?_⟩;rcases fz with rfl|⟨a,o,kvs,ea,rfl,n0⟩
    ·exact⟨_,.inl rfl,h.Je (s0.trans s2) b9 D0 hn⟩
    ·have e2:H2 a=some (.GW o (.dK kvs)):=s2 a _ An;have nP:¬ P a:=λ z=>by
      have:=kP a z;rw[An,ea] at this;cases this
     have ad:a≠D0:=λ z=>by rw[<-z,e2] at hn;cases hn
     have ec:upd (upd H2 D0 (.lst ys)) a (.dK kvs)=upd (upd H2 a (.dK kvs)) D0 (.lst ys):=by
      funext b;by_cases hb:b=a
      ·subst hb;rw[An,Ai ad,An]
      ·rw[Ai hb];by_cases hd:b=D0
       ·subst hd;rw[An,An]
       ·rw[Ai hd,Ai hd,Ai hb]
     refine⟨upd (upd H2 D0 (.lst ys)) a (.dK kvs),.inr ⟨a,o,kvs,by rw[Ai ad];exact e2,rfl,n0⟩,?_⟩;rw[ec];have su:Aj H (upd H2 a (.dK kvs)):=s0.trans λ b u q=>by
      by_cases hb:b=a
      ·subst hb;rw[ea] at q;cases q;exact An
      ·rw[Ai hb];exact s2 b u (by rw[Ai hb];exact q)
     refine h.Je su (b9.rz λ b u q=>?_) D0 (by rw[Ai (zbl ad)];exact hn);by_cases hb:b=a
     ·subst hb;rw[AB nP,e2] at q;cases q;exact .inr (.inl ⟨o,kvs,rfl,by rw[AB nP];exact An⟩)
     ·refine .inl ?_;obtain⟨n,q'⟩:=Al q;rw[AB n,Ai hb];exact q'
def gB (μ:List (Option Nat))(hc:X.calm=true)(hi:DIK X WX tg iter fi)(av:Ho scope X.env.scope=true)(bc:Ql X.N NB scope μ=true)(hg:uK X scope NB μ tg gt)(ht:∀s H C ex,uL (blockOf X s H scope C NB ex) ifs ft)(he:∀s H C ex,DE (blockOf X s H scope C NB ex) (λ _ _=>False) true elt fe)(hs:∀x,foldedSetIterable iter X.env x=pure x:=by intro _;rfl):
 DN X WX (.ListComp elt [⟨tg,iter,ifs,0⟩] scope pos) (λ ρ=>(fi ρ).bind λ ds=>if ds.length<=1000 then Kt (B6 gt ft fe ds (Bb μ ρ)) else .bad):=by
 obtain⟨wi,i1,i2⟩:=hi;obtain⟨gg,g1,gk,g2⟩:=hg;refine⟨_,yG (WC hc i1 av bc gk (λ s H C ex=>⟨g1 s H C ex,(za0 (ht s H C ex)).1,(za0 (he s H C ex)).1⟩) hs),λ P0 P σ H Q ρ E h=>?_⟩;exact mR i2 g2 (λ s H' C ex P0 P σ H Q ρ E h=>(za0 (ht s H' C ex)).2 P0 P σ H Q ρ E h) (λ s H' C ex P0 P σ H Q ρ E h=>(za0 (he s H' C ex)).2 P0 P σ H Q ρ E h) E h
end
def Xf:∀ {kvs:List (Key×V)}{vs:List (Key×Value)},KV kvs vs->∀us:List Value,us.length=vs.length->(∀(j:Nat) (v:Value),us[j]?=some v->∃k,vs[j]?=some (k,v))->Vals (kvs.map zbu) us
 |_,_,.nil,[],_,_=>.nil
 |_,_,.nil,_::_,h,_|_,_,.cons _ _,[],h,_=>by cases h
 |_,_,.cons hd tl,u::us,h,g=>by
  obtain⟨k,e⟩:=g 0 u rfl;rw[zcn] at e;cases e;exact .cons hd.2 (Xf tl us (by simpa using h) λ j v e=>by
   obtain⟨k,q⟩:=g (j+1) v (by rw[zb5];exact e);rw[zb5] at q;exact⟨k,q⟩)
section
variable {c:Bool}{o:Expr}{f:Ah->M D}{p apos ac:Pos}{to:TE}
abbrev yH (to:TE):TE:=λ σ H Q=>to σ H λ x H1=>∃a kvs,x=.ref a/\Rd H1 a (.dK kvs)/\∀p,H1 p=none->Q (.ref p) (upd H1 p (.ext λ h=>h.IsValuesView p a))
def YW (ho:PE X o to)(aj: ~~~(attributeBase o "values" X.env (eval o X.env)=eval o X.env))(ak: ~~~((apos.endLine==ac.line)=true)):PE X (.Call (.Attribute o "values" apos) [] [] ac) (yH to):=by
 intro pins s0 σ H Q I0 h;refine wpAny_Call_method0_late aj ak (B9 (ho pins s0 σ H _ I0 h) λ v s zz=>?_);obtain⟨x,H1,I,r,q⟩:=zz;obtain⟨a,kvs,rfl,ha,q⟩:=q;cases r;obtain⟨z,hd,vs,rel,dd⟩:=Ji I.AF ha;obtain⟨ob,es,ep,aH,hx,dz⟩:=id dd;refine⟨"dict","dict.values",PySem.F.plainAttrs_dict,PySem.F.slot_dict_values,PySem.F.type_dict_values,dd.typeIs,λ b e=>?_,zcq rfl (PySem.evalArgs_none ?_)⟩
 ·cases e;exact⟨ob,aH,hx.2.1⟩
 refine call_meetsIn PySem.F.slot_dict_values dd.typeIs PySem.F.entry_dict_values (PySem.F.args_dict_values_1 _) (meets_dict_values (AL X.prog X.w) a hd) ⟨⟨vs,dd⟩,?_⟩;refine⟨.ref s.heap.objs.size,_,I.laid (a:=s.heap.objs.size) (o:=.ext λ h=>h.IsValuesView s.heap.objs.size a) (t':=s.toks) (λ b ob e=>zad _ e) (zaf _) ⟨⟨_,zap _ rfl,rfl,rfl⟩,⟨_,zap _ rfl⟩,λ h1 h2 ⟨ob,e,cc⟩ k=>⟨ob,k ob e,cc⟩⟩,rfl,q _ (I.AF.fresh (zaf _))⟩
def VU:GY X (.type "list") (λ xs H Q=>∃p a kvs,xs=[.ref p]/\H p=some (.ext λ h=>h.IsValuesView p a)/\Rd H a (.dK kvs)/\X.calm=true/\∀l,H l=none->Q (.ref l) (upd H l (.lst (kvs.map zbu)))):=by
 intro pins s σ H xs us Q I r h;obtain⟨p,a,kvs,rfl,hp,ha,hc,q⟩:=h;obtain⟨u,rfl,rx⟩:=vals1 r;cases rx;obtain⟨z,hd,vs,rel,dd⟩:=Ji I.AF ha;obtain⟨ep,dat⟩:=dd.dictAt;have hv:s.heap.IsValuesView p a:=(show Bk X.prog X.w H s.heap p (.ext λ h=>h.IsValuesView p a) from I.AF p _ hp).1;have hlen:kvs.length=vs.length:=zct rel;refine PySem.W.kdl_call (PySem.W.kdl_values (knd:=AL X.prog X.w) (kvs:=vs) (ep:=ep)) (I.ok.hd hc) ⟨hv,dat⟩ (by rw[<-hlen];exact z) λ h' tk acc c' hk hS dg=>?_;have jz:Vals (kvs.map zbu) acc.toList:=Xf rel acc.toList (by rw[zdb];exact dg.1) λ j v e=>dg.2 j v (by rw[<-Array.getElem?_toList];exact e);exact⟨.ref s.heap.objs.size,_,I.laid (t':=tk) hk (zaf _) (show Bk X.prog X.w _ h' _ (.lst (kvs.map zbu)) from ⟨by rw[za2];exact z,acc.toList,c',jz,by rw[Array.toArray_toList];exact hS⟩),rfl,q _ (I.AF.fresh (zaf _))⟩
abbrev gC (d:D):M OT:=match d with | .BN false _ vs=>.ok (.lst (vs.map .sh)) | _=>.bad
def Uh (hc:X.calm=true)(hg:Gl X "list")(hm:X.mg "list" = none)(ha:DE X WX true o f)(hb:bootBuiltins "list" = some (.type "list"):=by decide +kernel)(aj: ~~~(attributeBase o "values" X.env (eval o X.env)=eval o X.env))(ak: ~~~((apos.endLine==ac.line)=true))(a7: ~~~(starEach [.Call (.Attribute o "values" apos) [] [] ac] X.env=[(false,eval (.Call (.Attribute o "values" apos) [] [] ac) X.env)])):
 DN X WX (.Call (.Name "list" p) [.Call (.Attribute o "values" apos) [] [] ac] [] pos) (λ ρ=>(f ρ).bind gC):=by
 obtain⟨ta,a1,a2⟩:=ha;refine⟨_,Lu VU hg hm hb (Bc (YW a1 aj ak) Cd a7) (he:=a7),λ P0 P σ H Q ρ E h=>?_⟩;dsimp only at h;refine a2 P0 P σ H _ ρ E ?_;refine XR h λ d h=>?_;intro v H1 s1 hv;unfold gC at h;split at h
 ·cases hv with
  | @SN a kvs _ hh hl =>
   have hr:=hh.Bf;refine⟨a,kvs,rfl,hr,λ p hp=>?_⟩;have sp:Aj H1 (upd H1 p (.ext λ h=>h.IsValuesView p a)):=AK hp _;exact⟨p,a,kvs,rfl,An,hr.same sp,hc,h.Je (s1.trans sp) (hl.mono sp.del)⟩
 ·exact h.elim
end
section
variable {c:Bool}{P:Addr->Prop}{H:Hp}{a b:Expr}{f g:Ah->M D}
def tN (ha:DE X WX true e f):DI X WX tg e (λ ρ=>(f ρ).bind λ d=>match d with | .tup ds=>.ok ds | _=>.bad):=by
 obtain⟨ta,a1,a2⟩:=ha;refine⟨_,pX a1,λ P0 P σ H R ρ E h=>?_⟩;dsimp only at h;refine a2 P0 P σ H _ ρ E ?_;cases q:f ρ with
 |bad|ex x=>rw[q] at h;exact h
 |ok d =>
  rw[q] at h;cases d with
  |tup ds =>
   intro v H1 s1 hv;cases hv with
   | @tup a xs _ hh hl =>
    have at':∀ {P':Addr->Prop} {H':Hp},Aj (del H1 P) (del H' P')->Fq X.K H' a xs:=λ s=>.inl (.inl (Al (s a _ hh)).2);refine⟨a,rfl,⟨xs,.inl (.inl (Al hh).2)⟩,h _ H1 s1 ⟨λ i P' H' s hi=>?_,λ i P' H' s hi=>?_,λ i P' H' v db d s ht hd y=>?_⟩⟩
    ·obtain⟨x,hx,_⟩:=hl.get (za7 hi);exact⟨xs,x,at' s,hx⟩
    ·exact⟨xs,at' s,by rw[hl.length];exact hi⟩
    ·obtain⟨rfl,y⟩:=y;obtain⟨x,hx,bh⟩:=hl.get hd;have e:=y xs (at' s);rw[hx] at e;cases e;exact⟨Aj.refl _,bh.mono s⟩
  |_=>exact h.elim
end
section
variable {w:World}{A:Around}{E:Value->Shared->Prop}{s:Shared}
def YX {K:Type}[DecidableEq K]{knd:KeyKind prog w K}{h h':Heap}{d I l:Addr}{i:Nat}{xs:List (K×Value)}(hd:h.DictOf knd d xs)(hit:h.IsListIter I l i)(sb:∀b o,b≠I->h.get? b=some o->h'.get? b=some o):h'.DictOf knd d xs:=by
 obtain⟨o,es,ep,h1,h2,h3,h4⟩:=hd;obtain⟨oi,i1,i2,i3⟩:=hit;refine⟨o,es,ep,sb d o (λ z=>?_) h1,h2,h3,h4⟩;subst z;rw[i1] at h1;cases h1;rw[i3] at h3;cases h3
def yI {K:Type}[DecidableEq K]{knd:KeyKind prog w K}:zI prog w A (λ h d (xs:List (K×Value))=>h.DictOf knd d xs) (λ _ k v=>knd.is k v=true) (λ xs k _ x=>stored xs k x) where
 it:=YX
 is:=λ h _=>h
 set:=λ hi hd hz hq=>wpAny_dictSet_pairs (knd:=knd) (hsz:=Nat.le_of_succ_le hz) hi hd λ h3 jt ii=>hq h3 _ jt ii
 len:=λ xs k v x=>by
  unfold stored;split
  ·rw[za2];omega
  ·rw[zah,zbh];omega
 nil:=λ e=>⟨_,#[],0,e,⟨rfl,rfl,rfl⟩,rfl,(by intro e he;simp at he),.nil,zbr⟩
end
structure YY where
 (t:Addr) (κ:Key) (v:V)
abbrev tO (H:Hp)(p:YY):Prop:=H p.t=some (.tup [kV p.κ,p.v])
abbrev mS (ps:List YY):List (Key×V):=ps.foldl (λ acc p=>putK acc p.κ p.v) []
abbrev tDK (X:Cx)(te:TE):TE:=λ σ H Q=>te σ H λ x H1=>∃(l:Addr) (ps:List YY),x=.ref l/\DB X.K H1 l (ps.map λ p=>V.ref p.t)/\(∀p∈ps,tO H1 p)/\ps.length<=1000/\∀r,H1 r=none->Q (.ref r) (upd H1 r (.dK (mS ps)))
def Ui:∀ {ps:List YY}{us:List Value},Vals (ps.map λ p=>V.ref p.t) us->us=ps.map λ p=>zb7 p.t
 |[],_,.nil=>rfl
 |p::ps,_,.cons h t=>by
  cases h;rw[za6,<-Ui t]
def oM:∀ {ps:List YY}{qs:List (Key×Value×Value)}{kvs:List (Key×V)}{xs:List (Key×Value)},Paired (λ(p:YY) (q:Key×Value×Value)=>p.κ=q.1/\RelV p.v q.2.2) ps qs->KV kvs xs->KV (ps.foldl (λ acc p=>putK acc p.κ p.v) kvs) (qs.foldl (λ acc p=>stored acc p.1 p.2.2) xs)
 |[],_,_,_,.nil,h=>h
 |p::ps,_,_,_,.cons (b:=q) hq t,h=>by
  obtain⟨q1,q2,q3⟩:=q;obtain⟨e1,e3⟩:=hq;dsimp only at e1 e3;subst e1;have r:=oM (ps:=ps) t (h.put p.κ e3);exact r
def Xg:∀(ps:List YY) (kvs:List (Key×V)),(ps.foldl (λ acc p=>putK acc p.κ p.v) kvs).length<=kvs.length+ps.length
 |[],kvs=>zaf _
 |p::ps,kvs=>by
  have h1:=Xg ps (putK kvs p.κ p.v);have h2:=DC kvs p.κ p.v;rw[zat,za8];omega
def Xh (ok:GX P w H h):∀ {ps:List YY},(∀p∈ps,tO H p)->∃qs:List (Key×Value×Value),Paired (λ(p:YY) (q:Key×Value×Value)=>p.κ=q.1/\RelV p.v q.2.2) ps qs/\
 ∀(j:Nat) q,qs[j]?=some q->(AL P w).is q.1 q.2.1=true/\∃t,(ps.map λ p=>zb7 p.t)[j]?=some (.ref t)/\IsTup h t #[q.2.1,q.2.2]
 |[],_=>⟨[],.nil,λ j q e=>by simp at e⟩
 |p::ps,ho=>by
  obtain⟨qs,h1,h2⟩:=Xh ok λ p hp=>ho p (za4 _ hp);have o1:=ho p za3;obtain⟨_,aa,r,it⟩:=(show Bk P w H h p.t (.tup [kV p.κ,p.v]) from ok p.t _ o1);obtain⟨u,v,rfl,ru,rv⟩:=r.two;refine⟨(p.κ,u,v)::qs,.cons ⟨rfl,rv⟩ h1,λ j q e=>?_⟩;cases j with
  |zero =>
   rw[zcn] at e;cases e;exact⟨Kd ru,p.t,by simp,it⟩
  |succ j =>
   rw[zb5] at e;obtain⟨a1,t,a2,a3⟩:=h2 j q e;exact⟨a1,t,by simpa using a2,a3⟩
section
variable {c:Bool}{P:Addr->Prop}{H:Hp}{a b:Expr}{f g:Ah->M D}{te:TE}
def gD (hc:X.calm=true)(hg:Gl X "dict")(hm:X.mg "dict" = none)(he:PE X e te)(hv:bootBuiltins "dict" = some (.type "dict"):=by decide +kernel)(hs: ~~~(starEach [e] X.env=[(false,eval e X.env)])):
 PE X (.Call (.Name "dict" p) [e] [] pos) (tDK X te):=by
 intro pins s σ H Q I h;refine wpAny_Call_Name_kw (DY I hg hm hv ?_);refine zbj ?_ hs;rw[hs];refine zby (B9 (he pins s σ H _ I h) λ u s1 zz=>?_);obtain⟨x,H1,I1,r1,q1⟩:=zz;obtain⟨l,ps,rfl,hq,ho,hlen,q⟩:=q1;cases r1;refine zcc ?_;obtain⟨aa,r',pl,hz⟩:=I1.list hq;have hits:=Ui r';subst hits;obtain⟨⟨qv,ju,jv,ga⟩,n0,o1,o2,o3,o4⟩:=pl;dsimp only at o2 o3 o4;subst o2 o3 o4;obtain⟨qs,h1,h2⟩:=Xh I1.AF ho;refine Oz (yI (knd:=AL X.prog X.w)) qs (I1.ok.hd hc) (by rw[zac,za2,<-h1.length]) (AA (by rw[zac,za2];omega)) o1 (λ j p hj=>?_) λ h' tk hd kp=>?_
 ·obtain⟨a1,t,a2,a3⟩:=h2 j p hj;exact⟨a1,t,by rw[List.getElem?_toArray];exact a2,a3⟩
 ·have qw:=oM h1 (show KV [] [] from .nil);have d5:s1.heap.objs.size<=s1.heap.objs.size:=zaf _;have bv:=I1.AF.fresh d5;have mt:=Xg ps [];exact⟨.ref _,_,I1.laid (t':=tk) (o:=.dK (mS ps)) kp d5 ⟨zbo (AA (by unfold mS;simp at mt;omega)),beq_eq_false_iff_ne.mpr (zbl (zax I1.big)),_,qw,hd⟩,rfl,q _ bv⟩
abbrev YZ (d:D):M OT:=match d with
 | .lst xs=>(match Sd xs with|some l=>if l.length<=1000/\(l.all λ kv=>keyOk false kv.1)=true then .ok (.BN false (lP l).1 ((lP l).2.map .sh)) else .bad|none=>.bad)
 |_=>.bad
def Xi {K:za1}{H:Hp}{P:Addr->Prop}:∀ {xs:List V}{ds:List D}{l:List (D×D)},Ak K (del H P) xs ds->Sd ds=some l->(l.all λ kv=>keyOk false kv.1)=true->
 ∃ps:List YY,xs=ps.map (λ p=>V.ref p.t)/\(∀p∈ps,tO H p)/\Paired (λ(p:YY) (kv:D×D)=>kv.1=Cn p.κ/\BF K (del H P) p.v kv.2) ps l
 |_,[],l,.nil,e,_=>by cases e;exact⟨[],rfl,λ p hp=>(by cases hp),.nil⟩
 |_,d::ds,l,.cons hd ht,e,hk=>by
  unfold Sd at e;split at e
  ·rename_i bN;cases bN
  ·rename_i k v r bN;cases bN;obtain⟨l',e1,e2⟩:=zce.mp e;subst e2;rw[List.all_cons,zb4] at hk;obtain⟨ps,q1,q2,q3⟩:=Xi ht e1 hk.2;have hK:=DH hk.1;cases hK with
   |k κ =>
    cases hd with
    | @tup tt _ _ h1 h2 =>
     obtain⟨x,y,rfl,hx,hy⟩:=h2.two;have ex:=hx.kJ;subst ex;refine⟨⟨tt,κ,y⟩::ps,by rw[za6,q1],λ p hp=>?_,.cons ⟨rfl,hy⟩ q3⟩;rcases zab.mp hp with rfl|hp
     ·exact (Al h1).2
     ·exact q2 p hp
  ·cases e
def Xj {K:za1}{H:Hp}{P:Addr->Prop}:∀ {ps:List YY}{l:List (D×D)}{kvs:List (Key×V)}{vs:List D},Paired (λ(p:YY) (kv:D×D)=>kv.1=Cn p.κ/\BF K (del H P) p.v kv.2) ps l->Ak K (del H P) (kvs.map zbu) vs->
 ∃aB,l.foldl (λ z kv=>putD z.1 z.2 kv.1 kv.2) (kvs.map (λ kv=>Cn kv.1),vs)=((ps.foldl (λ acc p=>putK acc p.κ p.v) kvs).map (λ kv=>Cn kv.1),aB)/\Ak K (del H P) ((ps.foldl (λ acc p=>putK acc p.κ p.v) kvs).map zbu) aB
 |[],_,kvs,vs,.nil,h=>⟨vs,rfl,h⟩
 |p::ps,_,kvs,vs,.cons (b:=kv) hq t,h=>by
  obtain⟨k,d⟩:=kv;obtain⟨e1,e2⟩:=hq;dsimp only at e1 e2;subst e1;have aU:∃aB,(putD (kvs.map λ kv=>Cn kv.1) vs (Cn p.κ) d)=((putK kvs p.κ p.v).map (λ kv=>Cn kv.1),aB)/\Ak K (del H P) ((putK kvs p.κ p.v).map zbu) aB:=by
   unfold putD putK;rw[Kq (fk:=Cn) HN];by_cases hh:(kvs.any λ kv=>decide (kv.1=p.κ))=true
   ·rw[if_pos hh,if_pos hh];refine⟨_,by rw[HQ (fk:=Cn) HN],?_⟩;rw[<-HP (fk:=Cn) HN];exact HR e2 h
   ·rw[if_neg hh,if_neg hh];refine⟨_,by rw[zas];rfl,?_⟩;rw[zas];exact h.snoc e2
  obtain⟨xg,g1,g2⟩:=aU;obtain⟨qx,g3,g4⟩:=Xj t g2;refine⟨qx,?_,g4⟩;rw[zat];dsimp only;rw[g1];exact g3
def Uj (hc:X.calm=true)(hg:Gl X "dict")(hm:X.mg "dict" = none)(he:DE X WX true e f)(hv:bootBuiltins "dict" = some (.type "dict"):=by decide +kernel)(hs: ~~~(starEach [e] X.env=[(false,eval e X.env)])):
 DN X WX (.Call (.Name "dict" p) [e] [] pos) (λ ρ=>(f ρ).bind YZ):=by
 obtain⟨te,e1,e2⟩:=he;refine⟨_,gD hc hg hm e1 hv hs,λ P0 P σ H Q ρ E h=>?_⟩;refine e2 P0 P σ H _ ρ E ?_;dsimp only at h;refine XR h λ d h=>?_;intro v H1 s1 hv;unfold YZ at h;split at h
 ·rename_i xs;split at h
  ·rename_i l eb;split at h
   ·rename_i hl;cases hv with
    |lst hs hh =>
     obtain⟨ps,q1,q2,q3⟩:=Xi hh eb hl.2;subst q1;obtain⟨aB,g1,g2⟩:=Xj (kvs:=[]) q3 .nil;refine⟨_,ps,rfl,hs.Bf,q2,by rw[q3.length];exact hl.1,λ r hr=>?_⟩;have e3:lP l=((mS ps).map (λ kv=>Cn kv.1),aB):=g1;rw[e3] at h;have aR:∀a∈[r],H1 a=none:=λ a ha=>by rw[za9.mp ha];exact hr
     exact h _ [r] _ (s1.trans (AK hr _)) (λ a ha=>Di s1 (aR a ha)) (by simp) (.dK An (g2.mono (Ca (AK hr _) aR)).ows)
   ·exact h.elim
  ·exact h.elim
 ·exact h.elim
end
def Be.tP {K}(ok:Be m rs L A K):∀p c,Ao (Hu A K) p=some c->p.1∈L/\p.2∈L:=λ p c h=>by
 have hm:=OL h;unfold Hu at hm;obtain⟨q,hq,e⟩:=zar.mp hm;cases e;have:=ok.V1 hq;exact⟨(B8 ok.pm).mpr this.2.1,(B8 ok.pm).mpr this.2.2⟩
def Be.yJ {K}(ok:Be m rs L A K):∀p c,Ao (Qq (Hu A K)) p=some c->p.1∈L/\p.2∈L:=λ p c h=>by
 rw[show p=(p.1,p.2) from rfl,KS] at h;have:=ok.tP _ _ h;exact⟨this.2,this.1⟩
def mT (R:RA):tM (YQ R)=.ok (R.map λ kv=>D.int kv.1):=rfl
def mU (R:RA):gC (YQ R)=.ok (.lst ((R.map λ kv=>cst (some kv.2)).map .sh)):=rfl
def tQ (ha:0<=a/\a<Rb)(hb:0<=b/\b<Rb)(hg:0<=g/\g<Rb)(h0:0<=i)(h1:i<8):∃l:Option Int,AI (.lst [.Ax,.int 0,.int 0,.int 1,.int a,.int a,.int b,.int g]) (.int i)=.ok (E5 l)/\∀z,l=some z->0<=z/\z<Rb:=by
 have ht:=VL;have hi:i=0\/i=1\/i=2\/i=3\/i=4\/i=5\/i=6\/i=7:=by omega
 rcases hi with rfl|rfl|rfl|rfl|rfl|rfl|rfl|rfl
 ·exact⟨none,rfl,λ z e=>by cases e⟩
 ·exact⟨some 0,rfl,λ z e=>by cases e;omega⟩
 ·exact⟨some 0,rfl,λ z e=>by cases e;omega⟩
 ·exact⟨some 1,rfl,λ z e=>by cases e;omega⟩
 ·exact⟨some a,rfl,λ z e=>by cases e;exact ha⟩
 ·exact⟨some a,rfl,λ z e=>by cases e;exact ha⟩
 ·exact⟨some b,rfl,λ z e=>by cases e;exact hb⟩
 ·exact⟨some g,rfl,λ z e=>by cases e;exact hg⟩
def VW (cs:List Int):GZ 0 (cs.map D.int)=(zb8 cs.length).map λ i:Nat=>D.tup [.int (i:Int),.int (cs.getD i 0)]:=by
 apply zd0;intro i;rw[zaw];by_cases hi:i<cs.length
 ·obtain⟨e,he⟩:∃e,(GZ 0 (cs.map D.int))[i]?=some e:=⟨_,za7 (by rw[CM,za2];exact hi)⟩;obtain⟨d,hd,rfl⟩:=FL he;rw[he,List.getElem?_range hi];rw[zaw,za7 hi] at hd;cases hd;rw[zbw,zbb,Nat.zero_add,za7 hi];rfl
 ·rw[zbn (by rw[CM,za2];omega),zbn (by rw[zc4];omega)];rfl
def Mt (rs:List Road):Vt 16 (.lst (rs.map Bx)) (.lst [])=.ok (.bl (decide (rs≠[]))):=by
 have h1:Pl 16 (.lst (rs.map Bx)):=(O8 (n:=1) λ d hd=>by
  obtain⟨r,_,rfl⟩:=zar.mp hd;exact oC r).le (by decide)
 have h2:Pl 16 (.lst ([]:List D)):=(O8 (n:=1) λ d hd=>by cases hd).le (by decide);rw[Oa h1 h2];cases rs with
 |nil=>rfl
 |cons r q=>simp[Br,C9]
abbrev Cu (R1 R2:RA):RA:=R1.filterMap λ kv=>(Ao R2 kv.1).map λ c=>(kv.1,(kv.2.1+c.1,kv.2.2+c.2))
def Dn (R2:RA):∀R1:RA,((Cu R1 R2).map zay).Sublist (R1.map zay)
 |[]=>.slnil
 |kv::r=>by
  unfold Cu;rw[zc5];cases Ao R2 kv.1 with
  |none=>exact (Dn R2 r).cons _
  |some c=>exact (Dn R2 r).cons₂ _
def OR {R2:RA}{p:Int}:∀ {R1:RA},(R1.map zay).Nodup->Ao (Cu R1 R2) p=AD (Ao R1 p) (Ao R2 p)
 |[],_=>by simp only[Cu,List.filterMap_nil,Ao];rfl
 |(k,v)::r,hn=>by
  rw[za6,zbc] at hn;have ih:=OR (R2:=R2) (p:=p) hn.2;by_cases hk:k=p
  ·subst hk;have n1:Ao (Cu r R2) k=none:=by
    cases q:Ao (Cu r R2) k with
    |none=>rfl
    |some c=>exact absurd ((Dn R2 r).subset (GB.mp (by rw[q];rfl))) hn.1
   have e2:Ao ((k,v)::r) k=some v:=by simp[Ao]
   rw[e2];unfold Cu;rw[zc5];cases q:Ao R2 k with
   |none=>exact n1
   |some c=>simp[Ao,AD]
  ·have e2:Ao ((k,v)::r) p=Ao r p:=by simp[Ao,hk]
   rw[e2,<-ih];unfold Cu;rw[zc5];cases q:Ao R2 k with
   |none=>rfl
   |some c=>simp[Ao,hk]
def Rc (R2:RA):∀R1:RA,((R1.filter λ kv=>(Ao R2 kv.1).isSome).map λ kv=>D.tup [.int kv.1,cst (AD (some kv.2) (Ao R2 kv.1))])=(Cu R1 R2).map λ kv=>D.tup [.int kv.1,cst (some kv.2)]
 |[]=>rfl
 |kv::r=>by
  have ih:=Rc R2 r;unfold Cu at ih ⊢;rw[zc5];cases q:Ao R2 kv.1 with
  |none=>rw[List.filter_cons_of_neg (by rw[q];simp)];exact ih
  |some c=>rw[List.filter_cons_of_pos (by rw[q];rfl),za6,ih,q];rfl
def oN:∀(C C0:RA),((C0++C).map zay).Nodup->(C.map λ kv=>(D.int kv.1,cst (some kv.2))).foldl (λ z kv=>putD z.1 z.2 kv.1 kv.2) (C0.map (λ kv=>D.int kv.1),C0.map λ kv=>cst (some kv.2))=((C0++C).map (λ kv=>D.int kv.1),(C0++C).map λ kv=>cst (some kv.2))
 |[],C0,_=>by simp
 |kv::C,C0,hn=>by
  obtain⟨p,c⟩:=kv;rw[za6,zat];dsimp only;have h0:Ao C0 p=none:=by
   rw[Ub];intro hm;rw[zas,zav] at hn;exact hn.2.2 p hm p (by simp) rfl
  have e:CF C0 p c=C0++[(p,c)]:=by unfold CF;rw[h0];rfl
  rw[Ic (vf:=λ c=>cst (some c)) EM,e,oN C (C0++[(p,c)]) (by rw[zbk];exact hn),zbk];rfl
def tR (hn:(C.map zay).Nodup)(hl:C.length<=1000):YZ (.lst (C.map λ kv=>.tup [.int kv.1,cst (some kv.2)]))=.ok (VQ C):=by
 unfold YZ;dsimp only;rw[NL (λ kv:Int×(Int×Int)=>D.int kv.1) (λ kv=>cst (some kv.2))];dsimp only;have e:=oN C [] hn;rw[if_pos ⟨by rw[za2];exact hl,by rw[List.all_map];exact List.all_eq_true.mpr λ x _=>rfl⟩];have e2:lP (C.map λ kv=>(D.int kv.1,cst (some kv.2)))=(C.map (λ kv=>D.int kv.1),C.map λ kv=>cst (some kv.2)):=e;rw[e2];rfl
def KO.front (hr:rk s<rk y)(ha:Cf s y=some d)(u:KO Cf rk y t c):KO Cf rk s t (d.1+c.1,d.2+c.2):=by
 induction u with
 |nil =>
  have:=KO.snoc (KO.nil (Af:=Cf) (rk:=rk) (s:=s)) hr ha;simpa using this
 | @snoc x z c e hu bw b7 ih =>
  have:=KO.snoc ih bw b7;rwa[zd3,zd3] at this
def Si.up (h:Si Cf rk t n x c):KO (λ a b=>Cf b a) rk x t c:=by
 induction h with
 |nil=>exact .nil
 | @snoc n x y c d hd hr ha ih =>
  have:=KO.front (Cf:=λ a b=>Cf b a) hr ha ih;rwa[Int.add_comm d.1,Int.add_comm d.2] at this
def mV (h:NJ a c)(k:NJ b d):NJ (a.1+b.1,a.2+b.2) (c.1+d.1,c.2+d.2):=by
 unfold NJ at *;simp only;omega
def OS:BQ a (some q)↔∃p,a=some p/\NJ p q:=by
 constructor
 ·exact OJ
 ·rintro ⟨p,rfl,h⟩;unfold NJ at h;unfold BQ;simp only;omega
def gE {K}{s g:Int}{R1 R2}(ok:Be m rs L A K)(hs:0<=s/\s<m)(hg:0<=g/\g<m)(h1:Qa L (Hu A K) s L.length R1)(h2:Qa L (Qq (Hu A K)) g L.length R2)(hx:By rs s g x):
 Hr ((Cu R1 R2).map λ kv=>some kv.2)=x:=by
 have u1:=h1.upC (m:=m) ok.tP;have u2:=h2.upC (m:=m) ok.yJ;have ef:(λ x y=>Ao (Qq (Hu A K)) (x,y))=λ x y=>Ao (Hu A K) (y,x):=by funext x y;exact KS x y _
 rw[ef] at u2;have mem:∀p c,Ao (Cu R1 R2) p=some c->some c∈(Cu R1 R2).map λ kv=>some kv.2:=λ p c h=>zar.mpr ⟨_,OL h,rfl⟩;have walk:∀p c,Ao (Cu R1 R2) p=some c->Wk rs s g c:=λ p c h=>by
  rw[OR h1.nd] at h;cases q1:Ao R1 p with
  |none=>rw[q1] at h;cases h
  |some a =>
   cases q2:Ao R2 p with
   |none=>rw[q1,q2] at h;cases h
   |some b =>
    rw[q1,q2] at h;cases h;have w1:=((u1.sd p a q1).of_kept ok.kept).walk ok.Zh;have w2:=(((u2.sd p b q2).of_kept ok.kept.turn).walk ok.Zh.turn).turn;rw[FW] at w2;exact w1.trans w2
 have f8:((Cu R1 R2).map zay).Nodup:=(Dn R2 R1).nodup h1.nd;have walk2:∀v∈(Cu R1 R2).map (λ kv=>some kv.2),BQ x v:=λ v hv=>by
  obtain⟨kv,hk,rfl⟩:=zar.mp hv;exact hx.1 _ (walk kv.1 kv.2 (Sk f8 hk))
 refine X7 walk2 λ ad=>?_;cases x with
 |none=>exact absurd rfl ad
 |some c =>
  obtain⟨t,n,c1,c2,g1,g2,e⟩:=U9 ok.Zh ok.kept hx;obtain⟨p1,q1,l1⟩:=OS.mp (u1.le g1);obtain⟨p2,q2,l2⟩:=OS.mp (u2.le g2.up);have hf:Ao (Cu R1 R2) t=some (p1.1+p2.1,p1.2+p2.2):=by rw[OR h1.nd,q1,q2];rfl
  exact⟨_,mem t _ hf,OS.mpr ⟨_,rfl,by rw[e];exact mV l1 l2⟩⟩
def oO (p:Int×Int):Pl (n+1) (pD p):=S4 (Dy (Ci _) (Dy (Ci _) S5))
def tS (p q:Int×Int):XU 16 (pD p) (pD q)=.ok (.bl (decide (p=q))):=by rw[O9 (oO (n:=15) p) (oO (n:=15) q),HZ]
abbrev gF (rs:List Road)(p c:Int×Int)(i:Nat):Bool:=match rs[i]? with
 |some r=>decide (r.a=p.1/\r.b=p.2/\CT r=some c)
 |none=>false
abbrev OU (rs:List Road)(p c:Int×Int):Nat:=((zb8 rs.length).filter (gF rs p c)).headD 0
def Xk (h:∃r∈rs,r.a=p.1/\r.b=p.2/\CT r=some c):∃(r:Road) (t:List Nat),(zb8 rs.length).filter (gF rs p c)=OU rs p c::t/\rs[OU rs p c]?=some r/\r.a=p.1/\r.b=p.2/\CT r=some c:=by
 obtain⟨r,hr,h1⟩:=h;obtain⟨i,hi⟩:=List.mem_iff_getElem?.mp hr;have hm:i∈(zb8 rs.length).filter (gF rs p c):=zb9.mpr ⟨zcb.mpr (zae.mp hi).1,by unfold gF;rw[hi];exact decide_eq_true h1⟩;unfold OU;cases q:(zb8 rs.length).filter (gF rs p c) with
 |nil=>rw[q] at hm;cases hm
 |cons n t =>
  have hn:n∈(zb8 rs.length).filter (gF rs p c):=by rw[q];exact za3
  have hb:=(zb9.mp hn).2;unfold gF at hb;cases z:rs[n]? with
  |none=>rw[z] at hb;cases hb
  |some r' =>
   rw[z] at hb;have aE:r'.a=p.1/\r'.b=p.2/\CT r'=some c:=by simpa using hb
   exact⟨r',t,rfl,z,aE⟩
abbrev oP (rs:List Road)(A:LA):Nat->Int×Int->List Nat
 |0,_=>[]
 |k+1,p=>match Ao A p with
  |none=>[]
  |some (c,none)=>[OU rs p c]
  |some (_,some q)=>oP rs A k (p.1,q)++oP rs A k (q,p.2)
abbrev Uk (L:List Int)(p:Int×Int):Nat:=min (BR L p.1) (BR L p.2)
inductive OV (rs:List Road):Int->List Nat->Int->Int->Prop
 |nil (x:Int):OV rs x [] x 0
 |cons {x y l s:Int} {n:Nat} {N:List Nat} {r:Road}:rs[n]?=some r->r.a=x->r.l=some l->OV rs r.b N y s->OV rs x (n::N) y (l+s)
def OV.wR {M}(h:OV rs x N q s)(k:OV rs q M y t):OV rs x (N++M) y (s+t):=by
 induction h with
 |nil x=>simpa using k
 |cons h1 h2 h3 _ ih =>
  have:=OV.cons h1 h2 h3 (ih k);simpa [zd3] using this
def OV.inv (h:OV rs x (n::N) y s):∃r l t,rs[n]?=some r/\r.a=x/\r.l=some l/\OV rs r.b N y t/\s=l+t:=by
 cases h with
 |cons h1 h2 h3 h4=>exact⟨_,_,_,h1,h2,h3,h4,rfl⟩
section
variable {m:Nat}{A:LA}{K:List (Int×Int)}
def Ja (ok:Be m rs L A K)(h:Ao A p=some (c,mid)):(p.1∈L/\p.2∈L/\p.1≠p.2)/\(mid=none->∃r∈rs,r.a=p.1/\r.b=p.2/\CT r=some c)/\∀q,mid=some q->BR L q<Uk L p/\q∈L/\∃a b ma mb,Ao A (p.1,q)=some (a,ma)/\Ao A (q,p.2)=some (b,mb)/\c=(a.1+b.1,a.2+b.2):=by
 obtain⟨x,y⟩:=p;have hn:=GA ok.pm;rw[ok.la] at h;have jx:Ab (Bu rs L) (x,y)=some c:=by unfold Ab;rw[h];rfl
 obtain⟨_,ad,mx,ck⟩:=(KR ok.pm ok.ok).2.snd x y c jx;have hx:=(B8 ok.pm).mpr mx;have hy:=(B8 ok.pm).mpr ck;have hf:=YT (rs:=rs) hn hx hy ad;have h0:∀c p,Ao (lay0 rs) (x,y)≠some (c,some p):=λ c p h=>by cases (Xe rs x y c _ h).1
 have hF:=tJ (cd:=λ p=>AD (Ab (Bu rs L) (x,p)) (Ab (Bu rs L) (p,y))) h0 (L.take (min (BR L x) (BR L y)));unfold mL at hf;rw[<-hf] at hF;refine⟨⟨hx,hy,ad⟩,λ e=>?_,λ q e=>?_⟩
 ·subst e;exact (Xe rs x y c none (hF.Ax c h)).2
 ·subst e;obtain⟨⟨W1,W2,e1,e2,_⟩,_⟩:=hF.mid c q h;have hq:q∈L.take (min (BR L x) (BR L y)):=by rw[e1];simp
  obtain⟨q1,q2⟩:=Ug hn hq;obtain⟨a,b,ha,hb,rfl⟩:=EA e2;have ex:∀ {z:Int×Int} {d:Int×Int},Ab (Bu rs L) z=some d->∃md,Ao A z=some (d,md):=fun {z d} hd=>by
   rw[ok.la];unfold Ab at hd;cases w:Ao (Bu rs L) z with
   |none=>rw[w] at hd;cases hd
   |some v=>rw[w] at hd;cases hd;exact⟨v.2,rfl⟩
  obtain⟨ma,h1⟩:=ex ha;obtain⟨mb,h2⟩:=ex hb;exact⟨q2,q1,a,b,ma,mb,h1,h2,rfl⟩
def gH (h:BR L q<Uk L p):Uk L (p.1,q)=BR L q/\Uk L (q,p.2)=BR L q:=by
 unfold Uk at *;dsimp only;omega
def KW (ok:Be m rs L A K):∀(k k':Nat) (p:Int×Int),Uk L p<k->Uk L p<k'->oP rs A k p=oP rs A k' p
 |0,_,_,h,_|_+1,0,_,_,h=>absurd h (Nat.not_lt_zero _)
 |k+1,k'+1,p,h,h'=>by
  unfold oP;cases q:Ao A p with
  |none=>rfl
  |some z =>
   obtain⟨c,mid⟩:=z;cases mid with
   |none=>rfl
   |some v =>
    obtain⟨_,_,h3⟩:=Ja ok q;obtain⟨hv,_,_⟩:=h3 v rfl;obtain⟨e1,e2⟩:=gH hv;dsimp only;rw[KW ok k k' (p.1,v) (by omega) (by omega),KW ok k k' (v,p.2) (by omega) (by omega)]
abbrev CG (rs:List Road)(L:List Int)(A:LA)(p:Int×Int):List Nat:=oP rs A (Uk L p+1) p
def Ul (ok:Be m rs L A K)(h:Ao A p=some (c,some v)):CG rs L A p=CG rs L A (p.1,v)++CG rs L A (v,p.2):=by
 obtain⟨_,_,h3⟩:=Ja ok h;obtain⟨hv,_,_⟩:=h3 v rfl;obtain⟨e1,e2⟩:=gH hv
 conv=>lhs;unfold CG oP;rw[h]
 dsimp only;unfold CG;rw[KW ok (Uk L p) (Uk L (p.1,v)+1) (p.1,v) (by omega) (by omega),KW ok (Uk L p) (Uk L (v,p.2)+1) (v,p.2) (by omega) (by omega)]
def Rf (h:Ao A p=some (c,none)):CG rs L A p=[OU rs p c]:=by
 unfold CG oP;rw[h]
structure yK (rs:List Road)(L:List Int)(p c:Int×Int)(N:List Nat):Prop where
 ch:OV rs p.1 N p.2 c.1
 ln:(N.length:Int)=c.2
 ne:1<=N.length
 up:N.length<=2^Uk L p
 lo:∀n∈N.tail,∀r,rs[n]?=some r->BR L r.a<Uk L p
def LY (ok:Be m rs L A K):∀(k:Nat){p c:Int×Int}{mid:Option Int},Uk L p=k->Ao A p=some (c,mid)->yK rs L p c (CG rs L A p):=by
 intro k;induction k using Nat.strongRecOn with
 |ind k ih =>
  intro p c mid hk h;obtain⟨_,h2,h3⟩:=Ja ok h;cases mid with
  |none =>
   rw[Rf h];obtain⟨r,t,_,hr,ha,hb,hc⟩:=Xk (h2 rfl);obtain⟨l,hl,rfl⟩:=KI hc;refine⟨?_,rfl,zaf _,Nat.one_le_two_pow,λ n hn=>by cases hn⟩;have:=OV.cons hr ha hl (.nil r.b);rw[hb] at this;simpa using this
  |some v =>
   obtain⟨hv,_,a,b,ma,mb,f1,f2,rfl⟩:=h3 v rfl;obtain⟨e1,e2⟩:=gH hv;have u1:=ih (BR L v) (by omega) e1 f1;have u2:=ih (BR L v) (by omega) e2 f2;rw[Ul ok h];have p2:2^(BR L v)+2^(BR L v)<=2^Uk L p:=by
    have:2^(BR L v+1)<=2^Uk L p:=Nat.pow_le_pow_right (by decide) (by omega);rw[Nat.pow_succ] at this;omega
   have l1:=u1.up;have l2:=u2.up;rw[e1] at l1;rw[e2] at l2;refine⟨u1.ch.wR u2.ch,?_,?_,?_,λ n hn r hr=>?_⟩
   ·rw[zah,Int.natCast_add,u1.ln,u2.ln]
   ·rw[zah];have:=u1.ne;omega
   ·rw[zah];omega
   ·have n1:=u1.ne;rcases zal.mp (by
     have:(CG rs L A (p.1,v)++CG rs L A (v,p.2)).tail=(CG rs L A (p.1,v)).tail++CG rs L A (v,p.2):=by
      cases q:CG rs L A (p.1,v) with
      |nil=>rw[q] at n1;cases n1
      |cons x xs=>rfl
     rw[this] at hn;exact hn) with hn|hn
    ·have:=u1.lo n hn r hr;omega
    ·cases q:CG rs L A (v,p.2) with
     |nil=>rw[q] at hn;cases hn
     |cons x xs =>
      rw[q] at hn;rcases zab.mp hn with rfl|hn
      ·have ch:=u2.ch;rw[q] at ch;obtain⟨r',_,_,g1,g2,_⟩:=ch.inv;rw[g1] at hr;cases hr;rw[g2];exact hv
      ·have:=u2.lo n (by rw[q];exact hn) r hr;omega
end
def Rg (rs:List Road):GZ 0 (rs.map Bx)=(zb8 rs.length).map λ i:Nat=>D.tup [.int (i:Int),Bx (rs.getD i ⟨0,0,none,0⟩)]:=by
 apply zd0;intro i;rw[zaw];by_cases hi:i<rs.length
 ·obtain⟨e,he⟩:∃e,(GZ 0 (rs.map Bx))[i]?=some e:=⟨_,za7 (by rw[CM,za2];exact hi)⟩;obtain⟨d,hd,rfl⟩:=FL he;obtain⟨r,hr,rfl⟩:=BJ hd;rw[he,List.getElem?_range hi,zbw,zbb,hr,Nat.zero_add];rfl
 ·rw[zbn (by rw[CM,za2];omega),zbn (by rw[zc4];omega)];rfl
def Z0 (h:ρ[i]?=some (some (.own (xs++[d])))):eS i ρ [] (xs++[d])=.ok (ρ.set i (some (.own xs)),.sh d):=by
 rw[X2 h (p:=none) (t:=.lst ((xs++[d]).map .sh)) rfl (d:=d) (by simp)];rw[HJ,List.dropLast_concat,toCl_list]
abbrev Um (rs:List Road)(L:List Int)(A:LA)(W:List (Int×Int)):List Nat:=W.flatMap (CG rs L A)
abbrev oQ (rs:List Road)(L:List Int)(A:LA):List (Int×Int)->Nat
 |[]=>0
 |p::W=>2*(CG rs L A p).length-1+oQ rs L A W
def Sr {K}(ok:Be m rs L A K):∀ {W:List (Int×Int)},(∀p∈W,(Ao A p).isSome=true)->W.length<=(Um rs L A W).length
 |[],_=>zaf _
 |p::W,h=>by
  obtain⟨z,hz⟩:=zbv.mp (h p za3);have:=(LY ok _ (c:=z.1) (mid:=z.2) rfl hz).ne;have ih:=Sr ok λ q hq=>h q (za4 _ hq);show W.length+1<=(CG rs L A p++Um rs L A W).length;rw[zah];omega
section
variable {c:Bool}{a b d:Expr}{f g h:Ah->M D}
def Z1 {p q:Int->Int->Bool}(ho:Gf X (compareOp op) (Zd λ i j=>.bl (p i j)))(aH:Gf X (compareOp bj) (Zd λ i j=>.bl (q i j)))(ha:DE X WX c a f)(hb:DE X WX c b g)(hd:DE X WX c d h)(hm:lastMarks [op,bj] [b,d]=false:=by with_unfolding_all rfl):DT X WX (.Compare a [op,bj] [b,d] pos) (λ ρ=>((f ρ).bind λ x=>(g ρ).bind λ y=>Bh (λ i j=>if p i j=true then (h ρ).bind λ z=>Bh (λ _ k=>.ok (.bl (q j k))) (.int 0) z else .ok (.bl false)) x y).bind SQ):=by
 obtain⟨ta,a1,a2⟩:=ha;obtain⟨tb,b1,b2⟩:=hb;obtain⟨td,d1,d2⟩:=hd;refine⟨_,ZE ho aH a1 b1 d1 hm,λ P0 P σ H Q0 ρ E xl=>?_⟩;unfold ZA;have hh:=nR (K:=X.K) (P:=Lv c P0 P) xl;refine a2 P0 P σ H _ ρ E ?_;cases e:f ρ with
 |bad|ex x=>rw[e] at hh;exact hh
 |ok x =>
  rw[e] at hh;intro v H1 s1 hv;refine b2 P0 P σ H1 _ ρ (E.same s1) ?_;cases e2:g ρ with
  |bad=>rw[e2] at hh;exact hh
  |ex y=>rw[e2] at hh;exact gV.same (m:=.ex y) hh s1
  |ok y =>
   rw[e2] at hh;simp only[M.A8] at hh;unfold Bh at hh;split at hh
   ·rename_i i j;intro w H2 s2 hw;refine⟨i,j,hv.int_inv,hw.int_inv,p i j,rfl,?_⟩;dsimp only at hh;by_cases hp:p i j=true
    ·rw[if_pos hp] at hh ⊢;refine d2 P0 P σ H2 _ ρ ((E.same s1).same s2) ?_;cases e3:h ρ with
     |bad=>rw[e3] at hh;exact hh
     |ex z=>rw[e3] at hh;exact gV.same (gV.same (m:=.ex z) hh s1) s2
     |ok z =>
      rw[e3] at hh;simp only[M.A8] at hh;cases z with
      |int k=>exact λ u H3 s3 hu=>⟨j,k,hw.int_inv,hu.int_inv,hh _ H3 ((s1.trans s2).trans s3) (.bl _)⟩
      |_=>exact hh.elim
    ·rw[if_neg hp] at hh ⊢;exact hh _ H2 (s1.trans s2) (.bl _)
   ·exact hh.elim
end
section
variable {a:Expr}{i:Nat}{fp:Ah->M (List Nat)}
def Rh (ha:DP X WX a i fp)(bo: ~~~(swapsWith (.Call (.Attribute a "clear" apos) [] [] ac) none pos.line X.env=pure false))(aj: ~~~(attributeBase a "clear" X.env (eval a X.env)=eval a X.env))(ak: ~~~((apos.endLine==ac.line)=true)):
 DS X WX (.Expr (.Call (.Attribute a "clear" apos) [] [] ac) pos) (λ ρ=>(fp ρ).bind λ π=>(DJ i ρ π).bind λ _=>Jf i ρ π (.lst [])):=by
 obtain⟨ta,a1,a2⟩:=ha;refine⟨_,Gd (ZQ zc9 PySem.F.slot_list_clear PySem.F.type_list_clear ZS a1 aj ak) bo,λ P0 P σ H Z ρ E h=>?_⟩;dsimp only at h;refine a2 P0 P σ H _ ρ E ?_;refine iF h E λ π h=>?_;intro v t1 H1 s1 pl;have E1:=E.same s1;cases q1:DJ i ρ π with
 |bad=>rw[q1] at h;exact h.elim
 |ex x=>unfold DJ at q1;split at q1<;>cases q1
 |ok ts =>
  rw[q1] at h;simp only[M.A8] at h;obtain⟨rfl,l,xs,fq,rfl,hl,ol,nl,uq⟩:=pl.lst E1 q1;refine⟨.inl ⟨rfl,xs,.of hl⟩,l,xs,rfl,rfl,hl,?_⟩;obtain⟨c,p,t0,g1,g2,E3,t3⟩:=E1.kH pl hl ol (us:=[]) (ys:=[]) .nil zbr (by simp) (λ b hb=>by cases hb);rw[J6 g1 g2] at h;exact h _ _ _ ((E.tr s1).trans t3) E3
end
def yL {α:Type}(l:List α):Y3 [.lst (l.map λ _=>D.bl true)]=.ok (.bl true):=by
 have e:(l.map λ _=>D.bl true)=(l.map λ _=>true).map D.bl:=by rw[zbx];rfl
 rw[e,U5];simp
def aa6 (n:Str)(N:List Str)(d:D)(ds:List D):CN (n::N) (d::ds)=some (.val d)::CN N ds:=by
 unfold CN;rw[za8,za8,Nat.add_sub_add_right];rfl
def aa7 (n:Str)(N:List Str):CN (n::N) []=none::CN N []:=rfl
def aa8:CN [] []=[]:=rfl
def OW (hr:r∈rs)(hl:r.l=some l)(w:Wk rs r.b g c)(h:By rs r.a g (some (l+c.1,1+c.2))):By rs r.b g (some c):=by
 refine⟨λ d hd=>?_,λ p hp=>by cases hp;exact w⟩;have:=h.1 _ (.cons hr hl hd);simp only[BQ] at this ⊢;omega
def Ss (AF:∀r∈rs,Sf m r/\r.a≠r.b)(h:Wk rs u g c)(hu:0<=u/\u<m):By rs u g (some c)->∃V:List Int,V.Nodup/\(V.length:Int)=c.2+1/\∀v∈V,(0<=v/\v<m)/\∃d,By rs v g (some d)/\d.2<=c.2:=by
 induction h with
 |nil u=>exact λ hm=>⟨[u],by simp,rfl,λ v hv=>by rw[za9.mp hv];exact⟨hu,_,hm,Int.le_refl _⟩⟩
 | @cons r l g c hr hl w ih =>
  intro hm;have ok:=(AF r hr).1;obtain⟨V,h1,h2,h3⟩:=ih ⟨ok.b0,ok.b1⟩ (OW hr hl w hm);refine⟨r.a::V,zbc.mpr ⟨λ z=>?_,h1⟩,by rw[za8];omega,λ v hv=>?_⟩
  ·obtain⟨_,d,hd,am⟩:=h3 _ z;have:=hd.C5 hm;cases this;omega
  ·rcases zab.mp hv with rfl|hv
   ·exact⟨hu,_,hm,Int.le_refl _⟩
   ·obtain⟨a,d,hd,am⟩:=h3 _ hv;exact⟨a,d,hd,by omega⟩
def Ig (AF:∀r∈rs,Sf m r/\r.a≠r.b){u:Int}(hu:0<=u/\u<m)(h:By rs u g (some c)):c.2<m:=by
 obtain⟨V,h1,h2,h3⟩:=Ss AF (h.2 c rfl) hu h;have:=FV h1 (u:=BC m) λ v hv=>by
  obtain⟨⟨a,b⟩,_⟩:=h3 v hv;exact zar.mpr ⟨v.toNat,zcb.mpr (by omega),by omega⟩
 rw[Ia] at this;omega
section
variable {m:Nat}{A:LA}{K:List (Int×Int)}
abbrev Z2 (A:LA)(T:List Co)(p:Int)(q:Int×Int):Bool:=decide (AD (Ab A q) (atC T q.2)=atC T p)
abbrev Mu (A:LA)(K:List (Int×Int))(T:List Co)(p:Int):List (Int×Int):=(K.filter λ q=>decide (q.1=p)).filter (Z2 A T p)
def Z3 (ok:Be m rs L A K){p:Int}(hT:∀w:Int,0<=w->w<m->By rs w g (atC T w))(hp:0<=p/\p<m)(ad:p≠g)(hc:atC T p=some cp):∃q r,Mu A K T p=q::r:=by
 have hm:=hT p hp.1 hp.2;rw[hc] at hm;have w:=hm.2 cp rfl
 suffices ∃q,q∈Mu A K T p by
  obtain⟨q,hq⟩:=this;cases e:Mu A K T p with
  |nil=>rw[e] at hq;cases hq
  |cons a r=>exact⟨a,r,rfl⟩
 cases w with
 |nil=>exact (ad rfl).elim
 | @cons r l _ c' hr hl w' =>
  have u8:=ok.ok r hr;have hb:=OW hr hl w' hm;have eb:atC T r.b=some c':=(hT r.b u8.1.b0 u8.1.b1).C5 hb;have e1:CT r=some (l,1):=by unfold CT;rw[hl]
  have hle:=ok.Zh.road r hr;rw[e1] at hle;obtain⟨d,hd,js⟩:=OJ hle;have wd:=(ok.Zh.snd _ _ _ hd).1;have h2:=hm.1 _ (wd.trans w');have ed:d=(l,1):=by
   simp only[BQ] at h2;unfold NJ at js;dsimp only at js;exact Prod.ext (by omega) (by omega)
  subst ed;have aW:By rs r.a r.b (some (l,1)):=⟨λ e he=>by
   have:=hm.1 _ (he.trans w');simp only[BQ] at this ⊢;omega,λ p hp=>by cases hp;exact wd⟩
  have hK:(r.a,r.b)∈K:=(ok.km _).mpr ⟨_,hd,aW⟩;refine⟨(r.a,r.b),zb9.mpr ⟨zb9.mpr ⟨hK,by simp⟩,?_⟩⟩;unfold Z2;dsimp only;rw[hc,eb,hd];simp[AD]
structure aa9 (m:Nat)(rs:List Road)(A:LA)(T:List Co)(p:Int)(cp:Int×Int)(q ca cq:Int×Int):Prop where
 a:q.1=p
 r:0<=q.2/\q.2<m
 c:Ab A q=some ca
 t:atC T q.2=some cq
 s:cp=(ca.1+cq.1,ca.2+cq.2)
def tT (ok:Be m rs L A K)(hc:atC T p=some cp)(h:Mu A K T p=q::r):∃ca cq,aa9 m rs A T p cp q ca cq:=by
 have hq:q∈Mu A K T p:=by rw[h];exact za3
 obtain⟨h1,h2⟩:=zb9.mp hq;obtain⟨h3,h4⟩:=zb9.mp h1;have e4:q.1=p:=by simpa using h4
 have e2:AD (Ab A q) (atC T q.2)=some cp:=by
  unfold Z2 at h2;rw[hc] at h2;simpa using h2
 obtain⟨a,b,ha,hb,e⟩:=EA e2;exact⟨a,b,e4,(ok.V1 h3).2.2,ha,hb,e⟩
end
def Mv {m g:Nat}(hT:T.length=m)(hU:U.length=m)(h1:∀w:Int,0<=w->w<m->By rs w g (atC T w))(h2:∀w:Int,0<=w->w<m->By rs w g (atC U w)):T=U:=by
 refine zd0 λ j=>?_;by_cases h:j<m
 ·have a:=Ep (cs:=T) (i:=(j:Int)) (by omega) (by omega);have b:=Ep (cs:=U) (i:=(j:Int)) (by omega) (by omega);rw[zbg] at a b;rw[a,b,(h1 j (by omega) (by omega)).C5 (h2 j (by omega) (by omega))]
 ·rw[zbn (by omega),zbn (by omega)]
abbrev EQ (N:List Nat):D:=.lst (N.map λ n:Nat=>D.int (n:Int))
abbrev C4 (x:Co)(N:List Nat)(T:List Co):D:=match x with | none=>.Ax | some c=>.tup [cst (some c),EQ N,.lst (T.map cst)]
section
variable {m:Nat}{A:LA}{K:List (Int×Int)}
def mW (ok:Be m rs L A K)(h:Mu A K T p=q::r):∃c,Ab A q=some c/\By rs q.1 q.2 (some c):=by
 have hq:q∈Mu A K T p:=by rw[h];exact za3
 obtain⟨h1,_⟩:=zb9.mp hq;obtain⟨h3,_⟩:=zb9.mp h1;exact (ok.km q).mp h3
end
abbrev oR (i:Nat)(ρ:Ah)(d:D)(t:OT):M Out:=match ρ[i]? with
 |some (some c)=>(match treeOf c with|some (_,u)=>.ok (.Cq (.ow (.tree none (.tup [.sh d,t,u]))))|none=>.bad)
 |_=>.bad
section
variable {a b:Expr}{f:Ah->M D}{aS:Pos}
def mX (i:Nat){k}(hv:PE X (.Name x p1) (Qf i))(ha:DE X WX true a f)(hb:DN X WX b fn)(h1: ~~~(starEach [a,b,.Name x p1] X.env=(false,eval a X.env)::starEach [b,.Name x p1] X.env))(h2: ~~~(starEach [b,.Name x p1] X.env=(false,eval b X.env)::starEach [.Name x p1] X.env))(h3: ~~~(starEach [.Name x p1] X.env=(false,eval (.Name x p1) X.env)::starEach [] X.env)):
 DS X WX (.Return (some (.Tuple [a,b,.Name x p1] k aS)) pos) (λ ρ=>(f ρ).bind λ d=>(fn ρ).bind λ t=>oR i ρ d t):=by
 obtain⟨ta,a1,a2⟩:=ha;obtain⟨tb,b1,b2⟩:=hb;refine⟨_,RI (Vg (Bc a1 (Bc b1 (Bc hv Cd h3) h2) h1)),λ P0 P σ H Z ρ E h=>?_⟩;dsimp only at h;refine a2 P0 P σ H _ ρ E ?_;cases q:f ρ with
 |bad=>rw[q] at h;exact h
 |ex x=>rw[q] at h;exact λ H' s=>h H' P (E.tr s)
 |ok d =>
  rw[q] at h;simp only[M.A8] at h;intro v H1 s1 xm;refine b2 P0 P σ H1 _ ρ (E.same s1) ?_;cases q2:fn ρ with
  |bad=>rw[q2] at h;exact h
  |ex x=>rw[q2] at h;exact λ H' s=>h H' P (E.tr (s1.trans s))
  |ok t =>
   rw[q2] at h;simp only[M.A8] at h;intro w fp H2 s2 n2 aL o2;unfold oR at h;split at h
   ·rename_i c e1;split at h
    ·rename_i p0 u e2;have io:Gk c=true:=by
      cases c with
      |val d=>cases e2
      |own ds|ow o=>rfl
     obtain⟨vi,fpi,g1,g2,g3,g4⟩:=E.ows i c e1 io;have ou:=g2.toT e2;refine⟨vi,g1,zbo (AA (by simp)),λ p hp=>?_⟩;have cj:∀a∈fp,H a=none:=λ a ha=>Di s1 (n2 a ha);have u9:=s1.trans s2;have S3:=u9.trans (AK hp (.tup [v,w,vi]));have va:=Gs (E.same u9).BX o2;have ad:∀a∈fp,a≠p:=λ a ha z=>(o2.BX a ha).no (by rw[z];exact hp);have vb:=o2.move (WS (o:=.tup [v,w,vi]) hp va) λ a ha=>Ai (ad a ha);have xn:=ou.move (Ca S3 cj) λ a ha=>by
      obtain⟨o,qo,_⟩:=E.BX a (g3 a ha).1;rw[qo];exact S3 _ _ qo
     have iy:=xm.mono (Ca (s2.trans (AK hp (.tup [v,w,vi]))) n2);refine h _ _ _ (PU P fp) (E.xB S3 cj) (λ a ha=>.inl (E.sub a ha)) (Gs (E.same S3).BX vb) (show BS X.K _ (PU P fp) (.ref p) (.tup [.sh d,t,u]) _ from .tup (xs:=[v,w,vi]) ?_ (.cons (.sh iy) (.cons vb (.cons xn .nil)))) (λ a ha=>?_) ?_
     ·rw[AB λ z=>(va p z).no hp];exact An
     ·rw[List.nil_append,zbi] at ha;rcases zal.mp ha with ha|ha
      ·exact⟨.inr ha,λ z=>(E.BX a (E.sub a z)).no (cj a ha)⟩
      ·exact⟨.inl (g3 a ha).1,(g3 a ha).2⟩
     ·rw[List.nil_append,zbi,zav];exact⟨aL,g4,λ a ha b hb e=>(E.BX b (g3 b hb).1).no (by rw[<-e];exact cj a ha)⟩
    ·exact h.elim
   ·exact h.elim
end
abbrev Fe (x:Co)(N:List Nat)(T:List Co):OT:=match x with
 |none=>.sh .Ax
 |some c=>.tup [.sh (cst (some c)),.lst ((N.map λ n:Nat=>D.int (n:Int)).map .sh),.lst ((T.map cst).map .sh)]
def Jb (x:Co)(N:List Nat)(T:List Co):er (Fe x N T)=C4 x N T:=by
 cases x with
 |none=>rfl
 |some c =>
  unfold Fe C4 EQ;simp only[er,XS,LN]
abbrev zP (K:za1)(fd:FuncData)(ps:List Str)(key:Str):Prop:=∀(s:Shared) (us:List Value) (w:Value),K.In s.heap->us.length+1=ps.length->BindsTo s fd ⟨us,[(key,w)]⟩ (ps.zip (us++[w]))
section
variable {P:Program}{w:World}{K:za1}
def yM {st}(F:fB K x qual st f fd)(S:Ac N ps (A3 st))(g:Ah->M Out)(hb:∀(AX:Value) (A:Around) (outer:List Env) (s:Shared) (H:Hp) (E:XK),Bm k (A.deeper (envOfC qual (A3 st) s.heap.objs.size f AX))->SR (iG P w K mg base N qual (A3 st) f AX A outer s H E) (CC K E) (Az st) g):
 Cw P w K mg base (Q7 P w base) (k+1) f fd ps (spT K ps.length λ ds=>TJ (g (CN N ds))):=by
 obtain⟨oc,od,dV,kV,doc,pm,an,AX,ct,Ta,rfl,lk,aO⟩:=F.ex;refine T9 lk aO S (λ vs H Q E h=>h.1) λ A outer s H vs Q E hr h=>?_;obtain⟨hl,P',ds,ht,hv,hq⟩:=h;obtain⟨t,h1,h2⟩:=hb AX A outer s H E hr;refine⟨t,h1,h2 ⟨P',λ _=>0⟩ P' _ H _ _ (LF ht hv) ?_⟩;dsimp only at hq;revert hq;cases g (CN N ds) with
 |bad=>exact λ h=>h.elim
 |ex x=>exact λ h H' P2 t=>h H' (Cv t)
 |ok o =>
  cases o with
  |ret d=>exact λ h v H' P2 t hv=>h v [] H' (Cv t) (λ a ha=>by cases ha) zbr (.sh (by rw[Ol];exact hv))
  |next ρ=>exact λ h σ' H' P2 t E=>h .Ax [] H' (Cv t) (λ a ha=>by cases ha) zbr (.sh .Ax)
  |brk ρ|cont ρ=>exact λ h=>h.elim
  |Cq c=>exact λ h v fp H' P2 t hs ht ho hp nd=>WT h t hs ho hp nd
  |Fv d ρ=>exact λ h=>h.elim
structure VX (K:za1)(x m qual key:Str)(st:Stmt)(ps:List Str):Prop where
 ex:∃C f fd,zan K mainGlobals x=some (some (.ref C))/\SM K C/\Meth K C m f/\fB K m qual st f fd/\(Binds K fd ps []/\Binds K fd ps [.none])/\zP K fd ps key
structure OX (P:Program)(w:World)(K:za1)(mg:Str->Option Value)(base:Heap)(x m key:Str)(k n:Nat)(F:List D->M OT):Prop where
 ex:∃C fa fd ps,zan K mainGlobals x=some (some (.ref C))/\SM K C/\Meth K C m fa/\Cw P w K mg base (Q7 P w base) k fa fd ps (spT K n F)/\(Binds K fd ps []/\Binds K fd ps [.none])/\zP K fd ps key
def gI {st}(T:VX K x m qual key st ps)(S:Ac N ps (A3 st))(g:Ah->M Out)(hb:∀(f:Addr) (AX:Value) (A:Around) (outer:List Env) (s:Shared) (H:Hp) (E:XK),Bm k (A.deeper (envOfC qual (A3 st) s.heap.objs.size f AX))->SR (iG P w K mg base N qual (A3 st) f AX A outer s H E) (CC K E) (Az st) g)(hn: ~~~(ps.length=n)):
 OX P w K mg base x m key (k+1) n (λ ds=>TJ (g (CN N ds))):=by
 obtain⟨C,f,fd,h1,h2,h3,F,hB⟩:=T.ex;subst hn;exact⟨⟨C,f,fd,ps,h1,h2,h3,yM F S g (hb f),hB⟩⟩
def OX.m {m}(G:OX P w K mg base x m key k n F):Fc P w K mg base x m k n F:=by
 obtain⟨C,fa,fd,ps,h1,h2,h3,h4,h5,_⟩:=G.ex;exact⟨⟨C,fa,fd,ps,h1,h2,h3,h4,h5.1⟩⟩
def tU (e:mg y=mg x)(G:nV P w K mg base x k n F):nV P w K mg base y k n F:=by
 obtain⟨fa,fd,ps,h1,h2,h3⟩:=G.ex;exact⟨⟨fa,fd,ps,h1,e.trans h2,h3⟩⟩
def yN {st}(X:K.In h)(G:h.Ns mainGlobals mg)(e:zan K mainGlobals y=zan K mainGlobals x)(p:FP K x st):mg y=mg x:=by
 obtain⟨f,_,_,_,_,_,_,_,_,_,a,_⟩:=p.ex;rw[PySem.W.mg_of X G a,PySem.W.mg_of X G (e.trans a)]
end
section
variable {fs:Ah->M (List D)}
abbrev tV (X:Cx)(m:Str)(k:Nat)(E:XK)(ta:TE)(t:TA):TE:=λ σ H Q=>ta σ H λ x H1=>∃a C dx fs f fd ps n F,x=.ref a/\H1 a=some (.ins C dx fs)/\fs.lookup m=none/\SM X.K C/\Meth X.K C m f/\Cw X.prog X.w X.K X.mg X.base (Q7 X.prog X.w X.base) k f fd ps (spT X.K n F)/\Binds X.K fd ps [.none]/\
 t σ H1 λ vs H2=>spT X.K n F (x::(vs++[.Ax])) H2 Q E
def gJ (he:PE X o ta)(hr:Bm k X.A)(hx:Fs (Q7 X.prog X.w X.base) X E)(ha:PA X (e::es) t)(a7: ~~~(starEach (e::es) X.env=(false,eval e X.env)::starEach es X.env))(hpl: ~~~((backTo pos (starEach es X.env)).any (·.1)=false))(ht: ~~~(eval (.Call (.Attribute o m apos) (e::es) [] pos) X.env=(do
  let ov <-eval o X.env
  standAt apos.atName
  let (f,first) <-holding [ov] (getMethod ov m pl)
  callWith pos f first (backTo pos (starEach (e::es) X.env)) (backToKw pos (keywordEach [] X.env))))):
 PE X (.Call (.Attribute o m apos) (e::es) [] pos) (tV X m k E ta t):=by
 intro pins s σ H Q I h;refine PySem.W.methodCall_KW (pl:=pl) (B9 (he pins s σ H _ I h) λ u s1 zz=>?_) ht;obtain⟨x,H1,I1,rx,a,C,dx,fs,f,fd,ps,n,F,ex,ea,l,c,hm,hF,hb,q⟩:=zz;subst ex;obtain rfl:u=zb7 a:=rx;refine Gg I1 ea c hm l ?_;refine PySem.W.callWith_K (first:=[.ref a]) (h₀:=X.base) I.ok.mod.V1 hm.kp (B9 (ha pos pins s1 σ H1 _ I1 q) λ us s2 ⟨vs,H2,I2,r,q2⟩=>⟨I2.Mh,?_⟩) a7 hpl;exact Ls (us:=.ref a::us) (vs:=.ref a::vs) hF hr hb (.cons (show RelV .Ax .none from rfl) .nil) hx I2 (.cons rfl r) q2
def OY (xo:FN X E)(M0:OX X.prog X.w X.K X.mg X.base x m key k n F)(hr:Bm k X.A)(ho:DE X (CC X.K E) true o fo)(ha:DA X (CC X.K E) true (e::es) fs)(aD:(e::es).length+2=n)(a7: ~~~(starEach (e::es) X.env=(false,eval e X.env)::starEach es X.env))(hpl: ~~~((backTo pos (starEach es X.env)).any (·.1)=false))(ht: ~~~(eval (.Call (.Attribute o m apos) (e::es) [] pos) X.env=(do
  let ov <-eval o X.env
  standAt apos.atName
  let (f,first) <-holding [ov] (getMethod ov m pl)
  callWith pos f first (backTo pos (starEach (e::es) X.env)) (backToKw pos (keywordEach [] X.env))))):
 DN X (CC X.K E) (.Call (.Attribute o m apos) (e::es) [] pos) (λ ρ=>(fo ρ).bind λ d=>(Dk [(x,F)] m d).bind λ F=>(fs ρ).bind λ ds=>F (d::(ds++[.Ax]))):=by
 obtain⟨ta,a1,a2⟩:=ho;obtain⟨tb,b1,b2,b3⟩:=ha;refine⟨_,gJ (pl:=pl) a1 hr xo.call b1 a7 hpl ht,λ P0 P σ H Q ρ Ev h=>?_⟩;dsimp only at h;refine a2 P0 P σ H _ ρ Ev ?_;cases q:fo ρ with
 |bad|ex x=>rw[q] at h;exact h
 |ok d =>
  rw[q] at h;simp only[M.A8] at h;intro v H1 s1 hv;cases q2:Dk [(x,F)] m d with
  |bad=>rw[q2] at h;exact h.elim
  |ex y=>exact (J7 q2).elim
  |ok G =>
   rw[q2] at h;simp only[M.A8] at h;obtain⟨x',ns,qm,rfl,aM,f9⟩:=KC q2;cases za9.mp aM;obtain⟨C,fa,fd,ps,h1,h2,h3,h4,h5,_⟩:=M0.ex;cases hv with
   |ins hn hH hl =>
    rw[hn] at h1;cases h1;refine⟨_,_,_,_,fa,fd,ps,n,F,rfl,(Al hH).2,HY hl f9,h2,h3,h4,h5.2,?_⟩;refine b2 P0 P σ H1 _ ρ (Ev.same s1) ?_;cases q3:fs ρ with
    |bad=>rw[q3] at h;exact h
    |ex y=>rw[q3] at h;exact λ H' s=>h H' (s1.trans s)
    |ok ds =>
     rw[q3] at h;simp only[M.A8] at h;intro vs H2 s2 ay;have bg:=(BF.ins hn hH hl).mono s2.del;exact⟨by rw[za8,zah,ay.length,b3 ρ ds q3];exact aD,P,_,((Ev.same s1).same s2).BX,.cons bg (ay.append (.cons .Ax .nil)),h.same (s1.trans s2)⟩
end
section
variable {fs:Ah->M (List D)}{key:Str}
abbrev tW (X:Cx)(m key:Str)(k:Nat)(E:XK)(ta:TE)(t:TA)(tk:TE):TE:=λ σ H Q=>ta σ H λ x H1=>∃a C dx fs f fd ps n F,x=.ref a/\H1 a=some (.ins C dx fs)/\fs.lookup m=none/\SM X.K C/\Meth X.K C m f/\Cw X.prog X.w X.K X.mg X.base (Q7 X.prog X.w X.base) k f fd ps (spT X.K n F)/\zP X.K fd ps key/\
 t σ H1 λ vs H2=>tk σ H2 λ v H3=>spT X.K n F (x::(vs++[v])) H3 Q E
def gK (he:PE X o ta)(hr:Bm k X.A)(hx:Fs (Q7 X.prog X.w X.base) X E)(ha:PA X (e::es) t)(hk:PE X ek tk)(a5: ~~~((backToKw pos (keywordEach [⟨some key,ek,az⟩] X.env)).all (·.1.isSome)=true))(fj: ~~~((backToKw pos (keywordEach [⟨some key,ek,az⟩] X.env)).filterMap (·.1)=[key]))(a7: ~~~(starEach (e::es) X.env=(false,eval e X.env)::starEach es X.env))(hpl: ~~~(((backTo pos (starEach (e::es) X.env)).any (·.1)||(backToKw pos (keywordEach [⟨some key,ek,az⟩] X.env)).any (·.1.isNone))=false))(ht: ~~~(eval (.Call (.Attribute o m apos) (e::es) [⟨some key,ek,az⟩] pos) X.env=(do
  let ov <-eval o X.env
  standAt apos.atName
  let (f,first) <-holding [ov] (getMethod ov m pl)
  callWith pos f first (backTo pos (starEach (e::es) X.env)) (backToKw pos (keywordEach [⟨some key,ek,az⟩] X.env))))):
 PE X (.Call (.Attribute o m apos) (e::es) [⟨some key,ek,az⟩] pos) (tW X m key k E ta t tk):=by
 intro pins s σ H Q I h;refine PySem.W.methodCall_KW (pl:=pl) (B9 (he pins s σ H _ I h) λ u s1 zz=>?_) ht;obtain⟨x,H1,I1,rx,a,C,dx,fs,f,fd,ps,n,F,ex,ea,l,c,hm,hF,hb,q⟩:=zz;subst ex;obtain rfl:u=zb7 a:=rx;refine Gg I1 ea c hm l ?_;refine PySem.W.callWith_KW (first:=[.ref a]) (h₀:=X.base) I.ok.mod.V1 hm.kp a5 (B9 (ha pos pins s1 σ H1 _ I1 q) λ us s2 zz=>?_) hpl a7;obtain⟨vs,H2,I2,r,q2⟩:=zz;show wpAny _ _ (evalAll [(do let v <-eval ek X.env;standAt pos;pure v)]) _ _ s2;refine wpAny_evalAll_cons (wpAny_bind (B9 (hk pins s2 σ H2 _ I2 q2) λ u s3 ⟨v,H3,I3,rv,q3⟩=>wpAny_bind (wpAny_standAt (wpAny_pure (wpAny_evalAll_nil ⟨I3.Mh,?_⟩)))));rw[fj];have r2:Vals (V.ref a::(vs++[v])) (zb7 a::(us++[u])):=.cons rfl (r.append (.cons rv .nil));have hl:(zb7 a::us).length+1=ps.length:=by
  have e:=r2.length;rw[hF.len _ _ _ _ q3] at e;rw[e];simp
 refine wpAny_call (codeAny_mono (hF.run X.A X.stack s3 H3 ⟨zb7 a::us,[(key,u)]⟩ (zb7 a::(us++[u])) _ Q E hr I3.qL (hb s3 (zb7 a::us) u I3.Mh hl) r2 q3) λ r s' hq=>?_);cases r with
 |error e=>exact hx pins σ H3 s3 e s' I3 hq
 |ok fl =>
  cases fl with
  |ret u=>exact I3.after hq
  |next|brk|cont=>exact zc8 hq
def gL (xo:FN X E)(M0:OX X.prog X.w X.K X.mg X.base x m key k n F)(hr:Bm k X.A)(ho:DE X (CC X.K E) true o fo)(ha:DA X (CC X.K E) true (e::es) fs)(hk:DE X (CC X.K E) true ek fk)(aD:(e::es).length+2=n)(a5: ~~~((backToKw pos (keywordEach [⟨some key,ek,az⟩] X.env)).all (·.1.isSome)=true))(fj: ~~~((backToKw pos (keywordEach [⟨some key,ek,az⟩] X.env)).filterMap (·.1)=[key]))(a7: ~~~(starEach (e::es) X.env=(false,eval e X.env)::starEach es X.env))(hpl: ~~~(((backTo pos (starEach (e::es) X.env)).any (·.1)||(backToKw pos (keywordEach [⟨some key,ek,az⟩] X.env)).any (·.1.isNone))=false))(ht: ~~~(eval (.Call (.Attribute o m apos) (e::es) [⟨some key,ek,az⟩] pos) X.env=(do
  let ov <-eval o X.env
  standAt apos.atName
  let (f,first) <-holding [ov] (getMethod ov m pl)
  callWith pos f first (backTo pos (starEach (e::es) X.env)) (backToKw pos (keywordEach [⟨some key,ek,az⟩] X.env))))):
 DN X (CC X.K E) (.Call (.Attribute o m apos) (e::es) [⟨some key,ek,az⟩] pos) (λ ρ=>(fo ρ).bind λ d=>(Dk [(x,F)] m d).bind λ F=>(fs ρ).bind λ ds=>(fk ρ).bind λ d2=>F (d::(ds++[d2]))):=by
 obtain⟨ta,a1,a2⟩:=ho;obtain⟨tb,b1,b2,b3⟩:=ha;obtain⟨tk,k1,k2⟩:=hk;refine⟨_,gK (pl:=pl) a1 hr xo.call b1 k1 a5 fj a7 hpl ht,λ P0 P σ H Q ρ Ev h=>?_⟩;dsimp only at h;refine a2 P0 P σ H _ ρ Ev ?_;cases q:fo ρ with
 |bad|ex x=>rw[q] at h;exact h
 |ok d =>
  rw[q] at h;simp only[M.A8] at h;intro v H1 s1 hv;cases q2:Dk [(x,F)] m d with
  |bad=>rw[q2] at h;exact h.elim
  |ex y=>exact (J7 q2).elim
  |ok G =>
   rw[q2] at h;simp only[M.A8] at h;obtain⟨x',ns,qm,rfl,aM,f9⟩:=KC q2;cases za9.mp aM;obtain⟨C,fa,fd,ps,h1,h2,h3,h4,_,h6⟩:=M0.ex;cases hv with
   |ins hn hH hl =>
    rw[hn] at h1;cases h1;refine⟨_,_,_,_,fa,fd,ps,n,F,rfl,(Al hH).2,HY hl f9,h2,h3,h4,h6,?_⟩;refine b2 P0 P σ H1 _ ρ (Ev.same s1) ?_;cases q3:fs ρ with
    |bad=>rw[q3] at h;exact h
    |ex y=>rw[q3] at h;exact λ H' s=>h H' (s1.trans s)
    |ok ds =>
     rw[q3] at h;simp only[M.A8] at h;intro vs H2 s2 ay;refine k2 P0 P σ H2 _ ρ ((Ev.same s1).same s2) ?_;cases q4:fk ρ with
     |bad=>rw[q4] at h;exact h
     |ex y=>rw[q4] at h;exact λ H' s=>h H' ((s1.trans s2).trans s)
     |ok d2 =>
      rw[q4] at h;simp only[M.A8] at h;intro v2 H3 s3 pi;have bg:=((BF.ins hn hH hl).mono s2.del).mono s3.del;exact⟨by rw[za8,zah,ay.length,b3 ρ ds q3];exact aD,P,_,(((Ev.same s1).same s2).same s3).BX,.cons bg ((ay.mono s3.del).append (.cons pi .nil)),h.same ((s1.trans s2).trans s3)⟩
end
abbrev Xl (x:D)(m m2:M D):M D:=match x with
 | .BN b ks vs=>m.bind λ y=>m2.bind λ z=>if keyOk b y=true then .ok ((EI ks vs y).getD z) else .bad
 |_=>.bad
section
variable {c:Bool}{f g g2:Ah->M D}
def gM (hu:X.A.units+n<cLine)(ha:DE X WX c o f)(hb:DE X WX c k g)(qj:DE X WX c e g2)(m:M2 X o "get" apos k e ac:=by exact⟨rfl,rfl,rfl,rfl⟩)(hn:1<=n:=by decide):
 DE X WX c (.Call (.Attribute o "get" apos) [k,e] [] ac) (λ ρ=>(f ρ).bind λ x=>Xl x (g ρ) (g2 ρ)):=by
 obtain⟨ta,a1,a2⟩:=ha;obtain⟨tb,b1,b2⟩:=hb;obtain⟨tc,c1,c2⟩:=qj;refine⟨_,bD (by omega) a1 b1 c1 m,λ P0 P σ H Q ρ E h=>?_⟩;dsimp only at h;refine a2 P0 P σ H _ ρ E ?_;cases q:f ρ with
 |bad|ex x=>rw[q] at h;exact h
 |ok x =>
  rw[q] at h;simp only[M.A8] at h;intro v H1 s1 hv;unfold Xl at h;split at h
  ·rename_i bb ks vs;obtain⟨a,rfl,hD⟩:=X5 hv;refine⟨a,rfl,hD,b2 P0 P σ H1 _ ρ (E.same s1) ?_⟩;cases e2:g ρ with
   |bad=>rw[e2] at h;exact h
   |ex y=>rw[e2] at h;exact gV.same (m:=.ex y) h s1
   |ok y =>
    rw[e2] at h;simp only[M.A8] at h;intro w H2 s2 hw;refine c2 P0 P σ H2 _ ρ ((E.same s1).same s2) ?_;cases e3:g2 ρ with
    |bad=>rw[e3] at h;exact h
    |ex y=>rw[e3] at h;exact gV.same (m:=.ex y) (gV.same (m:=.ex y) h s1) s2
    |ok z =>
     rw[e3] at h;simp only[M.A8] at h;intro u H3 s3 xp;by_cases hk:keyOk bb y=true
     ·rw[if_pos hk] at h;obtain⟨a',xs,ea,g',hl,aR⟩:=NF ((hv.mono s2.del).mono s3.del) (hw.mono s3.del) (DH hk);cases ea;refine⟨_,g',?_⟩;refine gV.same (gV.same (gV.same h s1) s2) s3 _ H3 (Aj.refl _) ?_;cases eg:EI ks vs y with
      |none =>
       have:EI ks xs y=none:=by
        cases qy:EI ks xs y with
        |none=>rfl
        |some z =>
         have h1:=Ez (xs:=xs) (y:=y) aR;have h2:=Ez (ks:=ks) (xs:=vs) (y:=y) (by rw[<-hl.length,aR]);rw[h1,qy,eg] at h2;cases h2
       rw[this];exact xp
      |some d =>
       obtain⟨x,e3,e4⟩:=Kr hl eg;rw[e3];exact e4
     ·rw[if_neg hk] at h;exact h.elim
  ·exact h.elim
end
def gO (F:Cw X.prog X.w X.K X.mg X.base (Q7 X.prog X.w X.base) k f fd ps sp)(F':Cw X.prog X.w X.K X.mg X.base (Q7 X.prog X.w X.base) k' f vc ph vd)(hr:Bm k X.A)(bw:Bm k' X.A)(hg:Gl X x)(hm:X.mg x=some (.ref f))(hk:zbd X.K (.ref f)=true)(hb:Binds X.K fd ps [])(aE:Binds X.K vc ph [])(hx:Fs (Q7 X.prog X.w X.base) X E)(ha:PA X (e::es) t)(aI:(x==("__debug__" : Str))=false:=by decide)(he: ~~~(starEach (e::es) X.env=(false,eval e X.env)::starEach es X.env))(hpl: ~~~((backTo pos (starEach es X.env)).any (·.1)=false)):
 PE X (.Call (.Name x p) (e::es) [] pos) (λ σ H Q=>t σ H λ vs H1=>sp (vs++[]) H1 Q E\/vd (vs++[]) H1 Q E):=by
 intro pins s σ H Q I h;refine wpAny_Call_Name_kw (RH I hg hm ?_ aI);refine PySem.W.callWith_K (h₀:=X.base) I.ok.mod.V1 hk (B9 (ha pos pins s σ H _ I h) λ us s1 ⟨vs,H1,I1,r,q⟩=>⟨I1.Mh,?_⟩) he hpl;rcases q with q|q
 ·exact Ls F hr hb .nil hx I1 r q
 ·exact Ls F' bw aE .nil hx I1 r q
abbrev Uo (i:Nat)(F:OT->List D->M (OT×OT))(F0:List D->M OT)(ρ:Ah):M (Ah×OT):=match ρ[i]? with
 |some (some (.val d))=>(match F0 [d] with | .ok (.sh d2)=>.ok (ρ,.sh d2)|_=>.bad)
 |_=>Mp i F ρ [] []
def gQ (i:Nat)(xo:FN X E)(G:Kv X.prog X.w X.K X.mg X.base x k 1 F)(G0:nV X.prog X.w X.K X.mg X.base x k0 1 F0)(hr:Bm k X.A)(xq:Bm k0 X.A)(hg:Gl X x)(hv:PE X (.Name y p1) (Qf i))(aI:(x==("__debug__" : Str))=false:=by decide)(he: ~~~(starEach [.Name y p1] X.env=(false,eval (.Name y p1) X.env)::starEach [] X.env))(hpl: ~~~((backTo pos (starEach [] X.env)).any (·.1)=false)):
 DX X (CC X.K E) (.Call (.Name x p) [.Name y p1] [] pos) (Uo i F F0):=by
 obtain⟨fa,fd,ps,hF,hm,hk,hb⟩:=G.ex;obtain⟨fa0,fd0,ps0,rq,ve,xr,xt⟩:=G0.ex;rw[hm] at ve;cases ve;refine⟨_,gO hF rq hr xq hg hm hk hb xt xo.call (Bc hv Cd he) aI he hpl,λ P0 P σ H Q ρ Ev h=>?_⟩;unfold Uo at h;split at h
 ·rename_i d e1;obtain⟨v,h1,h2⟩:=Ev.val i d e1;refine⟨v,h1,?_⟩;refine .inr ?_;split at h
  ·rename_i d2 e2;refine⟨rfl,P,[d],Ev.BX,.cons h2 .nil,?_⟩;rw[e2];intro v2 fp H' s hn nd o;cases o with
   |sh ho =>
    rw[Ol] at ho;exact h v2 [] H' P (Ev.tr s) (Ev.same s) (.sh ho) zbr (λ a ha=>by cases ha)
  ·exact h.elim
 ·unfold Mp at h;split at h
  ·rename_i cl e1;split at h
   ·rename_i pp t e2;have io:Gk cl=true:=by cases cl<;>first|rfl|cases e2
    obtain⟨v,fp,k1,k2,k3,k4⟩:=Ev.ows i cl e1 io;have bu:Bi X.K P H σ ρ i [] v t:=⟨v,cl,pp,t,e1,e2,k1,.nil⟩;refine⟨v,k1,?_⟩;refine .inl ?_;rw[Oj] at h;dsimp only at h;by_cases hx:TM t=true
    ·rw[if_pos hx] at h;obtain⟨ap,o1,qg,df⟩:=bu.own Ev;have f8:∃l,v=.ref l:=by
      cases o1 with
      |sh hv=>exact absurd hx (by simp[TM])
      |lst _ _|tup _ _|dK _ _|dT _ _|ins _ _ _=>exact⟨_,rfl⟩
     obtain⟨l,rfl⟩:=f8;refine⟨rfl,P,l,t,ap,[],[],rfl,Ev.BX,λ b hb=>(qg b hb).1,df,o1,.nil,?_⟩;cases qF:F t [] with
     |bad|ex x=>rw[qF] at h;exact h.elim
     |ok z =>
      obtain⟨t2,r⟩:=z;rw[qF] at h;intro w H' P' fu fr g1 g2 g3 g4 g5 g6 g7 g8 g9 xu;obtain⟨c',p',t',m1,m2,m3,m4,m5⟩:=Ev.nY bu o1 g1 g2 g3 g4 g5 g9 g6 g7 xu g8;rw[e1] at m1;cases m1;rw[e2] at m2;cases m2;exact h w fr H' P' m4 m3 g6 g7 m5
    ·rw[if_neg hx] at h;exact h.elim
   ·exact h.elim
  ·exact h.elim
abbrev BK (m:Nat)(rs:List Road)(L:List Int):D:=.ins "House" ["own_map","own_order","done"] [Ad m rs,.lst (L.map D.int),.lst []]
abbrev oS (S:List Int):List (Int×Unit):=S.foldl (λ A i=>CF A i ()) []
abbrev zQ (A:List (Int×Unit)):D:=.BN false (A.map λ kv=>.int kv.1) (A.map λ _=>.Ax)
abbrev yO (A:List (Int×Unit)):OT:=.BN false (A.map λ kv=>.int kv.1) ((A.map λ _=>D.Ax).map .sh)
def tX (A:List (Int×Unit)):er (yO A)=zQ A:=Ov
def mY (S:List Int)(i:Int):(Ao (oS S) i).isSome=decide (i∈S):=by
 have key:∀(S:List Int) (A:List (Int×Unit)),(Ao (S.foldl (λ A i=>CF A i ()) A) i).isSome=((Ao A i).isSome||decide (i∈S)):=by
  intro S;induction S with
  |nil=>intro A;simp
  |cons a r ih =>
   intro A;rw[zat,ih,Er];by_cases h:i=a
   ·subst h;simp
   ·rw[if_neg h];have:decide (i∈a::r)=decide (i∈r):=by simp[h]
    rw[this]
 have:=key S [];rw[show Ao ([]:List (Int×Unit)) i=none from rfl] at this;exact this.trans (by simp)
def tY (S:List Int)(hl:S.length<=1000):YZ (.lst (S.map λ i=>.tup [.int i,.Ax]))=.ok (yO (oS S)):=by
 unfold YZ;dsimp only;rw[NL (λ i:Int=>D.int i) (λ _=>D.Ax)];dsimp only;rw[if_pos ⟨by rw[za2];exact hl,by rw[List.all_map];exact List.all_eq_true.mpr λ x _=>rfl⟩];have key:∀(S:List Int) (A:List (Int×Unit)),(S.map λ i=>(D.int i,D.Ax)).foldl (λ z kv=>putD z.1 z.2 kv.1 kv.2) (A.map (λ kv=>D.int kv.1),A.map λ kv=>(λ _:Unit=>D.Ax) kv.2)=((S.foldl (λ A i=>CF A i ()) A).map (λ kv=>D.int kv.1),(S.foldl (λ A i=>CF A i ()) A).map λ kv=>(λ _:Unit=>D.Ax) kv.2):=by
  intro S;induction S with
  |nil=>intro A;rfl
  |cons a r ih =>
   intro A;rw[za6,zat,zat];dsimp only;have:=Ic (vf:=λ _:Unit=>D.Ax) (kf:=D.int) EM A a ();rw[this,ih]
 have e:lP (S.map λ i=>(D.int i,D.Ax))=((oS S).map (λ kv=>D.int kv.1),(oS S).map λ _=>D.Ax):=key S [];rw[e];rfl
def mZ (A:List (Int×Unit))(i:Int)(z:D):Xl (zQ A) (.ok (.int i)) (.ok z)=.ok (if (Ao A i).isSome=true then .Ax else z):=by
 have e:EI (A.map λ kv=>D.int kv.1) (A.map λ _=>D.Ax) (.int i)=(Ao A i).map λ _=>D.Ax:=FX (kf:=D.int) (vf:=λ _:Unit=>D.Ax) EM A i;unfold Xl zQ;simp only[M.A8];rw[if_pos (show keyOk false (.int i)=true from rfl),e];cases Ao A i<;>rfl
abbrev Ht (r:Road):Road:=⟨r.a,r.b,none,r.w⟩
abbrev Qb (f:Int->Bool)(rs:List Road):List Road:=(zb8 rs.length).map λ i:Nat=>if f i=true then Ht (rs.getD i ⟨0,0,none,0⟩) else rs.getD i ⟨0,0,none,0⟩
abbrev GC (rs:List Road)(i:Int):List Road:=match rs[i.toNat]? with
 |some r=>rs.set i.toNat (Ht r)
 |none=>rs
def Su (f:Int->Bool)(rs:List Road)(k:Nat):(Qb f rs)[k]?=(rs[k]?).map λ r=>if f k=true then Ht r else r:=by
 unfold Qb;rw[zaw];by_cases h:k<rs.length
 ·rw[List.getElem?_range h,za7 h];simp only[zbw,zbb,za7 h,Option.getD_some]
 ·rw[zbn (by rw[zc4];omega),zbn (by omega)];rfl
def nA (h0:0<=i)(k:Nat):(GC rs i)[k]?=(rs[k]?).map λ r=>if (k:Int)=i then Ht r else r:=by
 unfold GC;cases h:rs[i.toNat]? with
 |none =>
  dsimp only;cases h2:rs[k]? with
  |none=>rfl
  |some r =>
   have:(k:Int)≠i:=λ z=>by rw[<-z,zbg,h2] at h;cases h
   rw[zbw,if_neg this]
 |some r =>
  dsimp only;by_cases e:(k:Int)=i
  ·subst e;rw[zbg] at h ⊢;rw[zb3 (zae.mp h).1,h,zbw,if_pos rfl]
  ·rw[zbs (by omega)];cases rs[k]? with
   |none=>rfl
   |some r=>rw[zbw,if_neg e]
def oT (S:List Int)(hS:∀i∈S,0<=i):∀rs:List Road,S.foldl GC rs=Qb (λ i=>decide (i∈S)) rs:=by
 have key:∀(S:List Int),(∀i∈S,0<=i)->∀(rs:List Road) (k:Nat),(S.foldl GC rs)[k]?=(rs[k]?).map λ r=>if (k:Int)∈S then Ht r else r:=by
  intro S;induction S with
  |nil =>
   intro _ rs k;have e:(λ r:Road=>if (k:Int)∈([]:List Int) then Ht r else r)=λ r=>r:=by funext r;simp
   rw[e,Option.map_id_fun'];rfl
  |cons a r ih =>
   intro hS rs k;rw[zat,ih (λ i hi=>hS i (za4 _ hi)),nA (hS a za3),Option.map_map];congr 1;funext x;simp only[Function.comp];by_cases e:(k:Int)=a
   ·rw[if_pos e,if_pos (show (k:Int)∈a::r by rw[e];exact za3)];by_cases h:(k:Int)∈r
    ·rw[if_pos h];rfl
    ·rw[if_neg h]
   ·rw[if_neg e];by_cases h:(k:Int)∈r
    ·rw[if_pos h,if_pos (za4 _ h)]
    ·rw[if_neg h,if_neg λ z=>(zab.mp z).elim e h]
 intro rs;apply zd0;intro k;rw[key S hS,Su];simp
def nB:∀r∈Qb f rs,∃q∈rs,r=q\/r=Ht q:=by
 intro r hr;obtain⟨k,hk⟩:=List.getElem?_of_mem hr;rw[Su] at hk;obtain⟨q,hq,rfl⟩:=zce.mp hk;refine⟨q,zao hq,?_⟩;split
 ·exact .inr rfl
 ·exact .inl rfl
def Sv (f:Int->Bool)(rs:List Road):(Qb f rs).length=rs.length:=by unfold Qb;rw[za2,zc4]
def Z4 (h:EL m r):EL m (Ht r):=⟨h.a0,h.a1,h.b0,h.b1,h.ab,(λ z e=>nomatch e),h.w0,h.w1⟩
def gR (h:∀r∈rs,EL m r):∀r∈Qb f rs,EL m r:=λ r hr=>by
 obtain⟨q,hq,rfl|rfl⟩:=nB r hr
 ·exact h _ hq
 ·exact Z4 (h _ hq)
def gU (rs:List Road):Qb (λ _=>false) rs=rs:=by
 apply zd0;intro k;rw[Su];cases rs[k]? <;>rfl
abbrev Sw (x:Co)(N:List Nat)(T:List Co):Cl:=match x with
 |none=>.val .Ax
 |some c=>.ow (.tree none (Fe (some c) N T))
def Up (x:Co)(N:List Nat)(T:List Co):Qm i ρ (Fe x N T)=.ok (.next (ρ.set i (some (Sw x N T)))):=by cases x<;>rfl
def Uq (x:Co)(N:List Nat)(T:List Co):LM (Sw x N T)=.val (C4 x N T):=by
 cases x with
 |none=>rfl
 |some c =>
  show Cl.val (er (Fe (some c) N T))=_;rw[Jb]
def Ri (hi:ρ[i]?=some (some (Sw x N T)))(hF:∀c,x=some c->∃t,F (Fe (some c) N T) []=.ok (t,.sh .Ax))(h0:F0 [.Ax]=.ok (.sh .Ax)):∃cl,Uo i F F0 ρ=.ok (ρ.set i (some cl),.sh .Ax):=by
 cases x with
 |none =>
  have hi:ρ[i]?=some (some (.val .Ax)):=hi;refine⟨.val .Ax,?_⟩;unfold Uo;rw[hi];dsimp only;rw[h0,set_same hi]
 |some c =>
  have hi:ρ[i]?=some (some (.ow (.tree none (Fe (some c) N T)))):=hi;obtain⟨t,ht⟩:=hF c rfl;refine⟨toCl none t,?_⟩;unfold Uo;rw[hi];dsimp only;unfold Mp;rw[hi];dsimp only;have e1:treeOf (.ow (.tree none (Fe (some c) N T)))=some (none,Fe (some c) N T):=rfl;rw[e1];dsimp only;rw[Oj];dsimp only;rw[if_pos (show TM (Fe (some c) N T)=true from rfl),ht];dsimp only;rw[HJ]
end L2
set_option maxHeartbeats 4000000
namespace cz
open PySem L2
abbrev top (i:Nat):Stmt:=zP0.main.body.getD i (.Pass ⟨0,0,0,0⟩)
noncomputable abbrev FZ:Stmt:=top 9
def KY:Ac ["thing","bound"] ["thing","bound"] (A3 FZ):=nofun
noncomputable abbrev KZ:Stmt:=top 10
def Qr:Ac ["thing"] ["thing"] (A3 KZ):=nofun
noncomputable abbrev Rj:Stmt:=top 11
def VY:Ac ["thing","many"] ["thing","many"] (A3 Rj):=nofun
noncomputable abbrev Ur:Stmt:=top 12
def LZ:Ac ["thing","many","roads"] ["thing"] (A3 Ur):=nofun
noncomputable abbrev Rk:Stmt:=top 13
def VZ:Ac ["thing"] ["thing"] (A3 Rk):=nofun
noncomputable abbrev Xm:Stmt:=top 14
def gW:Ac ["one","other"] ["one","other"] (A3 Xm):=nofun
noncomputable abbrev Xn:Stmt:=top 15
def gY:Ac ["some"] ["some"] (A3 Xn):=nofun
noncomputable abbrev Mw:Stmt:=top 16
def Sx:Ac ["road"] ["road"] (A3 Mw):=nofun
noncomputable abbrev Jm:Stmt:=top 18
def OZ:Ac ["laid","pair"] ["laid","pair"] (A3 Jm):=nofun
noncomputable abbrev oU:Stmt:=top 19
def tZ:Ac ["laid","pair","cost","middle"] ["laid","pair","cost","middle"] (A3 oU):=nofun
noncomputable abbrev P5:Stmt:=top 20
def Fg:Ac ["laid","place","higher","u","w","cost"] ["laid","place","higher"] (A3 P5):=nofun
noncomputable abbrev Mx:Stmt:=top 21
def D1:Ac ["net","order","laid","road","rank","place"] ["net","order"] (A3 Mx):=nofun
noncomputable abbrev L0:Stmt:=top 23
def Qs:Ac ["ladder"] ["ladder"] (A3 L0):=nofun
noncomputable abbrev Ej:Stmt:=top 24
def Ih:Ac ["ladder"] ["ladder"] (A3 Ej):=nofun
noncomputable abbrev Rl:Stmt:=top 25
def Dp:Ac ["order","costs","place","reached","rank","lower","higher","cost"] ["order","costs","place"] (A3 Rl):=nofun
noncomputable abbrev Ii:Stmt:=top 26
def MY:Ac ["ladder","start"] ["ladder","start"] (A3 Ii):=nofun
noncomputable abbrev Jn:Stmt:=top 27
def P6:Ac ["ladder","goal"] ["ladder","goal"] (A3 Jn):=nofun
noncomputable abbrev Ij:Stmt:=top 28
def E6:Ac ["ladder","start","goal","ahead","behind"] ["ladder","start","goal"] (A3 Ij):=nofun
noncomputable abbrev Xo:Stmt:=top 30
def G1:Ac ["order","costs","place","reached","told","higher","lower","over"] ["order","costs","place"] (A3 Xo):=nofun
noncomputable abbrev P7:Stmt:=top 31
def Us:Ac ["ladder","goal"] ["ladder","goal"] (A3 P7):=nofun
noncomputable abbrev Ik:Stmt:=top 33
def MZ:Ac ["ladder","start","goal"] ["ladder","start","goal"] (A3 Ik):=nofun
noncomputable abbrev G2:Stmt:=top 34
def Fh:Ac ["ladder","prices","place","kept"] ["ladder","prices","place"] (A3 G2):=nofun
noncomputable abbrev Hb:Stmt:=top 35
def BL:Ac ["ladder","prices","start","goal","roads","place","arc"] ["ladder","prices","start","goal"] (A3 Hb):=nofun
noncomputable abbrev oV:Stmt:=top 36
def W0:Ac ["ladder","start","goal","cost","prices"] ["ladder","start","goal"] (A3 oV):=nofun
noncomputable abbrev P8:Stmt:=top 39
def Ut:Ac ["net","thing"] ["net","thing"] (A3 P8):=nofun
noncomputable abbrev Hc:Stmt:=top 40
def M3:Ac ["net","thing"] ["net","thing"] (A3 Hc):=nofun
noncomputable abbrev L1:Stmt:=top 46
def BD:Ac ["net","start","costs","changed","road","cost"] ["net","start"] (A3 L1):=nofun
noncomputable abbrev Fi:Stmt:=top 48
def JU:Ac ["net","order"] ["net","order"] (A3 Fi):=nofun
noncomputable abbrev My:Stmt:=top 49
def Es:Ac ["net","laid","kept","u","costs"] ["net","laid"] (A3 My):=nofun
noncomputable abbrev L3:Stmt:=top 50
def Jo:Ac ["net","arc","cost","numbers"] ["net","arc","cost"] (A3 L3):=nofun
noncomputable abbrev AH:Stmt:=inClass (top 51) 0
def JV:Ac ["self","net","order"] ["self","net","order"] (A3 AH):=nofun
noncomputable abbrev Il:Stmt:=inClass (top 51) 2
def N4:Ac ["self"] ["self"] (A3 Il):=nofun
noncomputable abbrev DL:Stmt:=inClass (top 51) 4
def Dc:Ac ["self","u","w","many"] ["self","u","w"] (A3 DL):=nofun
noncomputable abbrev Jp:Stmt:=inClass (top 51) 5
def P9:Ac ["self","u","w"] ["self","u","w"] (A3 Jp):=nofun
noncomputable abbrev Fj:Stmt:=inClass (top 51) 7
def Bv:Ac ["self","u","w","roads","waiting","arc","middle"] ["self","u","w"] (A3 Fj):=nofun
noncomputable abbrev Jq:Stmt:=inClass (top 51) 8
def Pa:Ac ["self"] ["self"] (A3 Jq):=nofun
noncomputable abbrev Jr:Stmt:=top 53
def Pb:Ac ["road","length"] ["road","length"] (A3 Jr):=nofun
noncomputable abbrev Hd:Stmt:=top 55
def M4:Ac ["net","thing"] ["net","thing"] (A3 Hd):=nofun
noncomputable abbrev Im:Stmt:=top 56
def N5:Ac ["net","thing"] ["net","thing"] (A3 Im):=nofun
noncomputable abbrev Io:Stmt:=top 57
def N6:Ac ["net","lengths"] ["net","lengths"] (A3 Io):=nofun
noncomputable abbrev Ip:Stmt:=top 58
def N7:Ac ["net","shut"] ["net","shut"] (A3 Ip):=nofun
noncomputable abbrev AM:Stmt:=inClass (top 59) 0
def L4:Ac ["self","net","order"] ["self","net","order"] (A3 AM):=nofun
noncomputable abbrev G3:Stmt:=inClass (top 59) 1
def L5:Ac ["self"] ["self"] (A3 G3):=nofun
noncomputable abbrev He:Stmt:=inClass (top 59) 8
def M5:Ac ["self"] ["self"] (A3 He):=nofun
noncomputable abbrev B2:Stmt:=inClass (top 59) 9
def L6:Ac ["self","start","goal","shut","net"] ["self","start","goal","shut"] (A3 B2):=nofun
noncomputable abbrev Js:Stmt:=top 61
def Pc:Ac ["_law_script","_law_k"] ["_law_script","_law_k"] (A3 Js):=nofun
noncomputable abbrev Mz:Stmt:=top 62
def GD:Ac ["_law_cell","_law_k","_law_number"] ["_law_cell","_law_k"] (A3 Mz):=nofun
noncomputable abbrev Pd:Stmt:=top 63
def CS:Ac ["_law_cell","_law_many","_law_k","_law_x","_law_one","_law_other","_law_length"] ["_law_cell","_law_many","_law_k"] (A3 Pd):=nofun
noncomputable abbrev Rm:Stmt:=top 64
def Dq:Ac ["_law_script","_law_places","_law_most","_law_cells","_law_x","_law_many","_law_roads"] ["_law_script","_law_places","_law_most"] (A3 Rm):=nofun
noncomputable abbrev MA:Stmt:=top 65
def GF:Ac ["_law_cell","_law_many","_law_k","_law_order_here","_law_place"] ["_law_cell","_law_many","_law_k"] (A3 MA):=nofun
noncomputable abbrev Pe:Stmt:=top 66
def MB:Ac ["_law_found","_law_due","_law_part"] ["_law_found","_law_due"] (A3 Pe):=nofun
noncomputable abbrev Pf:Stmt:=top 67
def Bo:Ac ["_law_net","_law_start","_law_goal","_law_roads","_law_here","_law_cost_here","_law_road_here","_law_u","_law_w","_law_length","_law_width"] ["_law_net","_law_start","_law_goal","_law_roads"] (A3 Pf):=nofun
noncomputable abbrev Pg:Stmt:=top 68
def DM:Ac ["_law_net","_law_road_here","_law_length","_law_start","_law_goal","_law_ahead","_law_width"] ["_law_net","_law_road_here","_law_length"] (A3 Pg):=nofun
noncomputable abbrev Ph:Stmt:=top 69
def Uu:Ac ["_law_net"] ["_law_net"] (A3 Ph):=nofun
noncomputable abbrev Pj:Stmt:=top 70
def Iq:Ac ["_law_net","_law_x","_law_some","_law_k"] ["_law_net","_law_x"] (A3 Pj):=nofun
noncomputable abbrev MC:Stmt:=top 71
def L7:Ac ["_law_found","_law_due","_law_net","_law_start","_law_goal","_law_trod"] ["_law_found","_law_due","_law_net","_law_start","_law_goal"] (A3 MC):=nofun
noncomputable abbrev Jt:Stmt:=top 72
def Ir:Ac ["_law_found"] ["_law_found"] (A3 Jt):=nofun
noncomputable abbrev Iv:Stmt:=top 73
def Au:Ac ["_law_house","_law_net","_law_order_here","_law_x","_law_start","_law_goal","_law_some","_law_closed","_law_road_here","_law_due","_law_handed","_law_found","_law_plain","_law_k"] ["_law_house","_law_net","_law_order_here","_law_x"] (A3 Iv):=nofun
noncomputable abbrev Ro:Stmt:=top 74
def Pk:Ac ["_law_script","_law_net","_law_order_here","_law_house","_law_cell"] ["_law_script"] (A3 Ro):=nofun
structure Txt (K:za1)(mg:Str->Option Value):Prop where
 M6:AJ K mg "is_whole_below" FZ ["thing","bound"]
 Sy:AJ K mg "is_measure" KZ ["thing"]
 Z5:AJ K mg "is_road" Rj ["thing","many"]
 gZ:AJ K mg "is_map" Ur ["thing"]
 Z6:AJ K mg "checked" Rk ["thing"]
 nE:AJ K mg "added" Xm ["one","other"]
 nF:AJ K mg "least" Xn ["some"]
 Uv:AJ K mg "road_cost" Mw ["road"]
 Qt:AJ K mg "cost_so_far" Jm ["laid","pair"]
 yP:AJ K mg "lay" oU ["laid","pair","cost","middle"]
 W3:AJ K mg "lay_over" P5 ["laid","place","higher"]
 Uw:AJ K mg "laid_arcs" Mx ["net","order"]
 Sz:AJ K mg "kept_costs" L0 ["ladder"]
 Jh:AJ K mg "kept_costs_turned" Ej ["ladder"]
 Z7:AJ K mg "climbed" Rl ["order","costs","place"]
 Pm:AJ K mg "climbed_from" Ii ["ladder","start"]
 Qu:AJ K mg "climbing_to" Jn ["ladder","goal"]
 Pn:AJ K mg "sums_at_tops" Ij ["ladder","start","goal"]
 nG:AJ K mg "swept" Xo ["order","costs","place"]
 W4:AJ K mg "costs_in" P7 ["ladder","goal"]
 Po:AJ K mg "cost_between" Ik ["ladder","start","goal"]
 M7:AJ K mg "arcs_by_prices" G2 ["ladder","prices","place"]
 N8:AJ K mg "way_by_prices" Hb ["ladder","prices","start","goal"]
 yQ:AJ K mg "ask" oV ["ladder","start","goal"]
 W5:AJ K mg "is_order" P8 ["net","thing"]
 N9:AJ K mg "checked_order" Hc ["net","thing"]
 SA:AJ K mg "costs_from" L1 ["net","start"]
 L8:AJ K mg "order_or_ranked" Fi ["net","order"]
 Ux:AJ K mg "kept_arcs" My ["net","laid"]
 SD:AJ K mg "road_under" L3 ["net","arc","cost"]
 L9:OC K mg "Ladder" "Ladder.__init__" AH ["self","net","order"]
 Pp:KA K "Ladder" "order" "Ladder.order" Il ["self"]
 Iw:KA K "Ladder" "checked_arc" "Ladder.checked_arc" DL ["self","u","w"]
 Qv:KA K "Ladder" "cost" "Ladder.cost" Jp ["self","u","w"]
 La:KA K "Ladder" "unpacked" "Ladder.unpacked" Fj ["self","u","w"]
 Qw:KA K "Ladder" "kept" "Ladder.kept" Jq ["self"]
 Qx:AJ K mg "with_length" Jr ["road","length"]
 Na:AJ K mg "checked_place" Hd ["net","thing"]
 Pq:AJ K mg "checked_road" Im ["net","thing"]
 Pr:AJ K mg "with_lengths" Io ["net","lengths"]
 Pt:AJ K mg "shut_lengths" Ip ["net","shut"]
 M8:OC K mg "House" "House.__init__" AM ["self","net","order"]
 M9:KA K "House" "told_map" "House.told_map" G3 ["self"]
 Nb:KA K "House" "changes" "House.changes" He ["self"]
 Uy:VX K "House" "ask" "House.ask" "shut" B2 ["self","start","goal","shut"]
 Qy:AJ K mg "_law_cell_at" Js ["_law_script","_law_k"]
 UA:AJ K mg "_law_mixed" Mz ["_law_cell","_law_k"]
 W6:AJ K mg "_law_road" Pd ["_law_cell","_law_many","_law_k"]
 Z8:AJ K mg "_law_map" Rm ["_law_script","_law_places","_law_most"]
 UB:AJ K mg "_law_order" MA ["_law_cell","_law_many","_law_k"]
 W7:AJ K mg "_law_cost" Pe ["_law_found","_law_due"]
 W8:AJ K mg "_law_walk" Pf ["_law_net","_law_start","_law_goal","_law_roads"]
 W9:AJ K mg "_law_with" Pg ["_law_net","_law_road_here","_law_length"]
 Wa:AJ K mg "_law_copy" Ph ["_law_net"]
 Wb:AJ K mg "_law_shut" Pj ["_law_net","_law_x"]
 UC:AJ K mg "_law_alike" MC ["_law_found","_law_due","_law_net","_law_start","_law_goal"]
 Ju:AJ K mg "_law_spoiled" Jt ["_law_found"]
 Pu:AJ K mg "_law_question" Iv ["_law_house","_law_net","_law_order_here","_law_x"]
 abC:AJ K mg "law" Ro ["_law_script"]
 oW:mg "all" = none
 Wc:mg "bool" = none
 SE:mg "dict" = none
 DQ:mg "enumerate" = none
 Xp:mg "int" = none
 AV:mg "isinstance" = none
 Fl:mg "len" = none
 D2:mg "list" = none
 oX:mg "min" = none
 Jc:mg "range" = none
 Wd:mg "reversed" = none
 hV:mg "sorted" = none
 Lb:mg "tuple" = none
 We:mg "ask_asks" = mg "ask"
 Lc:FQ K "House" "done"
 Bj:FQ K "House" "own_map"
 Fm:FQ K "House" "own_order"
 ER:FQ K "Ladder" "kept_ones"
 BZ:FQ K "Ladder" "laid"
 Bq:FQ K "Ladder" "own_map"
 CH:FQ K "Ladder" "own_order"
local macro_rules | `(tactic| rfl')=>`(tactic| simp only [aa6,aa7,aa8])
local macro_rules | `(‹$t›)=>`(some (Cl.val $t))
local macro_rules | `(!$n:num)=>`(rF $n (pv $n))
local macro_rules | `(!$h:ident)=>`(huR $h 16 (by decide))
local macro_rules | `(-$h:ident)=>`(($h).mono (by decide))
local macro_rules|`(tactic|simp_arith[$xs,*])=>do `(tactic|simp only[$[$(("rv0 rvS lK List.set_cons_zero List.set_cons_succ M.A8 Yc Yb cO dO dP dQ kZ Ov LO R4 dC dD Yi xI kW kX dE aaK Yj Yk VF rY JS rZ dG dH Yl xJ dB HJ toCl_list toCl_listP toCl_dct lA dR dS dU dW lB dX dY dZ erM shM dI xK dJ xM dM dN kY xN muC muN aaN aaO aaP aaQ aaR aaS toCl_nil QT Kt SQ sA Ym lC lD eB eC lE lF lG lH lI eE eF eG eI Yn Yo Yp Yq Yr eJ Ys Yt xO xP xQ xR xS Yu ite_tt ite_ff Bool.not_true Bool.not_false List.getElem?_cons_zero List.getElem?_cons_succ R9 U5 fH aaM aaX aaL aaY aaZ aa0 mB sV sW sX LV YS mH fF aa4 yC tL".splitOn " ").toArray.map λ x=>Lean.mkIdent x.toName):term],*,$xs,*])
abbrev FT (nm:Str)(lv n:Nat)(F:List D->M OT):Prop:=∀ {P w K mg base},Txt K mg->nV P w K mg base nm lv n F
variable {P:Program}{w:World}{K:za1}{mg:Str->Option Value}{base:Heap}
abbrev G4 (F:List D->M OT):Prop:=∀i n:Int,0<=i->i<n->F [.int i,.int n]=.ok (.sh (.bl true))
def D3:∃F,FT "is_whole_below" 1 2 F/\G4 F:=by
 refine⟨_,λ T=>As (k:=0) T.M6 KY _ (λ f AX A outer s H E hr=>(A5 (Ae (AG (JQ (Dh (O5 _) rfl T.AV rfl T.Xp (by decide +kernel) (!0)) (JQ (rJ (Dh (LC _) rfl T.AV rfl T.Wc (by decide +kernel) (!0))) (Lz (XW nJ Zz A4 (!0) (!1))))))))),?_⟩;intro i n h0 h1;rfl';refine B1 ?_;have a:=decide_eq_true h0;have b:=decide_eq_true h1;simp_arith[R9,a,b,Eo];rfl
abbrev Hf:=za5 D3
def AQ:FT "is_whole_below" 1 2 Hf:=(za0 D3).1
def AR:G4 Hf:=(za0 D3).2
abbrev Ld (F:List D->M OT):Prop:=∀i:Int,0<=i->i<Rb->F [.int i]=.ok (.sh (.bl true))
def Fx:∃F,FT "is_measure" 2 1 F/\Ld F:=by
 refine⟨_,λ T=>As (k:=1) T.Sy Qr _ (λ f AX A outer s H E hr=>(A5 (Ae (Aa A7.toXCall (AQ T) (-hr) rfl (A1 (!0) (A1 (bT A4 A4) A6)) rfl)))),?_⟩;intro i h0 h1;rfl';have h:=AR i Rb h0 h1;refine B1 ?_;simp_arith[oG,h];rfl
abbrev MD:=za5 Fx
def Jv:FT "is_measure" 2 1 MD:=(za0 Fx).1
def Jw:Ld MD:=(za0 Fx).2
abbrev Rp (F:List D->M OT):Prop:=∀(m:Nat) (r:Road),EL m r->F [Bx r,.int m]=.ok (.sh (.bl true))
def JW:∃F,FT "is_road" 3 2 F/\Rp F:=by
 refine⟨_,λ T=>As (k:=2) T.Z5 VY _ (λ f AX A outer s H E hr=>(A2 (AZ (DW.dt (CY (Bn (Ba (c:=true) (Dh (Gn _) rfl T.AV rfl T.Lb (by decide +kernel) (!0)))) (Ce (FJ (c:=true) (!hr) (CZ rfl T.Fl (!0)) A4)))) (A5 (Ae (AG D9))) Ap) (A2 (AZ (DW.dt (CY (Bn (Ba (c:=true) (Ag (Aa A7.toXCall (AQ T) (-hr) rfl (A1 (A9 (!hr) (!0) A4) (A1 (!1) A6)) rfl)))) (Ce (Bn (Ba (c:=true) (Ag (Aa A7.toXCall (AQ T) (-hr) rfl (A1 (A9 (!hr) (!0) A4) (A1 (!1) A6)) rfl))))))) (A5 (Ae (AG D9))) Ap) (A2 (AZ (Ki (c:=true) (!hr) (A9 (!hr) (!0) A4) (A9 (!hr) (!0) A4)) (A5 (Ae (AG D9))) Ap) (A5 (Ae (AG (JQ (wM (RW (A9 (!hr) (!0) A4)) (Lz (Ag (Aa A7.toXCall (Jv T) (-hr) rfl (A1 (A9 (!hr) (!0) A4) A6) rfl)))) (Lz (Ag (Aa A7.toXCall (Jv T) (-hr) rfl (A1 (A9 (!hr) (!0) A4) A6) rfl))))))))))),?_⟩;intro m r ok;rfl';refine B1 ?_;have i0:AI (Bx r) (.int 0)=.ok (.int r.a):=rfl;have i1:AI (Bx r) (.int 1)=.ok (.int r.b):=rfl;have i2:AI (Bx r) (.int 2)=.ok (E5 r.l):=rfl;have i3:AI (Bx r) (.int 3)=.ok (.int r.w):=rfl;have ha:=AR r.a m ok.a0 ok.a1;have hb:=AR r.b m ok.b0 ok.b1;have hw:=Jw r.w ok.w0 ok.w1;apply wp_step
 ·rfl
 apply wp_step
 ·simp_arith[i0,i1,ha,hb,Eo];rfl
 apply wp_step
 ·simp_arith[i0,i1,decide_eq_false ok.ab];rfl
 simp_arith[i2,i3,hw];cases q:r.l with
 |none=>rfl
 |some z =>
  have hl:=Jw z (ok.l0 z q).1 (ok.l0 z q).2;have e:E5 (some z)=.int z:=rfl;simp_arith[e,hl];rfl
abbrev UE:=za5 JW
def Wf:FT "is_road" 3 2 UE:=(za0 JW).1
def Wg:Rp UE:=(za0 JW).2
abbrev UG (F:List D->M OT):Prop:=∀(m:Nat) (rs:List Road),1<=m->m<=16->rs.length<=60->(∀r∈rs,EL m r)->F [Ad m rs]=.ok (.sh (.bl true))
def Ma:∃F,FT "is_map" 4 1 F/\UG F:=by
 refine⟨_,λ T=>As (k:=3) T.gZ LZ _ (λ f AX A outer s H E hr=>(A2 (AZ (DW.dt (CY (Bn (Ba (c:=true) (Dh (Gn _) rfl T.AV rfl T.Lb (by decide +kernel) (!0)))) (Ce (FJ (c:=true) (!hr) (CZ rfl T.Fl (!0)) A4)))) (A5 (Ae (AG D9))) Ap) (A2 (Aq 1 LZ.nd rfl (Or.inr rfl) (A9 (!hr) (!0) A4)) (A2 (Aq 2 LZ.nd rfl (zb0 rfl) (A9 (!hr) (!0) A4)) (A2 (AZ (DW.dt (CY (Bn (Ba (c:=true) (Ag (Aa A7.toXCall (AQ T) (-hr) rfl (A1 (!1) (A1 A4 A6)) rfl)))) (Ce (Ki (c:=true) (!hr) (!1) A4)))) (A5 (Ae (AG D9))) Ap) (A2 (AZ (DW.dt (CY (Bn (Ba (c:=true) (Dh (LB _) rfl T.AV rfl T.D2 (by decide +kernel) (!2)))) (Ce (wL (c:=true) (CZ rfl T.Fl (!2)) A4)))) (A5 (Ae (AG D9))) Ap) (A5 (Ae (AG (cJ rfl rfl T.oW (Ag (Dz (NB:=["road","many"]) [none,some 1] rfl (Bw (!2)) rfl rfl (Cr 0 (by decide) rfl rfl rfl) (λ _ _ _ _=>El) (λ _ _ _ _=>(Ag (Cj (Aa (BI rfl).toXCall (Wf T) (-hr) rfl (A1 (!0) (A1 (!1) A6)) rfl)))))))))))))))),?_⟩;intro m rs h1 h2 hl AF;rfl';refine B1 ?_;have i0:AI (Ad m rs) (.int 0)=.ok (.int m):=rfl;have i1:AI (Ad m rs) (.int 1)=.ok (.lst (rs.map Bx)):=rfl;have hn:=AR m 17 (by omega) (by omega);have hm:decide ((m:Int)=0)=false:=decide_eq_false (by omega);have dh:decide ((60:Int)<((rs.map Bx).length:Int))=false:=decide_eq_false (by rw[za2];omega);have am:(rs.map Bx).length<=1000:=by rw[za2];omega
 apply wp_step
 ·rfl
 apply wp_step
 ·simp_arith[i0];rfl
 apply wp_step
 ·simp_arith[i1];rfl
 apply wp_step
 ·simp_arith[hn,hm,Eo];rfl
 apply wp_step
 ·simp_arith[dh,Eo];rfl
 simp_arith[if_pos am];rw[BP (λ _:Road=>D.bl true) (λ r hr=>⟨_,rfl,rfl,by
  have:=Wg m r (AF r hr);simp_arith[this]⟩)]
 simp_arith[yL];rfl
abbrev Xq:=za5 Ma
def Z9:FT "is_map" 4 1 Xq:=(za0 Ma).1
def Za:UG Xq:=(za0 Ma).2
abbrev Rq (F:List D->M OT):Prop:=∀(m:Nat) (rs:List Road),1<=m->m<=16->rs.length<=60->(∀r∈rs,EL m r)->F [Ad m rs]=.ok (.tup [.sh (.int m),.lst ((rs.map Bx).map .sh)])
def JX:∃F,FT "checked" 5 1 F/\Rq F:=by
 refine⟨_,λ T=>As (k:=4) T.Z6 VZ _ (λ f AX A outer s H E hr=>(A2 (AZ (Bn (Ba (c:=true) (Ag (Aa A7.toXCall (Z9 T) (-hr) rfl (A1 (!0) A6) rfl)))) (A5 LH) Ap) (A5 (Ae (Om (C6 (AG (A9 (!hr) (!0) A4)) (C6 (Dz (NB:=["road"]) [none] rfl (Bw (A9 (!hr) (!0) A4)) rfl rfl (Cr 0 (by decide) rfl rfl rfl) (λ _ _ _ _=>El) (λ _ _ _ _=>(bY rfl T.Lb (!0)))) Cb))))))),?_⟩;intro m rs h1 h2 hl AF;rfl';have h1:=Za m rs h1 h2 hl AF;have n0:AI (Ad m rs) (.int 0)=.ok (.int m):=rfl;have n1:AI (Ad m rs) (.int 1)=.ok (.lst (rs.map Bx)):=rfl;have am:(rs.map Bx).length<=1000:=by rw[za2];omega
 refine B1 ?_;apply wp_step
 ·simp_arith[h1,Eo];rfl
 simp_arith[n0,n1,if_pos am];rw[BP Bx (λ r hr=>⟨_,rfl,rfl,rfl⟩)];simp_arith[];exact⟨_,rfl,rfl⟩
abbrev UH:=za5 JX
def JY:FT "checked" 5 1 UH:=(za0 JX).1
def JZ:Rq UH:=(za0 JX).2
abbrev Xr (F:List D->M OT):Prop:=∀a b:Co,F [cst a,cst b]=.ok (.sh (cst (AD a b)))
def Pw:∃F,FT "added" 1 2 F/\Xr F:=by
 refine⟨_,λ T=>As (k:=0) T.nE gW _ (λ f AX A outer s H E hr=>(A2 (AZ (DW.dt (CY (EE (c:=true) (!0)) (Ce (EE (c:=true) (!1))))) (A5 (Ae (AG Cy))) Ap) (A5 (Ae (AG (AY (A1 (BH (A9 (!hr) (!0) A4) (A9 (!hr) (!1) A4)) (A1 (BH (A9 (!hr) (!0) A4) (A9 (!hr) (!1) A4)) A6)))))))),?_⟩;intro a b;dsimp only;rcases a with _|⟨a1,a2⟩<;>rcases b with _|⟨b1,b2⟩<;>rfl
abbrev hX:=za5 Pw
def G5:FT "added" 1 2 hX:=(za0 Pw).1
def G6:Xr hX:=(za0 Pw).2
abbrev Xs (F:List D->M OT):Prop:=∀cs:List Co,cs.length<=1000->F [.lst (cs.map cst)]=.ok (.sh (cst (Hr cs)))
def Px:∃F,FT "least" 1 1 F/\Xs F:=by
 refine⟨_,λ T=>As (k:=0) T.nF gY _ (λ f AX A outer s H E hr=>(A5 (Ae (AG (jY rfl (huR hr 1 (by decide)) rfl T.oX (Ag (Dz (NB:=["cost"]) [none] rfl (Bw (!0)) rfl rfl (Cr 0 (by decide) rfl rfl rfl) (λ _ _ _ _=>J3 (Nx (c:=true) (!0))) (λ _ _ _ _=>(!0)))) Cy))))),?_⟩;intro cs hc;dsimp only;have e0:∀x:D,CN ["some"] [x]=[‹x›]:=λ x=>rfl;rw[e0];refine B1 ?_;have hl:(cs.map cst).length<=1000:=by rw[za2];exact hc
 have jx:=fD cs;have xv:=lV cs;simp_arith[if_pos hl];rw[Mr];simp_arith[xv];rfl
abbrev Py:=za5 Px
def Le:FT "least" 1 1 Py:=(za0 Px).1
def Lf:Xs Py:=(za0 Px).2
abbrev ME (F:List D->M OT):Prop:=∀r:Road,F [Bx r]=.ok (.sh (cst (CT r)))
def GG:∃F,FT "road_cost" 1 1 F/\ME F:=by
 refine⟨_,λ T=>As (k:=0) T.Uv Sx _ (λ f AX A outer s H E hr=>(A2 (AZ (EE (c:=true) (A9 (!hr) (!0) A4)) (A5 (Ae (AG Cy))) Ap) (A5 (Ae (AG (AY (A1 (A9 (!hr) (!0) A4) (A1 A4 A6)))))))),?_⟩;intro r;dsimp only;obtain⟨a,b,l,w⟩:=r;cases l<;>rfl
abbrev Pz:=za5 GG
def GH:FT "road_cost" 1 1 Pz:=(za0 GG).1
def GI:ME Pz:=(za0 GG).2
abbrev Jx (F:List D->M OT):Prop:=∀(A:LA) (p:Int×Int),F [Qp A,pD p]=.ok (.sh (cst (Ab A p)))
def ES:∃F,FT "cost_so_far" 1 2 F/\Jx F:=by
 refine⟨_,λ T=>As (k:=0) T.Qt OZ _ (λ f AX A outer s H E hr=>(A2 (AZ (S9 (c:=true) (!hr) (!1) (!0)) (A5 (Ae (AG Cy))) Ap) (A5 (Ae (AG (A9 (!hr) (A9 (!hr) (!0) (!1)) A4)))))),?_⟩;intro A p;rfl';refine B1 ?_;have hm:=Sq A p true;unfold Ab;cases q:Ao A p with
 |none =>
  rw[q] at hm;simp_arith[hm,Eo];rfl
 |some v =>
  rw[q] at hm;have hi:=OM q;have h0:AI (VM v) (.int 0)=.ok (cst (some v.1)):=rfl;apply wp_step
  ·simp_arith[hm,Eo];rfl
  simp_arith[hi,h0];rfl
abbrev Lg:=za5 ES
def Iy:FT "cost_so_far" 1 2 Lg:=(za0 ES).1
def Iz:Jx Lg:=(za0 ES).2
abbrev oY (F:OT->List D->M (OT×OT)):Prop:=∀(A:LA) (p:Int×Int) (c:Co) (mid:Option Int),A.length<1000->F (MX A) [pD p,cst c,E5 mid]=.ok (MX (layA A p c mid),.sh .Ax)
def Wh:∃F:OT->List D->M (OT×OT),(∀ {P w K mg base},Txt K mg->Kv P w K mg base "lay" 1 4 F)/\oY F:=by
 refine⟨_,λ T=>Oq (k:=0) T.yP tZ _ (λ f AX A outer s H E hr=>(A5 (AZ (HM (DW.dt (RX (Nx (c:=true) (!2)) (Ny (DW.dt (CY (S9 (c:=true) (!hr) (!1) (!0)) (Ce (sF (c:=true) (!hr) (!2) (A9 (!hr) (A9 (!hr) (!0) (!1)) A4))))))))) (A5 (WV (!hr) (Bg 0 (pv 0)) (!1) (AY (A1 (!2) (A1 (!3) A6))))) Ap))),?_⟩;intro A p c mid hA;dsimp only;have e0:CQ ["laid","pair","cost","middle"] (MX A) [pD p,cst c,E5 mid]=[some (.ow (.tree (some 0) (MX A))),‹pD p›,‹cst c›,‹E5 mid›]:=rfl;rw[e0];refine OO ?_;have hm:=Sq A p true;have vg:∀c:Int×Int,D.tup [cst (some c),E5 mid]=VM (c,mid):=λ c=>rfl;have hl:(A.map λ kv=>pD kv.1).length<1000:=by rw[za2];exact hA
 have ik:keyOk true (pD p)=true:=rfl;have ah:∀v,(List.map (λ kv=>pD kv.1) (CF A p v))=(List.map (λ kv=>pD kv.1) (CF A p v)):=λ _=>rfl;cases c with
 |none =>
  refine Bt (ρ':=_) (by simp_arith[cst,Bz];rfl) ⟨rfl,rfl⟩
 |some c =>
  have aD:Bz (cst (some c))=false:=rfl;cases q:Ao A p with
  |none =>
   rw[q] at hm;have el:layA A p (some c) mid=CF A p (c,mid):=by unfold layA;dsimp only;rw[q]
   rw[el];refine Bt (ρ':=[some (.ow (.tree (some 0) (MX (CF A p (c,mid))))),‹pD p›,‹cst (some c)›,‹E5 mid›]) (by
    simp_arith[aD,hm,Eo,LV,vg,if_pos (And.intro ik hl),fS,ik,hl,and_self,if_true];rfl) ⟨rfl,rfl⟩
  |some z =>
   rw[q] at hm;have hi:=OM q;have h0:AI (VM z) (.int 0)=.ok (cst (some z.1)):=rfl;have hx:=aa1 c z.1;by_cases hc:c.1<z.1.1\/(c.1=z.1.1/\c.2<z.1.2)
   ·have el:layA A p (some c) mid=CF A p (c,mid):=by unfold layA;dsimp only;rw[q];dsimp only;rw[if_pos hc]
    rw[decide_eq_true hc] at hx;rw[el];refine Bt (ρ':=[some (.ow (.tree (some 0) (MX (CF A p (c,mid))))),‹pD p›,‹cst (some c)›,‹E5 mid›]) (by
     simp_arith[aD,hm,hi,h0,hx,Eo,LV,vg,if_pos (And.intro ik hl),fS,ik,hl,and_self,if_true];rfl) ⟨rfl,rfl⟩
   ·have el:layA A p (some c) mid=A:=by unfold layA;dsimp only;rw[q];dsimp only;rw[if_neg hc]
    rw[decide_eq_false hc] at hx;rw[el];refine Bt (ρ':=_) (by simp_arith[aD,hm,hi,h0,hx,Eo];rfl) ⟨rfl,rfl⟩
abbrev yR:=za5 Wh
def hZ:Txt K mg->Kv P w K mg base "lay" 1 4 yR:=(za0 Wh).1
def iA:oY yR:=(za0 Wh).2
abbrev PB (F:OT->List D->M (OT×OT)):Prop:=∀(m:Nat) (A:LA) (p:Int) (H:List Int),m<=20->Hs m A->(∀x∈H,0<=x/\x<m)->F (MX A) [.int p,.lst (H.map D.int)]=.ok (MX (mF A p H),.sh .Ax)
def IA:∃F:OT->List D->M (OT×OT),(∀ {P w K mg base},Txt K mg->Kv P w K mg base "lay_over" 2 3 F)/\PB F:=by
 refine⟨_,λ T=>Oq (k:=1) T.W3 Fg _ (λ f AX A outer s H E hr=>(A5 (Cg A7.toXCall.own rfl (Bw (!2)) (AW 3 Fg.nd rfl (zb0 rfl)) (A5 (Cg A7.toXCall.own rfl (Bw (!2)) (AW 4 Fg.nd rfl (zb0 rfl)) (A5 (AZ (FJ (c:=true) (!hr) (!3) (!4)) (A2 (Aq 5 Fg.nd rfl (zb0 rfl) (Ag (Fw (Aa A7.toXCall (G5 T) (-hr) rfl (A1 (Ag (Aa A7.toXCall (Iy T) (-hr) rfl (A1 (!0) (A1 (AY (A1 (!3) (A1 (!1) A6))) A6)) rfl)) (A1 (Ag (Aa A7.toXCall (Iy T) (-hr) rfl (A1 (!0) (A1 (AY (A1 (!1) (A1 (!4) A6))) A6)) rfl)) A6)) rfl)))) (A5 (HU (cX A7.toXCall (hZ T) (-hr) rfl (Bg 0 (pv 0)) (A1 (AY (A1 (!3) (A1 (!4) A6))) (A1 (!5) (A1 (!1) A6))) rfl)))) Ap))))))),?_⟩;intro m A p H hm hA hH;dsimp only;have e0:CQ ["laid","place","higher","u","w","cost"] (MX A) [.int p,.lst (H.map D.int)]=[some (.ow (.tree (some 0) (MX A))),‹.int p›,‹.lst (H.map D.int)›,none,none,none]:=rfl;rw[e0];refine OO ?_;simp_arith[];refine Cm (λ i ρ=>∃s3 s4 s5:Option Cl,ρ=[some (.ow (.tree (some 0) (MX ((H.take i).foldl (YN p H) A)))),‹.int p›,‹.lst (H.map D.int)›,s3,s4,s5]) ⟨none,none,none,rfl⟩ ?_ ?_
 ·rintro i d ρ hd ⟨s3,s4,s5,rfl⟩;obtain⟨u,hu,rfl⟩:=BJ hd;have rj:=hH u (zao hu);refine⟨_,rfl,?_⟩;obtain⟨B,hB⟩:∃B,B=(H.take i).foldl (YN p H) A:=⟨_,rfl⟩;have ge:Hs m B:=by rw[hB];exact Hs.lo hH hA λ x hx=>hH x (zca hx)
  rw[<-hB,EO hu,<-hB];simp_arith[];refine Cm (λ j ρ=>∃s4 s5:Option Cl,ρ=[some (.ow (.tree (some 0) (MX ((H.take j).foldl (NK p u) B)))),‹.int p›,‹.lst (H.map D.int)›,‹.int u›,s4,s5]) ⟨s4,s5,rfl⟩ ?_ ?_
  ·rintro j d ρ hd ⟨s4,s5,rfl⟩;obtain⟨w,hw,rfl⟩:=BJ hd;have hwm:=hH w (zao hw);refine⟨_,rfl,?_⟩;obtain⟨C,hC⟩:∃C,C=(H.take j).foldl (NK p u) B:=⟨_,rfl⟩;have r6:Hs m C:=by rw[hC];exact Hs.ou rj ge λ x hx=>hH x (zca hx)
   rw[EO hw,<-hC];by_cases e:u=w
   ·have ev:NK p u C w=C:=by unfold NK;rw[if_pos e]
    rw[ev];refine Bt (ρ':=_) (by simp_arith[decide_eq_true e];rfl) ⟨_,_,rfl⟩
   ·have ev:NK p u C w=layA C (u,w) (AD (Ab C (u,p)) (Ab C (p,w))) (some p):=by unfold NK;rw[if_neg e]
    rw[ev];have h1:=Iz C (u,p);have h2:=Iz C (p,w);have h3:=G6 (Ab C (u,p)) (Ab C (p,w));have h4:=iA C (u,w) (AD (Ab C (u,p)) (Ab C (p,w))) (some p) (r6.len hm);have t1:∀a b:Int,D.tup [.int a,.int b]=pD (a,b):=λ a b=>rfl;have t2:E5 (some p)=.int p:=rfl;rw[t2] at h4;have h5:=LU (ρ:=[some (.ow (.tree (some 0) (MX C))),‹.int p›,‹.lst (H.map D.int)›,‹.int u›,‹.int w›,‹cst (AD (Ab C (u,p)) (Ab C (p,w)))›]) (i:=0) rfl rfl h4;simp_arith[decide_eq_false e,if_true];apply wp_step
    ·simp_arith[t1,h1,h2,h3];rfl
    refine Bt (ρ':=_) (by simp_arith[t1,h5];rfl) ⟨_,_,rfl⟩
  ·rintro ρ ⟨s4,s5,rfl⟩;rw[za2,zch];exact⟨_,s4,s5,rfl⟩
 ·rintro ρ ⟨s3,s4,s5,rfl⟩;rw[za2,zch];exact⟨rfl,trivial⟩
abbrev Rr:=za5 IA
def UI:Txt K mg->Kv P w K mg base "lay_over" 2 3 Rr:=(za0 IA).1
def UJ:PB Rr:=(za0 IA).2
abbrev MF (F:List D->M OT):Prop:=∀(m:Nat) (rs:List Road) (L:List Int),m<=20->L.Perm (BC m)->(∀r∈rs,Sf m r/\r.a≠r.b)->F [Ad m rs,.lst (L.map D.int)]=.ok (MX (Bu rs L))
def GJ:∃F,FT "laid_arcs" 3 2 F/\MF F:=by
 refine⟨_,λ T=>As (k:=2) T.Uw D1 _ (λ f AX A outer s H E hr=>(A2 (C3 2 D1.nd rfl (zb0 rfl) (TN true)) (A2 (Cg A7.toXCall.own rfl (Bw (A9 (!hr) (!0) A4)) (AW 3 D1.nd rfl (zb0 rfl)) (A5 (HU (cX A7.toXCall (hZ T) (-hr) rfl (Bg 2 (pv 2)) (A1 (AY (A1 (A9 (!hr) (!3) A4) (A1 (A9 (!hr) (!3) A4) A6))) (A1 (Ag (Aa A7.toXCall (GH T) (-hr) rfl (A1 (!3) A6) rfl)) (A1 Cy A6))) rfl)))) (A2 (Cg A7.toXCall.own rfl (Kl rfl T.DQ (!1)) (RZ (n:=2) rfl (BU (AW 4 D1.nd rfl (zb0 rfl)) (BU (AW 5 D1.nd rfl (zb0 rfl)) Nz))) (A5 (HU (cX A7.toXCall (UI T) (-hr) rfl (Bg 2 (pv 2)) (A1 (!5) (A1 (Ag (FO (!1) (Gp (BH (!4) A4)) Kj)) A6)) rfl)))) (A5 (En 2 (pv 2))))))),?_⟩;intro m rs L hm hL AF;rfl';refine B1 ?_;have n1:AI (Ad m rs) (.int 1)=.ok (.lst (rs.map Bx)):=rfl;apply wp_step
 ·rfl
 try simp only[zaj,zag]
 have gf:∀i,i<=rs.length->Hs m ((rs.take i).foldl (λ A r=>layA A (r.a,r.b) (CT r) none) []):=λ i hi=>by
  have:=(Sl (m:=m) (rs:=rs.take i) λ r hr=>AF r (zca hr)).1;exact this
 refine Ck (I:=λ ρ=>∃s3 s4 s5:Option Cl,ρ=[‹Ad m rs›,‹.lst (L.map D.int)›,some (.ow (.tree none (MX (lay0 rs)))),s3,s4,s5]) ?_ ?_
 ·simp_arith[n1];refine Cm (λ i ρ=>i<=rs.length/\∃s3 s4 s5:Option Cl,ρ=[‹Ad m rs›,‹.lst (L.map D.int)›,some (.ow (.tree none (MX ((rs.take i).foldl (λ A r=>layA A (r.a,r.b) (CT r) none) [])))),s3,s4,s5]) ⟨zba _,none,none,none,rfl⟩ ?_ ?_
  ·rintro i d ρ hd ⟨hi,s3,s4,s5,rfl⟩;obtain⟨r,hr,rfl⟩:=BJ hd;have ah:=(zae.mp hr).1;refine⟨_,rfl,?_⟩;rw[EO hr];obtain⟨B,hB⟩:∃B,B=(rs.take i).foldl (λ A r=>layA A (r.a,r.b) (CT r) none) []:=⟨_,rfl⟩;have ge:Hs m B:=by rw[hB];exact gf i hi
   rw[<-hB];have i0:AI (Bx r) (.int 0)=.ok (.int r.a):=rfl;have i1:AI (Bx r) (.int 1)=.ok (.int r.b):=rfl;have h1:=GI r;have h2:=iA B (r.a,r.b) (CT r) none (ge.len hm);have t1:∀a b:Int,D.tup [.int a,.int b]=pD (a,b):=λ a b=>rfl;have t2:E5 none=.Ax:=rfl;rw[t2] at h2;have h5:=LU (ρ:=[‹Ad m rs›,‹.lst (L.map D.int)›,some (.ow (.tree none (MX B))),‹Bx r›,s4,s5]) (i:=2) rfl rfl h2;refine Bt (ρ':=_) (by simp_arith[i0,i1,h1,t1,h5];rfl) ⟨ah,_,_,_,rfl⟩
  ·rintro ρ ⟨_,s3,s4,s5,rfl⟩;rw[za2,zch];exact⟨s3,s4,s5,rfl⟩
 ·rintro ρ ⟨s3,s4,s5,rfl⟩;have il:=Sl AF;refine Ck (I:=λ ρ=>∃s3 s4 s5:Option Cl,ρ=[‹Ad m rs›,‹.lst (L.map D.int)›,some (.ow (.tree none (MX (Bu rs L)))),s3,s4,s5]) ?_ ?_
  ·simp_arith[];refine Cm (λ i ρ=>i<=L.length/\∃(G:LA) (s3 s4 s5:Option Cl),ρ=[‹Ad m rs›,‹.lst (L.map D.int)›,some (.ow (.tree none (MX G))),s3,s4,s5]/\Hs m G/\Q9 G (L.drop i)=Q9 (lay0 rs) L) ⟨zba _,lay0 rs,s3,s4,s5,rfl,il.1,rfl⟩ ?_ ?_
   ·rintro i d ρ hd ⟨hi,G,s3,s4,s5,rfl,hG,j0⟩;obtain⟨d',ce,rfl⟩:=FL hd;obtain⟨p,hp,rfl⟩:=BJ ce;have ah:=(zae.mp hp).1;rw[Nat.zero_add];refine⟨_,rfl,?_⟩;have b5:∀x∈L.drop (i+1),0<=x/\x<m:=λ x hx=>(B8 hL).mp (List.mem_of_mem_drop hx);have ed:L.drop i=p::L.drop (i+1):=by
     rw[zd6 ah];rw[za7 ah] at hp;rw[zau hp]
    rw[ed,Q9] at j0;have h2:=UJ m G p (L.drop (i+1)) hm hG b5;have sl:Yh (some ((i:Int)+1)) none (.lst (L.map D.int))=.ok (.lst (((L.drop (i+1)).map D.int).map .sh)):=by rw[List.map_drop];exact Ox _ (i+1)
    have h5:=LU (ρ:=[‹Ad m rs›,‹.lst (L.map D.int)›,some (.ow (.tree none (MX G))),s3,‹.int i›,‹.int p›]) (i:=2) rfl rfl h2;refine Bt (ρ':=_) (by simp_arith[sl,h5];rfl) ⟨ah,_,_,_,_,rfl,Hs.lo b5 hG b5,j0⟩
   ·rintro ρ ⟨_,G,s3,s4,s5,rfl,hG,j0⟩;rw[CM,za2,zco,Q9] at j0;exact⟨s3,s4,s5,by rw[j0];rfl⟩
  ·rintro ρ ⟨s3,s4,s5,rfl⟩;exact⟨_,rfl,rfl⟩
abbrev PD:=za5 GJ
def SF:FT "laid_arcs" 3 2 PD:=(za0 GJ).1
def SG:MF PD:=(za0 GJ).2
abbrev DR (F:List D->M OT):Prop:=∀(m:Nat) (rs:List Road) (L:List Int) (A:LA) (K:List (Int×Int)) (u w:Int),0<=u->u<m->0<=w->w<m->(Ao A (u,w)).isSome=true->F [Bd m rs L A K,.int u,.int w]=.ok (.sh (pD (u,w)))
def C1:∃F:List D->M OT,(∀ {P w K mg base},Txt K mg->Fc P w K mg base "Ladder" "checked_arc" 2 3 F)/\DR F:=by
 refine⟨_,λ T=>Gw (k:=1) T.Iw Dc _ (λ f AX A outer s H E hr=>(A2 (Aq 3 Dc.nd rfl (zb0 rfl) (A9 (!hr) (BB ["Ladder"] (Aw T.Bq AU) (!0)) A4)) (A2 (AZ (DW.dt (CY (Bn (Ba (c:=true) (Ag (Aa A7.toXCall (AQ T) (-hr) rfl (A1 (!1) (A1 (!3) A6)) rfl)))) (CY (Bn (Ba (c:=true) (Ag (Aa A7.toXCall (AQ T) (-hr) rfl (A1 (!2) (A1 (!3) A6)) rfl)))) (Ce (S9 (c:=true) (!hr) (AY (A1 (!1) (A1 (!2) A6))) (BB ["Ladder"] (Aw T.BZ AU) (!0))))))) (A5 LH) Ap) (A5 (Ae (AG (AY (A1 (!1) (A1 (!2) A6))))))))),?_⟩;intro m rs L A K u w u0 u1 w0 w1 hf;rfl';refine B1 ?_;have f1:Jg ["Ladder"] "own_map" (Bd m rs L A K)=.ok (Ad m rs):=rfl;have f2:Jg ["Ladder"] "laid" (Bd m rs L A K)=.ok (Qp A):=rfl;have n0:AI (Ad m rs) (.int 0)=.ok (.int m):=rfl;have h1:=AR u m u0 u1;have h2:=AR w m w0 w1;have hp:D.tup [.int u,.int w]=pD (u,w):=rfl;have hm:=Sq A (u,w) true;rw[hf] at hm;apply wp_step
 ·simp_arith[f1,n0];rfl
 apply wp_step
 ·simp_arith[h1,h2,f2,hp,hm,Eo];rfl
 rfl
abbrev AN:=za5 C1
def Dd:Txt K mg->Fc P w K mg base "Ladder" "checked_arc" 2 3 AN:=(za0 C1).1
def De:DR AN:=(za0 C1).2
abbrev Jy (F:List D->M OT):Prop:=∀(m:Nat) (rs:List Road) (L:List Int) (A:LA) (K:List (Int×Int)) (u w:Int) (c:Int×Int),Hs m A->Ab A (u,w)=some c->F [Bd m rs L A K,.int u,.int w]=.ok (.sh (cst (some c)))
def ET:∃F:List D->M OT,(∀ {P w K mg base},Txt K mg->Fc P w K mg base "Ladder" "cost" 3 3 F)/\Jy F:=by
 refine⟨_,λ T=>Gw (k:=2) T.Qv P9 _ (λ f AX A outer s H E hr=>(A5 (Ae (AG (A9 (!hr) (A9 (!hr) (BB ["Ladder"] (Aw T.BZ AU) (!0)) (Ag (Ff (k:=2) [("Ladder",AN)] A7.toXCall (Bl (by decide) (Dd T) BG) (-hr) (!0) (A1 (!1) (A1 (!2) A6)) rfl))) A4))))),?_⟩;intro m rs L A K u w c hA hc;rfl';refine B1 ?_;have f2:Jg ["Ladder"] "laid" (Bd m rs L A K)=.ok (Qp A):=rfl;have hk:=hA.rg _ (EN hc);obtain⟨v,hv⟩:∃v,Ao A (u,w)=some (c,v):=by
  unfold Ab at hc;cases q:Ao A (u,w) with
  |none=>rw[q] at hc;cases hc
  |some z=>rw[q] at hc;obtain⟨z1,z2⟩:=z;cases hc;exact⟨z2,rfl⟩
 have h1:=De m rs L A K u w hk.2.1.1 hk.2.1.2 hk.2.2.1 hk.2.2.2 (by rw[hv];rfl);have hi:=OM hv;have h0:AI (VM (c,v)) (.int 0)=.ok (cst (some c)):=rfl;have hs:Dk [("Ladder",AN)] "checked_arc" (Bd m rs L A K)=.ok AN:=rfl;simp_arith[f2,hs,h1,hi,h0];rfl
abbrev B4:=za5 ET
def EU:Txt K mg->Fc P w K mg base "Ladder" "cost" 3 3 B4:=(za0 ET).1
def EV:Jy B4:=(za0 ET).2
abbrev Jz (F:List D->M OT):Prop:=∀(m:Nat) (rs:List Road) (L:List Int) (A:LA) (K:List (Int×Int)),F [Bd m rs L A K]=.ok (.lst ((K.map pD).map .sh))
def EW:∃F:List D->M OT,(∀ {P w K mg base},Txt K mg->Fc P w K mg base "Ladder" "kept" 1 1 F)/\Jz F:=by
 refine⟨_,λ T=>Gw (k:=0) T.Qw Pa _ (λ f AX A outer s H E hr=>(A5 (Ae (Em rfl T.D2 (BB ["Ladder"] (Aw T.ER AU) (!0)))))),?_⟩;intro m rs L A K;dsimp only;rfl
abbrev B5:=za5 EW
def EX:Txt K mg->Fc P w K mg base "Ladder" "kept" 1 1 B5:=(za0 EW).1
def EY:Jz B5:=(za0 EW).2
abbrev Lh (F:List D->M OT):Prop:=∀(m:Nat) (rs:List Road) (L:List Int) (A:LA) (K:List (Int×Int)),Be m rs L A K->F [Bd m rs L A K]=.ok (zO (Hu A K))
def Fy:∃F,FT "kept_costs" 4 1 F/\Lh F:=by
 refine⟨_,λ T=>As (k:=3) T.Sz Qs _ (λ f AX A outer s H E hr=>(A5 (Ae (U1 rfl (!hr) rfl T.SE (Ag (Dz (NB:=["u","w","ladder"]) [none,none,some 0] rfl (Bw (Ag (DK (k:=1) [("Ladder",B5)] A7.toXCall (Bl (by decide) (EX T) BG) (-hr) (!0)))) rfl rfl (Kx (n:=2) rfl (BY 0 (by decide) rfl rfl rfl (BY 1 (by decide) rfl rfl rfl HV))) (λ _ _ _ _=>El) (λ _ _ _ _=>(AY (A1 (AY (A1 (!0) (A1 (!1) A6))) (A1 (Ag (Cj (Ff (k:=3) [("Ladder",B4)] (BI rfl).toXCall (Bl (by decide) (EU T) BG) (-hr) (!2) (A1 (!0) (A1 (!1) A6)) rfl))) A6)))))))))),?_⟩;intro m rs L A K ok;rfl';refine B1 ?_;have hs:Dk [("Ladder",B5)] "kept" (Bd m rs L A K)=.ok B5:=rfl;have a9:Dk [("Ladder",B4)] "cost" (Bd m rs L A K)=.ok B4:=rfl;have hk:=EY m rs L A K;have hl:(K.map pD).length<=1000:=by rw[za2];have:=ok.kl;omega
 have hn:((Hu A K).map zay).Nodup:=by rw[ON];exact ok.kn
 have hd:=fT (C:=Hu A K) hn (by simp only[Hu,za2];have:=ok.kl;omega);simp_arith[hs,hk,if_pos hl];rw[BP (λ p=>D.tup [pD p,cst (some ((Ab A p).getD (0,0)))]) (λ p hp=>⟨_,rfl,rfl,by
  obtain⟨c,hc,_⟩:=(ok.km p).mp hp;have h1:=EV m rs L A K p.1 p.2 c ok.yA hc;simp_arith[a9,h1];rw[hc];rfl⟩)]
 have e1:(K.map λ p=>D.tup [pD p,cst (some ((Ab A p).getD (0,0)))])=(Hu A K).map λ kv=>D.tup [pD kv.1,cst (some kv.2)]:=by
  simp only[Qq,Hu,zbx];rfl
 rw[e1];simp_arith[hd];exact⟨_,rfl,rfl⟩
abbrev MG:=za5 Fy
def Qz:FT "kept_costs" 4 1 MG:=(za0 Fy).1
def QA:Lh MG:=(za0 Fy).2
abbrev Ek (F:List D->M OT):Prop:=∀(m:Nat) (rs:List Road) (L:List Int) (A:LA) (K:List (Int×Int)),Be m rs L A K->F [Bd m rs L A K]=.ok (zO (Qq (Hu A K)))
def C7:∃F,FT "kept_costs_turned" 4 1 F/\Ek F:=by
 refine⟨_,λ T=>As (k:=3) T.Jh Ih _ (λ f AX A outer s H E hr=>(A5 (Ae (U1 rfl (!hr) rfl T.SE (Ag (Dz (NB:=["u","w","ladder"]) [none,none,some 0] rfl (Bw (Ag (DK (k:=1) [("Ladder",B5)] A7.toXCall (Bl (by decide) (EX T) BG) (-hr) (!0)))) rfl rfl (Kx (n:=2) rfl (BY 0 (by decide) rfl rfl rfl (BY 1 (by decide) rfl rfl rfl HV))) (λ _ _ _ _=>El) (λ _ _ _ _=>(AY (A1 (AY (A1 (!1) (A1 (!0) A6))) (A1 (Ag (Cj (Ff (k:=3) [("Ladder",B4)] (BI rfl).toXCall (Bl (by decide) (EU T) BG) (-hr) (!2) (A1 (!0) (A1 (!1) A6)) rfl))) A6)))))))))),?_⟩;intro m rs L A K ok;rfl';refine B1 ?_;have hs:Dk [("Ladder",B5)] "kept" (Bd m rs L A K)=.ok B5:=rfl;have a9:Dk [("Ladder",B4)] "cost" (Bd m rs L A K)=.ok B4:=rfl;have hk:=EY m rs L A K;have hl:(K.map pD).length<=1000:=by rw[za2];have:=ok.kl;omega
 have hn:((Hu A K).map zay).Nodup:=by rw[ON];exact ok.kn
 have hd:=fT (C:=Qq (Hu A K)) (YR hn) (by unfold Qq;simp only[Hu,za2];have:=ok.kl;omega);simp_arith[hs,hk,if_pos hl];rw[BP (λ p=>D.tup [pD (p.2,p.1),cst (some ((Ab A p).getD (0,0)))]) (λ p hp=>⟨_,rfl,rfl,by
  obtain⟨c,hc,_⟩:=(ok.km p).mp hp;have h1:=EV m rs L A K p.1 p.2 c ok.yA hc;simp_arith[a9,h1];rw[hc];rfl⟩)]
 have e1:(K.map λ p=>D.tup [pD (p.2,p.1),cst (some ((Ab A p).getD (0,0)))])=(Qq (Hu A K)).map λ kv=>D.tup [pD kv.1,cst (some kv.2)]:=by
  simp only[Qq,Hu,zbx];rfl
 rw[e1];simp_arith[hd];exact⟨_,rfl,rfl⟩
abbrev EZ:=za5 C7
def DU:FT "kept_costs_turned" 4 1 EZ:=(za0 C7).1
def DV:Ek EZ:=(za0 C7).2
abbrev Rt (F:List D->M OT):Prop:=∀(m:Nat) (L:List Int) (C:CA) (s:Int),m<=20->L.Perm (BC m)->s∈L->(∀p c,Ao C p=some c->p.1∈L/\p.2∈L)->∃R:RA,F [.lst (L.map D.int),SS C,.int s]=.ok (VQ R)/\Qa L C s L.length R
def K0:∃F,FT "climbed" 2 3 F/\Rt F:=by
 refine⟨_,λ T=>As (k:=1) T.Z7 Dp _ (λ f AX A outer s H E hr=>(A2 (C3 3 Dp.nd rfl (zb0 rfl) (eY (!2) (AY (A1 A4 (A1 A4 A6))))) (A2 (Cg A7.toXCall.own rfl (Kl rfl T.DQ (!0)) (RZ (n:=2) rfl (BU (AW 4 Dp.nd rfl (zb0 rfl)) (BU (AW 5 Dp.nd rfl (zb0 rfl)) Nz))) (A5 (AZ (HM (S8 (c:=true) (!hr) (!5) (!3))) (A5 (Cg A7.toXCall.own rfl (Bw (Ag (FO (!0) (Gp (BH (!4) A4)) Kj))) (AW 6 Dp.nd rfl (zb0 rfl)) (A5 (AZ (S8 (c:=true) (!hr) (AY (A1 (!5) (A1 (!6) A6))) (!1)) (A2 (Aq 7 Dp.nd rfl (zb0 rfl) (Ag (Fw (Aa A7.toXCall (G5 T) (-hr) rfl (A1 (A9 (!hr) (!3) (!5)) (A1 (A9 (!hr) (!1) (AY (A1 (!5) (A1 (!6) A6)))) A6)) rfl)))) (A5 (WV (!hr) (Bg 3 (pv 3)) (!6) (Ag (Fw (Aa A7.toXCall (Le T) (-hr) rfl (A1 (Dg (A1 (OA (!hr) (!3) (!6)) (A1 (!7) A6))) A6) rfl)))))) Ap)))) Ap))) (A5 (En 3 (pv 3)))))),?_⟩;intro m L C s hm hL hs hC;have hn:=GA hL;have hlen:=Ib hL;rfl';refine (λ h:∃t,_/\∃R:RA,t=VQ R/\Qa L C s L.length R=>by
  obtain⟨t,h1,R,rfl,h2⟩:=h;exact⟨R,h1,h2⟩) (Ky ?_)
 refine wp_step (ρ':=[‹.lst (L.map D.int)›,‹SS C›,‹.int s›,some (.ow (.tree none (VQ [(s,(0,0))]))),none,none,none,none]) (by rfl) ?_;refine Ck (I:=λ ρ=>∃(R:RA) (s4 s5 s6 s7:Option Cl),ρ=[‹.lst (L.map D.int)›,‹SS C›,‹.int s›,some (.ow (.tree none (VQ R))),s4,s5,s6,s7]/\Qa L C s L.length R) ?_ ?_
 ·simp_arith[];refine Cm (λ i ρ=>i<=L.length/\∃(R:RA) (s4 s5 s6 s7:Option Cl),ρ=[‹.lst (L.map D.int)›,‹SS C›,‹.int s›,some (.ow (.tree none (VQ R))),s4,s5,s6,s7]/\Qa L C s i R) ⟨zba _,_,none,none,none,none,rfl,Qa.start hs⟩ ?_ ?_
  ·rintro i d ρ hd ⟨hi,R,s4,s5,s6,s7,rfl,hR⟩;obtain⟨d',ce,rfl⟩:=FL hd;obtain⟨x,hx,rfl⟩:=BJ ce;have ah:=(zae.mp hx).1;rw[Nat.zero_add];refine⟨_,rfl,?_⟩;have di:=fQ R x false;have rh:=OP hn hx;cases q:Ao R x with
   |none =>
    rw[q] at di;refine Bt (ρ':=_) (by simp_arith[di];rfl) ⟨ah,R,_,_,_,_,rfl,hR.skip hx hn q⟩
   |some c0 =>
    rw[q] at di;have sl:Yh (some ((i:Int)+1)) none (.lst (L.map D.int))=.ok (.lst (((L.drop (i+1)).map D.int).map .sh)):=by rw[List.map_drop];exact Ox _ (i+1)
    simp_arith[di,sl,if_true,Option.isSome_some,zaz,if_false];refine Cm (λ j ρ=>j<=(L.drop (i+1)).length/\∃(R':RA) (s6 s7:Option Cl),ρ=[‹.lst (L.map D.int)›,‹SS C›,‹.int s›,some (.ow (.tree none (VQ R'))),‹.int i›,‹.int x›,s6,s7]/\oK L C s i x c0 ((L.drop (i+1)).take j) R R') ⟨zba _,R,s6,s7,rfl,hR.nd,hR.rg,hR.sd,λ y=>Ct _,λ y _=>rfl,λ y hy=>by rw[List.take_zero] at hy;cases hy⟩ ?_ ?_
    ·rintro j d ρ hd ⟨hj,R',s6,s7,rfl,hI⟩;obtain⟨y,hy,rfl⟩:=BJ hd;have j1:=(zae.mp hy).1;have mo:=zao hy;have xw:y∈L:=List.mem_of_mem_drop mo;have ck:i<BR L y:=Xb hn mo;have et:(L.drop (i+1)).take (j+1)=(L.drop (i+1)).take j++[y]:=by rw[zcz,hy];rfl
     refine⟨_,rfl,?_⟩;rw[et];have t1:∀a b:Int,D.tup [.int a,.int b]=pD (a,b):=λ a b=>rfl;have my:=sY C (x,y) false;cases q2:Ao C (x,y) with
     |none =>
      rw[q2] at my;refine Bt (ρ':=_) (by simp_arith[t1,my];rfl) ⟨j1,R',_,_,rfl,hI.skip q2⟩
     |some dd =>
      rw[q2] at my;have aA:Ao R' x=some c0:=by rw[hI.sm x (by omega)];exact q
      have i1:=VR aA;have i2:=sZ q2;have h1:=G6 (some c0) (some dd);have g1:=fR R' y;obtain⟨v,hv⟩:∃v,Ha (Ao R' y) (some (c0.1+dd.1,c0.2+dd.2))=some v:=by
       cases Ao R' y with
       |none|some z=>exact⟨_,rfl⟩
      have h2:Py [.lst [cst (Ao R' y),cst (some (c0.1+dd.1,c0.2+dd.2))]]=.ok (.sh (cst (Ha (Ao R' y) (some (c0.1+dd.1,c0.2+dd.2))))):=Lf [Ao R' y,some (c0.1+dd.1,c0.2+dd.2)] (by simp);rw[hv] at h2;have aN:=hI.put xw ck rh q q2 hv;have hl:(R'.map λ kv=>D.int kv.1).length<1000:=by
       have:=FV hI.nd hI.rg;rw[za2] at this ⊢;omega
      have ik:∀z:Int,keyOk false (.int z)=true:=λ z=>rfl;have ha:AD (some c0) (some dd)=some (c0.1+dd.1,c0.2+dd.2):=rfl;rw[ha] at h1;simp_arith[t1,my,if_true,Option.isSome_some,zaz,if_false];apply wp_step
      ·simp_arith[t1,i1,i2,h1];rfl
      refine Bt (ρ':=[‹.lst (L.map D.int)›,‹SS C›,‹.int s›,some (.ow (.tree none (VQ (CF R' y v)))),‹.int i›,‹.int x›,‹.int y›,‹cst (some (c0.1+dd.1,c0.2+dd.2))›]) (by
       simp_arith[g1,h2,ik,hl,and_self,if_true,tE];rfl) ⟨j1,_,_,_,rfl,aN⟩
    ·rintro ρ ⟨_,R',s6,s7,rfl,hI⟩;rw[za2,zch] at hI;exact⟨ah,R',_,_,s6,s7,rfl,hR.go (λ p c h=>(hC p c h).2) hx hn q hI⟩
  ·rintro ρ ⟨_,R,s4,s5,s6,s7,rfl,hR⟩;rw[CM,za2] at hR;exact⟨R,s4,s5,s6,s7,rfl,hR⟩
 ·rintro ρ ⟨R,s4,s5,s6,s7,rfl,hR⟩;exact⟨_,rfl,R,rfl,hR⟩
abbrev UK:=za5 K0
def K1:FT "climbed" 2 3 UK:=(za0 K0).1
def K2:Rt UK:=(za0 K0).2
abbrev IB (F:List D->M OT):Prop:=∀(m:Nat) (rs:List Road) (L:List Int) (A:LA) (K:List (Int×Int)),F [Bd m rs L A K]=.ok (.lst ((L.map D.int).map .sh))
def E7:∃F:List D->M OT,(∀ {P w K mg base},Txt K mg->Fc P w K mg base "Ladder" "order" 1 1 F)/\IB F:=by
 refine⟨_,λ T=>Gw (k:=0) T.Pp N4 _ (λ f AX A outer s H E hr=>(A5 (Ae (Em rfl T.D2 (BB ["Ladder"] (Aw T.CH AU) (!0)))))),?_⟩;intro m rs L A K;dsimp only;rfl
abbrev B0:=za5 E7
def E8:Txt K mg->Fc P w K mg base "Ladder" "order" 1 1 B0:=(za0 E7).1
def E9:IB B0:=(za0 E7).2
abbrev IC (F:List D->M OT):Prop:=∀(m:Nat) (rs:List Road) (L:List Int) (A:LA) (K:List (Int×Int)) (s:Nat),Be m rs L A K->s<m->∃R:RA,F [Bd m rs L A K,.int s]=.ok (VQ R)/\Qa L (Hu A K) s L.length R
def Ea:∃F,FT "climbed_from" 5 2 F/\IC F:=by
 refine⟨_,λ T=>As (k:=4) T.Pm MY _ (λ f AX A outer s H E hr=>(A5 (Ae (Aa A7.toXCall (K1 T) (-hr) rfl (A1 (Ag (DK (k:=1) [("Ladder",B0)] A7.toXCall (Bl (by decide) (E8 T) BG) (-hr) (!0))) (A1 (Ag (Aa A7.toXCall (Qz T) (-hr) rfl (A1 (!0) A6) rfl)) (A1 (!1) A6))) rfl)))),?_⟩;intro m rs L A K s ok hs;have hm:=ok.m2;rfl';have h1:=QA m rs L A K ok;have h2:=E9 m rs L A K;have cm:Dk [("Ladder",B0)] "order" (Bd m rs L A K)=.ok B0:=rfl;have j2:(s:Int)∈L:=(B8 ok.pm).mpr ⟨by omega,by omega⟩;obtain⟨R,hF,hR⟩:=K2 m L (Hu A K) s (by omega) ok.pm j2 ok.tP;refine⟨R,B1 ?_,hR⟩;simp_arith[cm,h2,h1,hF];exact⟨_,rfl,rfl⟩
abbrev FA:=za5 Ea
def Nc:FT "climbed_from" 5 2 FA:=(za0 Ea).1
def Nd:IC FA:=(za0 Ea).2
abbrev JA (F:List D->M OT):Prop:=∀(m:Nat) (rs:List Road) (L:List Int) (A:LA) (K:List (Int×Int)) (s:Nat),Be m rs L A K->s<m->∃R:RA,F [Bd m rs L A K,.int s]=.ok (VQ R)/\Qa L (Qq (Hu A K)) s L.length R
def F1:∃F,FT "climbing_to" 5 2 F/\JA F:=by
 refine⟨_,λ T=>As (k:=4) T.Qu P6 _ (λ f AX A outer s H E hr=>(A5 (Ae (Aa A7.toXCall (K1 T) (-hr) rfl (A1 (Ag (DK (k:=1) [("Ladder",B0)] A7.toXCall (Bl (by decide) (E8 T) BG) (-hr) (!0))) (A1 (Ag (Aa A7.toXCall (DU T) (-hr) rfl (A1 (!0) A6) rfl)) (A1 (!1) A6))) rfl)))),?_⟩;intro m rs L A K s ok hs;have hm:=ok.m2;rfl';have h1:=DV m rs L A K ok;have h2:=E9 m rs L A K;have cm:Dk [("Ladder",B0)] "order" (Bd m rs L A K)=.ok B0:=rfl;have j2:(s:Int)∈L:=(B8 ok.pm).mpr ⟨by omega,by omega⟩;obtain⟨R,hF,hR⟩:=K2 m L (Qq (Hu A K)) s (by omega) ok.pm j2 ok.yJ;refine⟨R,B1 ?_,hR⟩;simp_arith[cm,h2,h1,hF];exact⟨_,rfl,rfl⟩
abbrev GL:=za5 F1
def PF:FT "climbing_to" 5 2 GL:=(za0 F1).1
def PH:JA GL:=(za0 F1).2
abbrev ID (F:List D->M OT):Prop:=∀(m:Nat) (rs:List Road) (L:List Int) (A:LA) (K:List (Int×Int)) (s g:Nat) (R1 R2:RA),Be m rs L A K->(FA) [Bd m rs L A K,.int s]=.ok (VQ R1)->(GL) [Bd m rs L A K,.int g]=.ok (VQ R2)->(R1.map zay).Nodup->R1.length<=900->F [Bd m rs L A K,.int s,.int g]=.ok (VQ (Cu R1 R2))
def Eb:∃F,FT "sums_at_tops" 6 3 F/\ID F:=by
 refine⟨_,λ T=>As (k:=5) T.Pn E6 _ (λ f AX A outer s H E hr=>(A2 (Aq 3 E6.nd rfl (Or.inr rfl) (Ag (Aa A7.toXCall (Nc T) (-hr) rfl (A1 (!0) (A1 (!1) A6)) rfl))) (A2 (Aq 4 E6.nd rfl (Or.inr rfl) (Ag (Aa A7.toXCall (PF T) (-hr) rfl (A1 (!0) (A1 (!2) A6)) rfl))) (A5 (Ae (Uj rfl rfl T.SE (Ag (gB (NB:=["place","ahead","behind"]) [none,some 3,some 4] rfl (mQ (!3)) rfl rfl (Cr 0 (by decide) rfl rfl rfl) (λ _ _ _ _=>J3 (S8 (c:=true) (!hr) (!0) (!2))) (λ _ _ _ _=>(AY (A1 (!0) (A1 (Ag (Cj (Aa (BI rfl).toXCall (G5 T) (-hr) rfl (A1 (A9 (!hr) (!1) (!0)) (A1 (A9 (!hr) (!2) (!0)) A6)) rfl))) A6)))))))))))),?_⟩;intro m rs L A K s g R1 R2 ok j3 r9 hn hl;rfl';refine B1 ?_;apply wp_step
 ·simp_arith[j3];rfl
 try simp only[zaj,zag]
 apply wp_step
 ·simp_arith[r9];rfl
 try simp only[zaj,zag]
 have am:(R1.map λ kv=>D.int kv.1).length<=1000:=by rw[za2];omega
 simp_arith[mT,if_pos am];rw[CD (λ kv:Int×(Int×Int)=>(Ao R2 kv.1).isSome) (λ kv=>D.tup [.int kv.1,cst (AD (some kv.2) (Ao R2 kv.1))]) (λ kv jy=>⟨_,rfl,by
  have h1:=fQ R2 kv.1 false;simp_arith[h1];try rfl,λ hp=>by
  have f1:Ao R1 kv.1=some kv.2:=Sk hn jy;obtain⟨c,hc⟩:=zbv.mp hp;have i1:=VR f1;have i2:=VR hc;have j4:=G6 (some kv.2) (some c);rw[hc];simp_arith[i1,i2,j4];try rfl⟩)]
 rw[Rc];have hd:=tR (C:=Cu R1 R2) ((Dn R2 R1).nodup hn) (by
  have:=(Dn R2 R1).length_le;rw[za2,za2] at this;omega)
 simp_arith[hd];exact⟨_,rfl,rfl⟩
abbrev JB:=za5 Eb
def Nf:FT "sums_at_tops" 6 3 JB:=(za0 Eb).1
def Ng:ID JB:=(za0 Eb).2
abbrev Xu (F:List D->M OT):Prop:=∀(m:Nat) (L:List Int) (C:CA) (s:Int),m<=20->L.Perm (BC m)->s∈L->(∀p c,Ao C p=some c->p.1∈L/\p.2∈L)->∃(R:RA) (T:List Co),F [.lst (L.map D.int),SS C,.int s]=.ok (.lst ((T.map cst).map .sh))/\Qa L C s L.length R/\iH m L C s R L.reverse T
def PJ:∃F,FT "swept" 3 3 F/\Xu F:=by
 refine⟨_,λ T=>As (k:=2) T.nG G1 _ (λ f AX A outer s H E hr=>(A2 (Aq 3 G1.nd rfl (zb0 rfl) (Ag (Aa A7.toXCall (K1 T) (-hr) rfl (A1 (!0) (A1 (!1) (A1 (!2) A6))) rfl))) (A2 (C3 4 G1.nd rfl (Or.inr rfl) (eK Cy (CZ rfl T.Fl (!0)))) (A2 (C3 5 G1.nd rfl (zb0 rfl) (HL Cb)) (A2 (Cg A7.toXCall.own rfl (sH rfl T.Wd (!0)) (AW 6 G1.nd rfl (Or.inr rfl)) (A2 (cT (NB:=["high","told","costs","lower"]) 7 [none,some 4,some 1,some 6] G1.nd rfl (zb0 rfl) rfl (Bw (!5)) rfl rfl (Cr 0 (by decide) rfl rfl rfl) (λ _ _ _ _=>El) (λ _ _ _ _=>(Ag (Cj (Aa (BI rfl).toXCall (G5 T) (-hr) rfl (A1 (A9 (!hr) (!1) (!0)) (A1 (OA (!hr) (!2) (AY (A1 (!0) (A1 (!3) A6)))) A6)) rfl))))) (A2 (VA 4 (pv 4) (Ag (Fw (Aa A7.toXCall (Le T) (-hr) rfl (A1 (Ag (Kw (Dg (A1 (OA (!hr) (!3) (!6)) A6)) (!7))) A6) rfl))) (!6)) (A5 (LD 5 (pv 5) (!6)))))) (A5 (En 4 (pv 4)))))))),?_⟩;intro m L C s hm hL hs hC;have hn:=GA hL;have hlen:=Ib hL;obtain⟨R,hF,hR⟩:=K2 m L C s hm hL hs hC;rfl';refine (λ h:∃t,_/\∃T:List Co,t=.lst ((T.map cst).map .sh)/\iH m L C s R L.reverse T=>by
  obtain⟨t,h1,T,rfl,h2⟩:=h;exact⟨R,T,h1,hR,h2⟩) (Ky ?_)
 have il:((L.map D.int).length:Int)=(m:Int):=by rw[za2,hlen]
 have cn:=TU (d:=.Ax) (n:=m) (by omega);have gh:zak m D.Ax=(zak m (none:Co)).map cst:=by rw[List.map_replicate];rfl
 rw[gh] at cn;apply wp_step
 ·simp_arith[hF];rfl
 try simp only[zaj,zag]
 apply wp_step
 ·simp_arith[il,cn];rfl
 try simp only[zaj,zag]
 apply wp_step
 ·rfl
 try simp only[zaj,zag]
 refine Ck (I:=λ ρ=>∃(T:List Co) (s5 s6 s7:Option Cl),ρ=[‹.lst (L.map D.int)›,‹SS C›,‹.int s›,‹YQ R›,some (.own (T.map cst)),s5,s6,s7]/\iH m L C s R L.reverse T) ?_ ?_
 ·have gi:(L.map D.int).reverse=L.reverse.map D.int:=by rw[List.map_reverse]
  simp_arith[gi];refine Cm (λ i ρ=>i<=L.reverse.length/\∃(T:List Co) (s6 s7:Option Cl),ρ=[‹.lst (L.map D.int)›,‹SS C›,‹.int s›,‹YQ R›,some (.own (T.map cst)),some (.own ((L.reverse.take i).map D.int)),s6,s7]/\iH m L C s R (L.reverse.take i) T) ⟨zba _,_,none,none,rfl,iH.start⟩ ?_ ?_
  ·rintro i d ρ hd ⟨hi,T,s6,s7,rfl,hT⟩;obtain⟨y,hy,rfl⟩:=BJ hd;have ah:=(zae.mp hy).1;have ck:=(B8 hL).mp (List.mem_reverse.mp (zao hy));have et:L.reverse.take (i+1)=L.reverse.take i++[y]:=by rw[zcz,hy];rfl
   rw[zbp] at ah;have xx:L[L.length-1-i]?=some y:=by rw[List.getElem?_reverse ah] at hy;exact hy
   have hrk:=OP hn xx;have se:∀x∈L.reverse.take i,(0<=x/\x<m)/\BR L y<BR L x:=λ x hx=>by
    have xy:=List.mem_reverse.mp (zca hx);refine⟨(B8 hL).mp xy,?_⟩;rw[List.take_reverse,List.mem_reverse] at hx;have:=Xb hn hx;omega
   have rn:y∉L.reverse.take i:=λ hx=>by have:=(se y hx).2;omega
   have mz:=hT.len;refine⟨_,rfl,?_⟩;have dh:((L.reverse.take i).map D.int).length<=1000:=by rw[za2,zbf,zbp];omega
   have t1:∀a b:Int,D.tup [.int a,.int b]=pD (a,b):=λ a b=>rfl;have g1:=fR R y;obtain⟨vs,ay⟩:∃vs:List Co,vs=(L.reverse.take i).map λ x=>AD (atC T x) (Ao C (x,y)):=⟨_,rfl⟩;apply wp_step
   ·simp_arith[if_pos dh];rw[BP (λ x=>cst (AD (atC T x) (Ao C (x,y)))) (λ x hx=>⟨_,rfl,rfl,by
     have mx:=(se x hx).1;have x1:AI (.lst (T.map cst)) (.int x)=.ok (cst (atC T x)):=FU mx.1 (by rw[mz];exact mx.2);have g2:=tD C (x,y);have h1:=G6 (atC T x) (Ao C (x,y));simp_arith[t1,x1,g2,h1]⟩)]
    have ev:(L.reverse.take i).map (λ x=>cst (AD (atC T x) (Ao C (x,y))))=vs.map cst:=by rw[ay,zbx];rfl
    rw[ev];have dv:=fV vs;simp_arith[dv];rfl
   try simp only[zaj,zag]
   have hpl:Ko (.lst [cst (Ao R y)]) (.lst (vs.map cst))=.ok (.lst (((Ao R y::vs).map cst).map .sh)):=KL (by rw[ay,za2,za2,zbf,zbp,zbh];omega);have h3:=Lf (Ao R y::vs) (by rw[ay,za8,za2,zbf,zbp];omega);have aN:=Sh (i:=4) (ρ:=[‹.lst (L.map D.int)›,‹SS C›,‹.int s›,‹YQ R›,some (.own (T.map cst)),some (.own ((L.reverse.take i).map D.int)),‹.int y›,some (.own (vs.map cst))]) (d:=cst (Hr (Ao R y::vs))) (p:=y) rfl ck.1 (by rw[za2,mz];exact ck.2);have cr:(T.map cst).set y.toNat (cst (Hr (Ao R y::vs)))=(T.set y.toNat (Hr (Ao R y::vs))).map cst:=by rw[List.map_set]
   rw[cr] at aN;apply wp_step
   ·simp_arith[g1,hpl,h3,aN];rfl
   try simp only[zaj,zag]
   have xz:((L.reverse.take i).map D.int).length<1000:=by rw[za2,zbf,zbp];omega
   refine Bt (ρ':=[‹.lst (L.map D.int)›,‹SS C›,‹.int s›,‹YQ R›,some (.own ((T.set y.toNat (Hr (Ao R y::vs))).map cst)),some (.own ((L.reverse.take (i+1)).map D.int)),‹.int y›,some (.own (vs.map cst))]) (by simp_arith[if_pos xz,et,zas,za6,List.map_nil]) ⟨by rw[zbp];exact ah,_,_,_,rfl,?_⟩;rw[et,ay];exact hT.step hR.sd ck.1 ck.2 rn se
  ·rintro ρ ⟨_,T,s6,s7,rfl,hT⟩;rw[za2,zch] at hT;exact⟨T,_,s6,s7,rfl,hT⟩
 ·rintro ρ ⟨T,s5,s6,s7,rfl,hT⟩;exact⟨_,rfl,T,rfl,hT⟩
abbrev iB:=za5 PJ
def iC:FT "swept" 3 3 iB:=(za0 PJ).1
def iD:Xu iB:=(za0 PJ).2
abbrev Li (F:List D->M OT):Prop:=∀(m s:Nat) (rs:List Road),s<m->m<=900->(∀r∈rs,Sf m r)->∃cs:List Co,Right m s rs cs/\F [Ad m rs,.int s]=.ok (.lst ((cs.map cst).map .sh))
def FC:∃F,FT "costs_from" 2 2 F/\Li F:=by
 refine⟨_,λ T=>As (k:=1) T.SA BD _ (λ f AX A outer s H E hr=>(A2 (C3 2 BD.nd rfl (zb0 rfl) (eK Cy (A9 (!hr) (!0) A4))) (A2 (VA 2 (pv 2) (AY (A1 A4 (A1 A4 A6))) (!1)) (A2 (Aq 3 BD.nd rfl (zb0 rfl) D9) (A2 (Oc A7.toXCall.own (Ba (c:=true) (!3)) (A2 (Aq 3 BD.nd rfl (zb0 rfl) D9) (A5 (Cg A7.toXCall.own rfl (Bw (A9 (!hr) (!0) A4)) (AW 4 BD.nd rfl (zb0 rfl)) (A2 (Aq 5 BD.nd rfl (zb0 rfl) (Ag (Fw (Aa A7.toXCall (Le T) (-hr) rfl (A1 (Dg (A1 (A9 (!hr) (!2) (A9 (!hr) (!4) A4)) (A1 (Ag (Aa A7.toXCall (G5 T) (-hr) rfl (A1 (A9 (!hr) (!2) (A9 (!hr) (!4) A4)) (A1 (Ag (Aa A7.toXCall (GH T) (-hr) rfl (A1 (!4) A6) rfl)) A6)) rfl)) A6))) A6) rfl)))) (A5 (AZ (HM (FJ (c:=true) (!hr) (!5) (A9 (!hr) (!2) (A9 (!hr) (!4) A4)))) (A2 (VA 2 (pv 2) (!5) (A9 (!hr) (!4) A4)) (A5 (Aq 3 BD.nd rfl (zb0 rfl) D9))) Ap))))))) (A5 (En 2 (pv 2)))))))),?_⟩;intro m s rs hs hm AF;rfl';refine (λ h:∃t,_/\∃cs:List Co,Right m s rs cs/\t=.lst ((cs.map cst).map .sh)=>by
  obtain⟨t,h1,cs,h2,rfl⟩:=h;exact⟨cs,h2,h1⟩) (Ky ?_)
 have n0:AI (Ad m rs) (.int 0)=.ok (.int m):=rfl;have n1:AI (Ad m rs) (.int 1)=.ok (.lst (rs.map Bx)):=rfl;have cn:=TU (d:=.Ax) (n:=m) (by omega);have gh:zak m D.Ax=(zak m (none:Co)).map cst:=by rw[List.map_replicate];rfl
 rw[gh] at cn;apply wp_step
 ·simp_arith[n0,cn];rfl
 try simp only[zaj,zag]
 have aN:=Sh (i:=2) (ρ:=[‹Ad m rs›,‹.int s›,some (.own ((zak m (none:Co)).map cst)),none,none,none]) (d:=.tup [.int 0,.int 0]) (p:=(s:Int)) rfl (by omega) (by rw[za2,List.length_replicate];omega);have cr:((zak m (none:Co)).map cst).set (s:Int).toNat (.tup [.int 0,.int 0])=((zak m none).set s (some (0,0))).map cst:=by rw[zbg,List.map_set];rfl
 rw[cr] at aN;apply wp_step
 ·simp_arith[aN];rfl
 try simp only[zaj,zag]
 apply wp_step
 ·rfl
 try simp only[zaj,zag]
 refine Ck (I:=λ ρ=>∃(cs:List Co) (s3 s4 s5:Option Cl),ρ=[‹Ad m rs›,‹.int s›,some (.own (cs.map cst)),s3,s4,s5]/\Right m s rs cs) ?_ ?_
 ·refine Ot (lt:=Rcb) (λ z ρ=>∃(s4 s5:Option Cl),ρ=[‹Ad m rs›,‹.int s›,some (.own (z.1.map cst)),‹.bl z.2›,s4,s5]/\Good m s rs z.1/\(z.2=false->Right m s rs z.1)) (tG _) ⟨none,none,rfl,VJ rs hs,λ e=>by cases e⟩ ?_;rintro ⟨cs,b⟩ ρ ⟨s4,s5,rfl,g,hR⟩;cases b with
  |false=>exact .inl ⟨rfl,cs,_,s4,s5,rfl,hR rfl⟩
  |true =>
   refine .inr ⟨rfl,?_⟩;apply wp_step
   ·rfl
   try simp only[zaj,zag]
   simp_arith[n1];refine Cm (λ i ρ=>∃(au:List Co) (ch:Bool) (s4 s5:Option Cl),ρ=[‹Ad m rs›,‹.int s›,some (.own (au.map cst)),‹.bl ch›,s4,s5]/\Good m s rs au/\(ch=true->Q8 ltN au cs)/\(ch=false->au=cs/\∀r∈rs.take i,Ha (atC cs r.b) (AD (atC cs r.a) (CT r))=atC cs r.b)) ⟨cs,false,s4,s5,rfl,g,(λ h=>by cases h),λ _=>⟨rfl,λ r hr=>by rw[List.take_zero] at hr;cases hr⟩⟩ ?_ ?_
   ·rintro i d ρ hd ⟨au,ch,s4,s5,rfl,g1,h1,h2⟩;obtain⟨r,hq,rfl⟩:=BJ hd;have hr:=zao hq;have ok:=AF r hr;obtain⟨g2,_,g4,g5⟩:=YG g1 hr AF;have ij:r.b<au.length:=by rw[g1.len];exact ok.b1
    have x3:r.a<au.length:=by rw[g1.len];exact ok.a1
    have r0:AI (Bx r) (.int 0)=.ok (.int r.a):=rfl;have r1:AI (Bx r) (.int 1)=.ok (.int r.b):=rfl;have x0:AI (.lst (au.map cst)) (.int r.a)=.ok (cst (atC au r.a)):=FU ok.a0 x3;have x1:AI (.lst (au.map cst)) (.int r.b)=.ok (cst (atC au r.b)):=FU ok.b0 ij;have sf:=GI r;have j4:=G6 (atC au r.a) (CT r);have hle:Py [.lst [cst (atC au r.b),cst (AD (atC au r.a) (CT r))]]=.ok (.sh (cst (Ha (atC au r.b) (AD (atC au r.a) (CT r))))):=Lf [atC au r.b,AD (atC au r.a) (CT r)] (by simp);have ad:=lY (Ha (atC au r.b) (AD (atC au r.a) (CT r))) (atC au r.b);refine⟨_,rfl,?_⟩;apply wp_step
    ·simp_arith[r0,r1,x0,x1,sf,j4,hle];rfl
    try simp only[zaj,zag]
    by_cases hc:Ha (atC au r.b) (AD (atC au r.a) (CT r))=atC au r.b
    ·rw[decide_eq_true hc] at ad;refine Bt (ρ':=_) (by simp_arith[r1,x1,ad];rfl) ⟨au,ch,_,_,rfl,g1,h1,λ hf=>?_⟩;obtain⟨e1,e2⟩:=h2 hf;subst e1;refine⟨rfl,λ r' bw=>?_⟩;rw[zcz,hq] at bw;rcases zal.mp bw with bw|bw
     ·exact e2 r' bw
     ·have:r'=r:=by simpa using bw
      rw[this];exact hc
    ·rw[decide_eq_false hc] at ad;have aN:=Sh (i:=2) (ρ:=[‹Ad m rs›,‹.int s›,some (.own (au.map cst)),‹.bl ch›,‹Bx r›,‹cst (Ha (atC au r.b) (AD (atC au r.a) (CT r)))›]) (d:=cst (Ha (atC au r.b) (AD (atC au r.a) (CT r)))) (p:=r.b) rfl ok.b0 (by rw[za2];exact ij);have cr:(au.map cst).set r.b.toNat (cst (Ha (atC au r.b) (AD (atC au r.a) (CT r))))=(Dm r au).map cst:=by unfold Dm;rw[List.map_set]
     rw[cr] at aN;simp_arith[r1,x1,ad,if_true];apply wp_step
     ·simp_arith[r1,aN];rfl
     refine Bt (ρ':=_) rfl ⟨Dm r au,true,_,_,rfl,g2,λ _=>?_,λ hf=>by cases hf⟩;cases ch with
     |false=>obtain⟨e1,_⟩:=h2 rfl;subst e1;exact g5 hc
     |true=>exact Q8.trans ltN YE (g5 hc) (h1 rfl)
   ·rintro ρ' ⟨au,ch,s4,s5,rfl,g1,h1,h2⟩;cases ch with
    |true=>exact⟨(au,true),⟨rfl,.inr ⟨rfl,h1 rfl⟩⟩,s4,s5,rfl,g1,λ e=>by cases e⟩
    |false =>
     obtain⟨e1,e2⟩:=h2 rfl;subst e1;rw[za2,zch] at e2;exact⟨(au,false),⟨rfl,.inl rfl⟩,s4,s5,rfl,g1,λ _=>right_of g1 e2⟩
 ·rintro ρ' ⟨cs,s3,s4,s5,rfl,hR⟩;exact⟨_,rfl,cs,hR,rfl⟩
abbrev MH:=za5 FC
def QB:FT "costs_from" 2 2 MH:=(za0 FC).1
def JC:Li MH:=(za0 FC).2
abbrev PL (F:List D->M OT):Prop:=∀(m:Nat) (rs:List Road) (L:List Int) (A:LA) (K:List (Int×Int)) (s:Nat),Be m rs L A K->s<m->∃T:List Co,F [Bd m rs L A K,.int s]=.ok (.lst ((T.map cst).map .sh))/\T.length=m/\∀w:Int,0<=w->w<m->By rs w s (atC T w)
def IE:∃F,FT "costs_in" 5 2 F/\PL F:=by
 refine⟨_,λ T=>As (k:=4) T.W4 Us _ (λ f AX A outer s H E hr=>(A5 (Ae (Aa A7.toXCall (iC T) (-hr) rfl (A1 (Ag (DK (k:=1) [("Ladder",B0)] A7.toXCall (Bl (by decide) (E8 T) BG) (-hr) (!0))) (A1 (Ag (Aa A7.toXCall (DU T) (-hr) rfl (A1 (!0) A6) rfl)) (A1 (!1) A6))) rfl)))),?_⟩;intro m rs L A K s ok hs;have hm:=ok.m2;rfl';have h1:=DV m rs L A K ok;have h2:=E9 m rs L A K;have cm:Dk [("Ladder",B0)] "order" (Bd m rs L A K)=.ok B0:=rfl;have j2:(s:Int)∈L:=(B8 ok.pm).mpr ⟨by omega,by omega⟩;have dk:∀p c,Ao (Hu A K) p=some c->p.1∈L/\p.2∈L:=λ p c h=>by
  have hm:=OL h;unfold Hu at hm;obtain⟨q,hq,e⟩:=zar.mp hm;cases e;have:=ok.V1 hq;exact⟨(B8 ok.pm).mpr this.2.1,(B8 ok.pm).mpr this.2.2⟩
 have hC:∀p c,Ao (Qq (Hu A K)) p=some c->p.1∈L/\p.2∈L:=λ p c h=>by
  rw[show p=(p.1,p.2) from rfl,KS] at h;have:=dk _ _ h;exact⟨this.2,this.1⟩
 obtain⟨R,T,hF,hR,hT⟩:=iD m L (Qq (Hu A K)) s (by omega) ok.pm j2 hC;refine⟨T,B1 ?_,hT.len,λ w h0 h1=>?_⟩
 ·simp_arith[cm,h2,h1,hF];exact⟨_,rfl,rfl⟩
 ·have hU:=hR.upC (m:=m) hC;have a5:∀x:Int,0<=x->x<m->x∈L.reverse:=λ x a b=>List.mem_reverse.mpr ((B8 ok.pm).mpr ⟨a,b⟩);obtain⟨T',vh⟩:∃T':Int->Co,T'=λ x:Int=>if 0<=x/\x<(m:Int) then atC T x else none:=⟨_,rfl⟩
  have j5:∀x:Int,0<=x->x<m->T' x=atC T x:=λ x a b=>by rw[vh];exact if_pos ⟨a,b⟩
  have hS:zN (BR L) (λ x y=>Ao (Qq (Hu A K)) (x,y)) s (Ao R) T' m:=⟨λ x a b=>by rw[j5 x a b];exact hT.top x (a5 x a b),λ x y a b c d hr=>by rw[j5 x a b,j5 y c d];exact hT.cl x (a5 x a b) y (a5 y c d) hr,λ x c hx=>by
   have aw:0<=x/\x<m:=by
    refine zcx λ hn=>?_;rw[vh] at hx;dsimp only at hx;rw[if_neg hn] at hx;cases hx
   rw[j5 x aw.1 aw.2] at hx;exact hT.sd x c aw.1 aw.2 hx⟩
  have x4:(λ x y=>Ao (Qq (Hu A K)) (x,y))=λ x y=>Ao (Hu A K) (y,x):=by funext x y;exact KS x y _
  rw[x4] at hU hS;obtain⟨cs,x5,_⟩:=JC m w.toNat rs (by omega) (by omega) (λ r hr=>(ok.ok r hr).1);have aW:=x5.oE (λ r hr=>(ok.ok r hr).1) (w:=(s:Int)) (by omega) (by omega);have ew:((w.toNat:Nat):Int)=w:=by omega
  rw[ew] at aW;have q:=(YL (s:=(s:Int)) (w:=w) ok.Zh.turn ok.kept.turn ⟨by omega,by omega⟩ hU hS aW.turn).turn;rw[FW,j5 w h0 h1] at q;exact q
abbrev Ru:=za5 IE
def UL:FT "costs_in" 5 2 Ru:=(za0 IE).1
def UM:PL Ru:=(za0 IE).2
abbrev IF (F:List D->M OT):Prop:=∀(m:Nat) (rs:List Road) (L:List Int) (A:LA) (K:List (Int×Int)) (s g:Nat) (x:Co),Be m rs L A K->s<m->g<m->By rs s g x->F [Bd m rs L A K,.int s,.int g]=.ok (.sh (cst x))
def Ec:∃F,FT "cost_between" 7 3 F/\IF F:=by
 refine⟨_,λ T=>As (k:=6) T.Po MZ _ (λ f AX A outer s H E hr=>(A5 (Ae (Aa A7.toXCall (Le T) (-hr) rfl (A1 (Ag (Uh rfl rfl T.D2 (Ag (Aa A7.toXCall (Nf T) (-hr) rfl (A1 (!0) (A1 (!1) (A1 (!2) A6))) rfl)))) A6) rfl)))),?_⟩;intro m rs L A K s g x ok hs hg hx;dsimp only;have hm:=ok.m2;obtain⟨R1,j3,sg⟩:=Nd m rs L A K s ok hs;obtain⟨R2,r9,x6⟩:=PH m rs L A K g ok hg;have hRl:R1.length<=m:=by have:=sg.len;rw[Ib ok.pm] at this;exact this
 have hS:=Ng m rs L A K s g R1 R2 ok j3 r9 sg.nd (by omega);have aW:=gE ok (s:=(s:Int)) (g:=(g:Int)) ⟨by omega,by omega⟩ ⟨by omega,by omega⟩ sg x6 hx;have hl:(Cu R1 R2).length<=900:=by
  have:=(Dn R2 R1).length_le;rw[za2,za2] at this;omega
 obtain⟨S,x8⟩:∃S,S=Cu R1 R2:=⟨_,rfl⟩;rw[<-x8] at hS hl aW;rw[<-aW];rfl';refine B1 ?_;have hle:=Lf (S.map λ kv=>some kv.2) (by rw[za2];omega);rw[zbx] at hle;have gj:Py [.lst (S.map λ kv=>cst (some kv.2))]=.ok (.sh (cst (Hr (S.map λ kv=>some kv.2)))):=hle;simp_arith[hS,mU,gj];rfl
abbrev JD:=za5 Ec
def Nh:FT "cost_between" 7 3 JD:=(za0 Ec).1
def Ni:IF JD:=(za0 Ec).2
abbrev G7 (F:List D->M OT):Prop:=∀(m:Nat) (rs:List Road) (L:List Int) (A:LA) (K:List (Int×Int)) (T:List Co) (p:Int),Be m rs L A K->T.length=m->0<=p->p<m->F [Bd m rs L A K,.lst (T.map cst),.int p]=.ok (.lst (((Mu A K T p).map pD).map .sh))
def D4:∃F,FT "arcs_by_prices" 4 3 F/\G7 F:=by
 refine⟨_,λ T=>As (k:=3) T.M7 Fh _ (λ f AX A outer s H E hr=>(A2 (S0 (NB:=["arc","place"]) 3 [none,some 2] Fh.nd rfl (zb0 rfl) rfl (Bw (Ag (DK (k:=1) [("Ladder",B5)] A7.toXCall (Bl (by decide) (EX T) BG) (-hr) (!0)))) rfl rfl (Cr 0 (by decide) rfl rfl rfl) (λ _ _ _ _=>J3 (Ki (c:=true) (!hr) (A9 (!hr) (!0) A4) (!1))) (λ _ _ _ _=>(!0))) (A5 (Ae (Dz (NB:=["arc","prices","place","ladder"]) [none,some 1,some 2,some 0] rfl (Bw (!3)) rfl rfl (Cr 0 (by decide) rfl rfl rfl) (λ _ _ _ _=>J3 (Ki (c:=true) (!hr) (Ag (Cj (Aa (BI rfl).toXCall (G5 T) (-hr) rfl (A1 (Ag (Ff (k:=3) [("Ladder",B4)] (BI rfl).toXCall (Bl (by decide) (EU T) BG) (-hr) (!3) (A1 (!2) (A1 (A9 (!hr) (!0) A4) A6)) rfl)) (A1 (A9 (!hr) (!1) (A9 (!hr) (!0) A4)) A6)) rfl))) (A9 (!hr) (!1) (!2)))) (λ _ _ _ _=>(!0))))))),?_⟩;intro m rs L A K T p ok hT h0 h1;rfl';refine B1 ?_;have hs:Dk [("Ladder",B5)] "kept" (Bd m rs L A K)=.ok B5:=rfl;have a9:Dk [("Ladder",B4)] "cost" (Bd m rs L A K)=.ok B4:=rfl;have hk:=EY m rs L A K;have mt:=ok.kl;have dh:(K.map pD).length<=1000:=by rw[za2];omega
 refine wp_step (ρ':=[‹Bd m rs L A K›,‹.lst (T.map cst)›,‹.int p›,‹.lst ((K.filter λ q=>decide (q.1=p)).map pD)›]) (by
  simp_arith[hs,hk,if_pos dh];rw[CD (λ q:Int×Int=>decide (q.1=p)) pD (λ q hq=>⟨_,rfl,by
   have p0:AI (pD q) (.int 0)=.ok (.int q.1):=rfl;simp_arith[p0];try rfl,λ _=>by simp_arith[]⟩)]
  try rfl) ?_
 have am:((K.filter λ q=>decide (q.1=p)).map pD).length<=1000:=by
  have:=List.length_filter_le (λ q:Int×Int=>decide (q.1=p)) K;rw[za2];omega
 have x2:AI (.lst (T.map cst)) (.int p)=.ok (cst (atC T p)):=FU h0 (by omega);simp_arith[if_pos am];rw[CD (Z2 A T p) pD (λ q hq=>⟨_,rfl,by
  obtain⟨q1,q2⟩:=zb9.mp hq;have e:q.1=p:=by simpa using q2
  have dk:=ok.V1 q1;obtain⟨c,hc,_⟩:=(ok.km q).mp q1;obtain⟨qa,qb⟩:=q;dsimp only at e dk;subst e;have p1:AI (pD (qa,qb)) (.int 1)=.ok (.int qb):=rfl;have h2:=EV m rs L A K qa qb c ok.yA hc;have x1:AI (.lst (T.map cst)) (.int qb)=.ok (cst (atC T qb)):=FU dk.2.2.1 (by omega);have j4:=G6 (some c) (atC T qb);have cu:=KH (AD (some c) (atC T qb)) (atC T qa);have eb:Z2 A T qa (qa,qb)=decide (AD (some c) (atC T qb)=atC T qa):=by unfold Z2;rw[hc]
  rw[eb];simp_arith[a9,p1,h2,x1,x2,j4,cu];try rfl,λ _=>by simp_arith[]⟩)]
 exact⟨_,rfl,rfl⟩
abbrev Hg:=za5 D4
def Lj:FT "arcs_by_prices" 4 3 Hg:=(za0 D4).1
def Lk:G7 Hg:=(za0 D4).2
abbrev Ll (F:List D->M OT):Prop:=∀(m:Nat) (rs:List Road) (p c:Int×Int),rs.length<=900->(∃r∈rs,r.a=p.1/\r.b=p.2/\CT r=some c)->F [Ad m rs,pD p,cst (some c)]=.ok (.sh (.int (OU rs p c:Nat)))
def FD:∃F,FT "road_under" 2 3 F/\Ll F:=by
 refine⟨_,λ T=>As (k:=1) T.SD Jo _ (λ f AX A outer s H E hr=>(A2 (S0 (NB:=["number","road","arc","cost"]) 3 [none,none,some 1,some 2] Jo.nd rfl (zb0 rfl) rfl (Kl rfl T.DQ (A9 (!hr) (!0) A4)) rfl rfl (Kx (n:=2) rfl (BY 0 (by decide) rfl rfl rfl (BY 1 (by decide) rfl rfl rfl HV))) (λ _ _ _ _=>J3 (DW.dt (RX (Ki (c:=true) (!hr) (AY (A1 (A9 (!hr) (!1) A4) (A1 (A9 (!hr) (!1) A4) A6))) (!2)) (Ny (Ki (c:=true) (!hr) (Ag (Cj (Aa (BI rfl).toXCall (GH T) (-hr) rfl (A1 (!1) A6) rfl))) (!3)))))) (λ _ _ _ _=>(!0))) (A5 (Ae (AG (A9 (!hr) (!3) A4)))))),?_⟩;intro m rs p c hl hr;rfl';refine B1 ?_;obtain⟨r,t,hq,_⟩:=Xk hr;have n1:AI (Ad m rs) (.int 1)=.ok (.lst (rs.map Bx)):=rfl;have am:((zb8 rs.length).map λ i:Nat=>D.tup [.int (i:Int),Bx (rs.getD i ⟨0,0,none,0⟩)]).length<=1000:=by rw[za2,zc4];omega
 refine wp_step (ρ':=[‹Ad m rs›,‹pD p›,‹cst (some c)›,‹.lst (((zb8 rs.length).filter (gF rs p c)).map λ i:Nat=>D.int (i:Int))›]) (by
  simp_arith[n1,Rg,if_pos am];rw[CD (gF rs p c) (λ i:Nat=>D.int (i:Int)) (λ i hi=>⟨_,rfl,by
   have x9:=zcb.mp hi;obtain⟨r,hr⟩:∃r,rs[i]?=some r:=⟨_,za7 x9⟩;have eg:rs.getD i ⟨0,0,none,0⟩=r:=by rw[zbb,hr];rfl
   have r0:AI (Bx r) (.int 0)=.ok (.int r.a):=rfl;have r1:AI (Bx r) (.int 1)=.ok (.int r.b):=rfl;have t1:D.tup [.int r.a,.int r.b]=pD (r.a,r.b):=rfl;have cu:=tS (r.a,r.b) p;have sf:=GI r;have hd2:=KH (CT r) (some c);have eb:gF rs p c i=(decide ((r.a,r.b)=p)&&decide (CT r=some c)):=by
    unfold gF;rw[hr];dsimp only;by_cases e1:(r.a,r.b)=p
    ·subst e1;simp
    ·have:¬ (r.a=p.1/\r.b=p.2/\CT r=some c):=λ h=>e1 (Prod.ext h.1 h.2.1);rw[decide_eq_false this,decide_eq_false e1];rfl
   rw[eb,eg];by_cases e1:(r.a,r.b)=p
   ·rw[decide_eq_true e1] at cu ⊢;simp_arith[r0,r1,t1,cu,sf,hd2,Bool.true_and];try rfl
   ·rw[decide_eq_false e1] at cu ⊢;simp_arith[r0,r1,t1,cu];try rfl,λ _=>by simp_arith[]⟩)]
  try rfl) ?_
 rw[hq];have hx:AI (.lst ((OU rs p c::t).map λ i:Nat=>D.int (i:Int))) (.int 0)=.ok (.int (OU rs p c:Nat)):=Gz (by decide) rfl;simp_arith[hx];rfl
abbrev MI:=za5 FD
def QC:FT "road_under" 2 3 MI:=(za0 FD).1
def QD:Ll MI:=(za0 FD).2
abbrev Fn (F:List D->M OT):Prop:=∀(m:Nat) (rs:List Road) (L:List Int) (A:LA) (K:List (Int×Int)) (u w:Int),Be m rs L A K->(Ao A (u,w)).isSome=true->(∀c,Ab A (u,w)=some c->c.2<=256)->F [Bd m rs L A K,.int u,.int w]=.ok (.lst (((CG rs L A (u,w)).map λ n:Nat=>D.int (n:Int)).map .sh))
def CI:∃F:List D->M OT,(∀ {P w K mg base},Txt K mg->Fc P w K mg base "Ladder" "unpacked" 3 3 F)/\Fn F:=by
 refine⟨_,λ T=>Gw (k:=2) T.La Bv _ (λ f AX A outer s H E hr=>(A2 (C3 3 Bv.nd rfl (zb0 rfl) (HL Cb)) (A2 (C3 4 Bv.nd rfl (zb0 rfl) (HL (C6 (Ff (k:=2) [("Ladder",AN)] A7.toXCall (Bl (by decide) (Dd T) BG) (-hr) (!0) (A1 (!1) (A1 (!2) A6)) rfl) Cb))) (A2 (Oc A7.toXCall.own (HM (Ba (c:=true) (!4))) (A2 (kO 5 Bv.nd rfl (zb0 rfl) (sE (Bg 4 (pv 4)))) (A2 (Aq 6 Bv.nd rfl (zb0 rfl) (A9 (!hr) (A9 (!hr) (BB ["Ladder"] (Aw T.BZ AU) (!0)) (!5)) A4)) (A5 (AZ (EE (c:=true) (!6)) (A5 (VE (Bg 3 (pv 3)) (Aa A7.toXCall (QC T) (-hr) rfl (A1 (BB ["Ladder"] (Aw T.Bq AU) (!0)) (A1 (!5) (A1 (A9 (!hr) (A9 (!hr) (BB ["Ladder"] (Aw T.BZ AU) (!0)) (!5)) A4) A6))) rfl))) (A2 (LD 4 (pv 4) (AY (A1 (!6) (A1 (A9 (!hr) (!5) A4) A6)))) (A5 (LD 4 (pv 4) (AY (A1 (A9 (!hr) (!5) A4) (A1 (!6) A6))))))))))) (A5 (En 3 (pv 3))))))),?_⟩;intro m rs L A K u w ok hf m6;rfl';refine B1 ?_;have hA:=ok.yA;obtain⟨z0,sn⟩:=zbv.mp hf;have vj:Ab A (u,w)=some z0.1:=by unfold Ab;rw[sn];rfl
 have hk:=hA.rg _ (EN vj);have aY:=De m rs L A K u w hk.2.1.1 hk.2.1.2 hk.2.2.1 hk.2.2.2 hf;have av:Dk [("Ladder",AN)] "checked_arc" (Bd m rs L A K)=.ok AN:=rfl;have f1:Jg ["Ladder"] "own_map" (Bd m rs L A K)=.ok (Ad m rs):=rfl;have f2:Jg ["Ladder"] "laid" (Bd m rs L A K)=.ok (Qp A):=rfl;have xL:=LY ok _ (c:=z0.1) (mid:=z0.2) rfl sn;have ya:(CG rs L A (u,w)).length<=256:=by
  have:=xL.ln;have:=m6 _ vj;omega
 refine wp_step (ρ':=[‹Bd m rs L A K›,‹.int u›,‹.int w›,some (.own []),none,none,none]) (by simp_arith[];try rfl) ?_;refine wp_step (ρ':=[‹Bd m rs L A K›,‹.int u›,‹.int w›,some (.own []),some (.own [pD (u,w)]),none,none]) (by simp_arith[av,aY];try rfl) ?_;refine Ck (I:=λ ρ=>∃s4 s5 s6:Option Cl,ρ=[‹Bd m rs L A K›,‹.int u›,‹.int w›,some (.own ((CG rs L A (u,w)).map λ n:Nat=>D.int (n:Int))),s4,s5,s6]) ?_ ?_
 ·refine Ot (lt:=λ a b:Nat=>a<b) (λ n ρ=>∃(N:List Nat) (W:List (Int×Int)) (o5 o6:Option D),ρ=[‹Bd m rs L A K›,‹.int u›,‹.int w›,some (.own (N.map λ n:Nat=>D.int (n:Int))),some (.own ((W.map pD).reverse)),vO o5,vO o6]/\oQ rs L A W=n/\(∀p∈W,(Ao A p).isSome=true)/\N++Um rs L A W=CG rs L A (u,w)) (Nat.lt_wfRel.wf.apply (oQ rs L A [(u,w)])) ⟨[],[(u,w)],none,none,rfl,rfl,(λ p hp=>by rw[za9.mp hp];exact hf),by unfold Um;simp⟩ ?_;rintro n ρ ⟨N,W,o5,o6,rfl,hn,hW,hE⟩;have hlen:=congrArg List.length hE;rw[zah] at hlen;have e9:=Sr ok hW;cases W with
  |nil =>
   left;refine⟨rfl,some (.own []),vO o5,vO o6,?_⟩;have:N=CG rs L A (u,w):=by rw[<-hE];unfold Um;simp
   rw[this];rfl
  |cons p W =>
   have so:Eo (.lst (((p::W).map pD).reverse))=.ok true:=by
    rw[eA];simp
   obtain⟨z,hz⟩:=zbv.mp (hW p za3);obtain⟨c,mid⟩:=z;obtain⟨_,m2,m3⟩:=Ja ok hz;have yb:=LY ok _ rfl hz;have gi:((p::W).map pD).reverse=(W.map pD).reverse++[pD p]:=by rw[za6,List.reverse_cons]
   have hi:=OM hz;have l0:AI (VM (c,mid)) (.int 0)=.ok (cst (some c)):=rfl;have l1:AI (VM (c,mid)) (.int 1)=.ok (E5 mid):=rfl;have p0:AI (pD p) (.int 0)=.ok (.int p.1):=rfl;have p1:AI (pD p) (.int 1)=.ok (.int p.2):=rfl;have vk:Um rs L A (p::W)=CG rs L A p++Um rs L A W:=rfl;rw[vk,zah] at hlen;rw[vk] at hE;have yc:oQ rs L A (p::W)=2*(CG rs L A p).length-1+oQ rs L A W:=rfl;rw[yc] at hn;have yd:=Sr ok λ q hq=>hW q (za4 _ hq);right;constructor
   ·simp_arith[so];try rfl
   rw[gi];have hp:=Z0 (ρ:=[‹Bd m rs L A K›,‹.int u›,‹.int w›,some (.own (N.map λ n:Nat=>D.int (n:Int))),some (.own ((W.map pD).reverse++[pD p])),vO o5,vO o6]) (i:=4) (xs:=(W.map pD).reverse) (d:=pD p) rfl;apply wp_step
   ·simp_arith[hp];rfl
   try simp only[zaj,zag]
   refine wp_step (ρ':=[‹Bd m rs L A K›,‹.int u›,‹.int w›,some (.own (N.map λ n:Nat=>D.int (n:Int))),some (.own ((W.map pD).reverse)),‹pD p›,‹E5 mid›]) (by simp_arith[f2,hi,l1];try rfl) ?_;cases mid with
   |none =>
    have aD:Bz (E5 none)=true:=rfl;have ye:=QD m rs p c (by have:=ok.rl;omega) (m2 rfl);rw[Rf hz] at hE hlen hn;have cv:((N.map λ n:Nat=>D.int (n:Int)).map OT.sh).length<1000:=by rw[za2,za2];omega
    have ea:(N.map λ n:Nat=>D.int (n:Int)).map OT.sh++[OT.sh (.int (OU rs p c:Nat))]=((N++[OU rs p c]).map λ n:Nat=>D.int (n:Int)).map OT.sh:=by rw[zas,zas];rfl
    refine Bt (ρ':=[‹Bd m rs L A K›,‹.int u›,‹.int w›,some (.own ((N++[OU rs p c]).map λ n:Nat=>D.int (n:Int))),some (.own ((W.map pD).reverse)),vO (some (pD p)),vO (some (E5 none))]) (by
     simp_arith[aD,f1,f2,hi,l0,ye,if_true,if_pos cv,ea];rfl) ⟨oQ rs L A W,?_,_,W,_,_,rfl,rfl,λ q hq=>hW q (za4 _ hq),by rw[zbk];exact hE⟩
    rw[zbh] at hn;omega
   |some v =>
    obtain⟨_,_,a,b,ma,mb,g1,g2,_⟩:=m3 v rfl;have aD:Bz (E5 (some v))=false:=rfl;have lv:E5 (some v)=.int v:=rfl;have j6:=Ul ok hz;have u1:=(LY ok _ rfl g1).ne;have u2:=(LY ok _ rfl g2).ne;have cv:((W.map pD).reverse).length<1000:=by rw[zbp,za2];omega
    have gl:((W.map pD).reverse++[pD (v,p.2)]).length<1000:=by
     rw[zah,zbp,za2,zbh];have:=yb.ne;omega
    have yf:(((p.1,v)::(v,p.2)::W).map pD).reverse=(W.map pD).reverse++[pD (v,p.2)]++[pD (p.1,v)]:=by rw[za6,za6,List.reverse_cons,List.reverse_cons]
    have sq:Bz (.int v)=false:=rfl;simp_arith[lv,sq,zaz,if_false];apply wp_step
    ·simp_arith[p1,if_pos cv];rfl
    try simp only[zaj,zag]
    have t1:D.tup [.int v,.int p.2]=pD (v,p.2):=rfl;refine Bt (ρ':=[‹Bd m rs L A K›,‹.int u›,‹.int w›,some (.own (N.map λ n:Nat=>D.int (n:Int))),some (.own ((((p.1,v)::(v,p.2)::W).map pD).reverse)),vO (some (pD p)),vO (some (.int v))]) (by
     rw[yf];simp_arith[p0,t1,if_pos gl];try rfl) ⟨oQ rs L A ((p.1,v)::(v,p.2)::W),?_,N,_,_,_,rfl,rfl,λ q hq=>?_,?_⟩
    ·rw[j6,zah] at hn;show 2*(CG rs L A (p.1,v)).length-1+(2*(CG rs L A (v,p.2)).length-1+oQ rs L A W)<n;omega
    ·rcases zab.mp hq with rfl|hq
     ·rw[g1];rfl
     ·rcases zab.mp hq with rfl|hq
      ·rw[g2];rfl
      ·exact hW q (za4 _ hq)
    ·rw[j6] at hE;show N++(CG rs L A (p.1,v)++(CG rs L A (v,p.2)++Um rs L A W))=_;rw[<-zbk (CG rs L A (p.1,v))];exact hE
 ·rintro ρ ⟨s4,s5,s6,rfl⟩;exact⟨_,rfl,rfl⟩
abbrev BM:=za5 CI
def K3:Txt K mg->Fc P w K mg base "Ladder" "unpacked" 3 3 BM:=(za0 CI).1
def K4:Fn BM:=(za0 CI).2
abbrev Hh (F:List D->M OT):Prop:=∀(m:Nat) (rs:List Road) (L:List Int) (A:LA) (K:List (Int×Int)) (T:List Co) (s g:Nat) (c:Int×Int),Be m rs L A K->T.length=m->(∀w:Int,0<=w->w<m->By rs w g (atC T w))->s<m->g<m->atC T s=some c->∃N:List Nat,F [Bd m rs L A K,.lst (T.map cst),.int s,.int g]=.ok (.lst ((N.map λ n:Nat=>D.int (n:Int)).map .sh))/\OV rs s N g c.1/\(N.length:Int)=c.2
def Dr:∃F,FT "way_by_prices" 5 4 F/\Hh F:=by
 refine⟨_,λ T=>As (k:=4) T.N8 BL _ (λ f AX A outer s H E hr=>(A2 (C3 4 BL.nd rfl (zb0 rfl) (HL Cb)) (A2 (Aq 5 BL.nd rfl (zb0 rfl) (!2)) (A2 (Oc A7.toXCall.own (FJ (c:=true) (!hr) (!5) (!3)) (A2 (Aq 6 BL.nd rfl (zb0 rfl) (A9 (!hr) (Ag (Aa A7.toXCall (Lj T) (-hr) rfl (A1 (!0) (A1 (!1) (A1 (!5) A6))) rfl)) A4)) (A2 (cV (Bg 4 (pv 4)) (by exact (Ff (k:=3) [("Ladder",BM)] A7.toXCall (Bl (by decide) (K3 T) BG) (-hr) (!0) (A1 (A9 (!hr) (!6) A4) (A1 (A9 (!hr) (!6) A4) A6)) rfl))) (A5 (Aq 5 BL.nd rfl (zb0 rfl) (A9 (!hr) (!6) A4)))))) (A5 (En 4 (pv 4))))))),?_⟩;intro m rs L A K T s g c ok mz hT hs hg hc;rfl';refine (λ h:∃t,_/\∃N:List Nat,t=.lst ((N.map λ n:Nat=>D.int (n:Int)).map .sh)/\OV rs s N g c.1/\(N.length:Int)=c.2=>by
  obtain⟨t,h1,N,rfl,h2⟩:=h;exact⟨N,h1,h2⟩) (Ky ?_)
 have j7:∀r∈rs,Sf m r:=λ r hr=>(ok.ok r hr).1;have ae:=hT s (by omega) (by omega);rw[hc] at ae;have hm:=ok.m2;have yg:=Ig ok.ok ⟨by omega,by omega⟩ ae;have yh:Dk [("Ladder",BM)] "unpacked" (Bd m rs L A K)=.ok BM:=rfl;refine wp_step (ρ':=[‹Bd m rs L A K›,‹.lst (T.map cst)›,‹.int s›,‹.int g›,some (.own []),none,none]) (by simp_arith[];try rfl) ?_;refine wp_step (ρ':=[‹Bd m rs L A K›,‹.lst (T.map cst)›,‹.int s›,‹.int g›,some (.own []),‹.int s›,none]) (by simp_arith[];try rfl) ?_;refine Ck (I:=λ ρ=>∃(N:List Nat) (s5 s6:Option Cl),ρ=[‹Bd m rs L A K›,‹.lst (T.map cst)›,‹.int s›,‹.int g›,some (.own (N.map λ n:Nat=>D.int (n:Int))),s5,s6]/\OV rs s N g c.1/\(N.length:Int)=c.2) ?_ ?_
 ·refine Ot (lt:=λ a b:Nat=>a<b) (λ n ρ=>∃(N:List Nat) (p t:Int) (cp:Int×Int) (s6:Option Cl),ρ=[‹Bd m rs L A K›,‹.lst (T.map cst)›,‹.int s›,‹.int g›,some (.own (N.map λ n:Nat=>D.int (n:Int))),‹.int p›,s6]/\(0<=p/\p<m)/\atC T p=some cp/\OV rs s N p t/\t+cp.1=c.1/\(N.length:Int)+cp.2=c.2/\cp.2.toNat=n) (Nat.lt_wfRel.wf.apply c.2.toNat) ⟨[],s,0,c,none,rfl,⟨by omega,by omega⟩,hc,.nil _,by omega,by simp,rfl⟩ ?_;rintro n ρ ⟨N,p,t,cp,s6,rfl,hp,d9,aY,h1,h2,h3⟩;have sr:=hT p hp.1 hp.2;rw[d9] at sr;have m6:=(sr.2 cp rfl).nn j7;by_cases e:p=g
  ·left;subst e;refine⟨by simp_arith[decide_true,Bool.not_true];try rfl,N,_,s6,rfl,?_⟩;have hz:=sr.1 _ (.nil _);simp only[BQ] at hz;have e1:cp.1=0:=by omega
   have e2:cp.2=0:=by omega
   exact⟨by rw[<-h1,e1,Int.add_zero];exact aY,by omega⟩
  ·right;refine⟨by simp_arith[decide_eq_false e,Bool.not_false];try rfl,?_⟩;obtain⟨q,r,hq⟩:=Z3 ok hT hp e d9;obtain⟨ca,cq,a1⟩:=tT ok d9 hq;have vm:=Lk m rs L A K T p ok mz hp.1 hp.2;rw[hq] at vm;obtain⟨z,hz⟩:∃z,Ao A q=some z:=by
    have:=a1.c;unfold Ab at this;cases hf:Ao A q with
    |none=>rw[hf] at this;cases this
    |some z=>exact⟨z,rfl⟩
   have ez:z.1=ca:=by have:=a1.c;unfold Ab at this;rw[hz] at this;cases this;rfl
   have vn:=K4 m rs L A K q.1 q.2 ok (by rw[hz];rfl) (λ c hc=>by
    obtain⟨c',e1,e2⟩:=mW ok hq;have e3:some c=some c':=hc.symm.trans e1;cases e3;have:=Ig ok.ok (by rw[a1.a];exact hp) e2;omega)
   have j8:=LY ok _ (p:=q) (c:=z.1) (mid:=z.2) rfl hz;rw[ez] at j8;have p0:AI (pD q) (.int 0)=.ok (.int q.1):=rfl;have p1:AI (pD q) (.int 1)=.ok (.int q.2):=rfl;have hx:AI (.lst ((q::r).map pD)) (.int 0)=.ok (pD q):=Gz (by decide) rfl;have hcq:=((hT q.2 a1.r.1 a1.r.2).2 cq a1.t).nn j7;have a9:=a1.s;have ic:=j8.ln;have ad:=j8.ne;obtain⟨U,hU⟩:∃U,U=CG rs L A q:=⟨_,rfl⟩;have eU:CG rs L A (q.1,q.2)=U:=by rw[hU]
   rw[eU] at vn;rw[<-hU] at ic ad j8;have hb:(N.map λ n:Nat=>D.int (n:Int)).length+(U.map λ n:Nat=>D.int (n:Int)).length<=1000:=by
    rw[za2,za2];rw[a9] at h2 m6;dsimp only at h2 m6;omega
   refine wp_step (ρ':=[‹Bd m rs L A K›,‹.lst (T.map cst)›,‹.int s›,‹.int g›,some (.own (N.map λ n:Nat=>D.int (n:Int))),‹.int p›,‹pD q›]) (by simp_arith[vm,hx];try rfl) ?_;refine wp_step (ρ':=[‹Bd m rs L A K›,‹.lst (T.map cst)›,‹.int s›,‹.int g›,some (.own ((N++U).map λ n:Nat=>D.int (n:Int))),‹.int p›,‹pD q›]) (by
    rw[zas];simp_arith[p0,p1,yh,vn,if_pos hb];try rfl) ?_
   refine Bt (ρ':=[‹Bd m rs L A K›,‹.lst (T.map cst)›,‹.int s›,‹.int g›,some (.own ((N++U).map λ n:Nat=>D.int (n:Int))),‹.int q.2›,‹pD q›]) (by simp_arith[p1];try rfl) ⟨cq.2.toNat,?_,N++U,q.2,t+ca.1,cq,_,rfl,a1.r,a1.t,?_,?_,?_,rfl⟩
   ·rw[a9] at h3;dsimp only at h3;omega
   ·have:=j8.ch;rw[a1.a] at this;exact aY.wR this
   ·rw[a9] at h1;dsimp only at h1;omega
   ·rw[a9] at h2;dsimp only at h2;rw[zah];omega
 ·rintro ρ ⟨N,s5,s6,rfl,h1,h2⟩;exact⟨_,rfl,N,rfl,h1,h2⟩
abbrev IG:=za5 Dr
def Mb:FT "way_by_prices" 5 4 IG:=(za0 Dr).1
def Mc:Hh IG:=(za0 Dr).2
abbrev oZ (F:List D->M OT):Prop:=∀(m:Nat) (rs:List Road) (L:List Int) (A:LA) (K:List (Int×Int)) (s g:Nat),Be m rs L A K->s<m->g<m->∃(T:List Co) (N:List Nat),T.length=m/\(∀w:Int,0<=w->w<m->By rs w g (atC T w))/\(∀c,atC T s=some c->OV rs s N g c.1/\(N.length:Int)=c.2)/\F [Bd m rs L A K,.int s,.int g]=.ok (Fe (atC T s) N T)
def Wi:∃F,FT "ask" 8 3 F/\oZ F:=by
 refine⟨_,λ T=>As (k:=7) T.yQ W0 _ (λ f AX A outer s H E hr=>(A2 (Aq 3 W0.nd rfl (zb0 rfl) (Ag (Aa A7.toXCall (Nh T) (-hr) rfl (A1 (!0) (A1 (!1) (A1 (!2) A6))) rfl))) (A2 (AZ (EE (c:=true) (!3)) (A5 (Ae (AG Cy))) Ap) (A2 (C3 4 W0.nd rfl (zb0 rfl) (Aa A7.toXCall (UL T) (-hr) rfl (A1 (!0) (A1 (!2) A6)) rfl)) (A5 (mX 4 (pv 4) (WO (cP (c:=true) (!3))) (Fw (Aa A7.toXCall (Mb T) (-hr) rfl (A1 (!0) (A1 (!4) (A1 (!1) (A1 (!2) A6)))) rfl)))))))),?_⟩;intro m rs L A K s g ok hs hg;obtain⟨T,g1,l1,t1⟩:=UM m rs L A K g ok hg;have m7:=Ni m rs L A K s g (atC T s) ok hs hg (t1 s (by omega) (by omega));rfl';cases hc:atC T s with
 |none =>
  rw[hc] at m7;refine⟨T,[],l1,t1,λ c h=>(by rw[hc] at h;cases h),?_⟩;rw[hc];refine B1 ?_;refine wp_step (ρ':=[‹Bd m rs L A K›,‹.int s›,‹.int g›,‹cst none›,none]) (by simp_arith[m7];try rfl) ?_;have aD:Bz (cst none)=true:=rfl;simp_arith[aD];rfl
 |some c =>
  rw[hc] at m7;obtain⟨N,hF,n1,n2⟩:=Mc m rs L A K T s g c ok l1 t1 hs hg hc;refine⟨T,N,l1,t1,λ c' h=>(by rw[hc] at h;cases h;exact⟨n1,n2⟩),?_⟩;rw[hc];refine B1 ?_;refine wp_step (ρ':=[‹Bd m rs L A K›,‹.int s›,‹.int g›,‹cst (some c)›,none]) (by simp_arith[m7];try rfl) ?_;have aD:Bz (cst (some c))=false:=rfl;apply wp_step
  ·simp_arith[aD];rfl
  refine wp_step (ρ':=[‹Bd m rs L A K›,‹.int s›,‹.int g›,‹cst (some c)›,some (.own (T.map cst))]) (by simp_arith[g1];try rfl) ?_;have yi:=KU (ds:=N.map λ n:Nat=>D.int (n:Int)) λ d hd=>by
   obtain⟨n,_,rfl⟩:=zar.mp hd;rfl
  have yj:=fF (some c);simp_arith[hF,yi,yj];exact⟨_,rfl,rfl⟩
abbrev yS:=za5 Wi
def uA:FT "ask" 8 3 yS:=(za0 Wi).1
def uB:oZ yS:=(za0 Wi).2
abbrev PM (F:List D->M OT):Prop:=∀(m:Nat) (x:D) (L:List Int),m<=60->L.Perm (BC m)->F [.tup [.int m,x],.lst (L.map .int)]=.ok (.sh (.bl true))
def IH:∃F,FT "is_order" 2 2 F/\PM F:=by
 refine⟨_,λ T=>As (k:=1) T.W5 Ut _ (λ f AX A outer s H E hr=>(A2 (AZ (DW.dt (CY (Bn (Ba (c:=true) (Dh (LB _) rfl T.AV rfl T.D2 (by decide +kernel) (!1)))) (Ce (FJ (c:=true) (!hr) (CZ rfl T.Fl (!1)) (A9 (!hr) (!0) A4))))) (A5 (Ae (AG D9))) Ap) (A2 (AZ (Bn (Ba (c:=true) (cJ rfl rfl T.oW (Ag (Dz (NB:=["place","net"]) [none,some 0] rfl (Bw (!1)) rfl rfl (Cr 0 (by decide) rfl rfl rfl) (λ _ _ _ _=>El) (λ _ _ _ _=>(Ag (Cj (Aa (BI rfl).toXCall (AQ T) (-hr) rfl (A1 (!0) (A1 (A9 (!hr) (!1) A4) A6)) rfl))))))))) (A5 (Ae (AG D9))) Ap) (A5 (Ae (AG (Tw (!hr) (Ag (Yx rfl rfl T.hV (!1))) (Ag (Sb rfl rfl T.D2 rfl T.Jc (A9 (!hr) (!0) A4)))))))))),?_⟩;intro m x L hm hL;rfl';have n0:AI (.tup [.int m,x]) (.int 0)=.ok (.int m):=rfl;refine B1 ?_;have hlen:=Ib hL;have h1:decide (((L.map D.int).length:Int)=(m:Int))=true:=decide_eq_true (by rw[za2];omega);have hl:(L.map D.int).length<=1000:=by rw[za2];omega
 have hs:=Yw (ns:=L) (by omega);have h3:=WW (n:=m) (by omega);rw[U4] at h3;have e:decide (HW L=BC m)=true:=decide_eq_true (YJ.mpr hL);apply wp_step
 ·simp_arith[n0,h1];rfl
 apply wp_step
 ·simp_arith[if_pos hl];rw[BP (λ _:Int=>D.bl true) (λ j hj=>⟨_,rfl,rfl,by
   have hj2:=KJ.mp (hL.mem_iff.mp hj);have:=AR j m (by omega) (by omega);simp_arith[n0,this]⟩)]
  simp_arith[yL];rfl
 simp_arith[n0,hs,h3,U8,e];rfl
abbrev Rv:=za5 IH
def UN:FT "is_order" 2 2 Rv:=(za0 IH).1
def UO:PM Rv:=(za0 IH).2
abbrev Hi (F:List D->M OT):Prop:=∀(m:Nat) (x:D) (L:List Int),m<=60->L.Perm (BC m)->F [.tup [.int m,x],.lst (L.map .int)]=.ok (.lst ((L.map D.int).map .sh))
def Ds:∃F,FT "checked_order" 3 2 F/\Hi F:=by
 refine⟨_,λ T=>As (k:=2) T.N9 M3 _ (λ f AX A outer s H E hr=>(A2 (AZ (Bn (Ba (c:=true) (Ag (Aa A7.toXCall (UN T) (-hr) rfl (A1 (!0) (A1 (!1) A6)) rfl)))) (A5 LH) Ap) (A5 (Ae (Em rfl T.D2 (!1)))))),?_⟩;intro m x L hm hL;rfl';have h1:=UO m x L hm hL;refine B1 ?_;apply wp_step
 ·simp_arith[h1];rfl
 simp_arith[];exact⟨_,rfl,rfl⟩
abbrev F2:=za5 Ds
def Md:FT "checked_order" 3 2 F2:=(za0 Ds).1
def Me:Hi F2:=(za0 Ds).2
abbrev Fo (F:List D->M OT):Prop:=∀(m:Nat) (rs:List Road) (L:List Int),m<=20->L.Perm (BC m)->F [Ad m rs,.lst (L.map .int)]=.ok (.lst ((L.map D.int).map .sh))
def CJ:∃F,FT "order_or_ranked" 4 2 F/\Fo F:=by
 refine⟨_,λ T=>As (k:=3) T.L8 JU _ (λ f AX A outer s H E hr=>(A2 (AZ (EE (c:=true) (!1)) (A5 LH) Ap) (A5 (Ae (Aa A7.toXCall (Md T) (-hr) rfl (A1 (!0) (A1 (!1) A6)) rfl))))),?_⟩;intro m rs L hm hL;have h2:F2 [Ad m rs,.lst (L.map .int)]=.ok (.lst ((L.map D.int).map .sh)):=Me m (.lst (rs.map Bx)) L (by omega) hL;rfl';refine B1 ?_;apply wp_step
 ·rfl
 simp_arith[h2];exact⟨_,rfl,rfl⟩
abbrev Dt:=za5 CJ
def F3:FT "order_or_ranked" 4 2 Dt:=(za0 CJ).1
def F4:Fo Dt:=(za0 CJ).2
abbrev MJ (F:List D->M OT):Prop:=∀(m:Nat) (rs:List Road) (A:LA),m<=20->(∀r∈rs,Sf m r)->Hs m A->∃K:List (Int×Int),F [Ad m rs,Qp A]=.ok (.lst ((K.map pD).map .sh))/\K.Nodup/\∀p,p∈K↔KP rs A p
def GN:∃F,FT "kept_arcs" 3 2 F/\MJ F:=by
 refine⟨_,λ T=>As (k:=2) T.Ux Es _ (λ f AX A outer s H E hr=>(A2 (C3 2 Es.nd rfl (zb0 rfl) (HL Cb)) (A2 (Cg A7.toXCall.own rfl (FK (c:=true) rfl T.Jc (A9 (!hr) (!0) A4)) (AW 3 Es.nd rfl (Or.inr rfl)) (A2 (Aq 4 Es.nd rfl (Or.inr rfl) (Ag (Aa A7.toXCall (QB T) (-hr) rfl (A1 (!0) (A1 (!3) A6)) rfl))) (A5 (cV (Bg 2 (pv 2)) (by exact (Dz (NB:=["w","u","laid","costs"]) [none,some 3,some 1,some 4] rfl (FK (c:=true) rfl T.Jc (A9 (!hr) (!0) A4)) rfl rfl (Cr 0 (by decide) rfl rfl rfl) (λ _ _ _ _=>J3 (DW.dt (RX (S8 (c:=true) (!hr) (AY (A1 (!1) (A1 (!0) A6))) (!2)) (Ny (Ki (c:=true) (!hr) (A9 (!hr) (A9 (!hr) (!2) (AY (A1 (!1) (A1 (!0) A6)))) A4) (A9 (!hr) (!3) (!0))))))) (λ _ _ _ _=>(AY (A1 (!1) (A1 (!0) A6)))))))))) (A5 (En 2 (pv 2)))))),?_⟩;intro m rs A hm AF hA;rfl';refine (λ h:∃t,_/\∃K:List (Int×Int),t=.lst ((K.map pD).map .sh)/\K.Nodup/\∀p,p∈K↔KP rs A p=>by
  obtain⟨t,h1,K,rfl,h2⟩:=h;exact⟨K,h1,h2⟩) (Ky ?_)
 have n0:AI (Ad m rs) (.int 0)=.ok (.int m):=rfl;have hr:Y0 (.int (m:Int))=.ok ((BC m).map D.int):=by rw[Kk (by omega),VS]
 have hl:((BC m).map D.int).length<=1000:=by rw[za2,Ia];omega
 apply wp_step
 ·rfl
 try simp only[zaj,zag]
 refine Ck (I:=λ ρ=>∃(K:List (Int×Int)) (s3 s4:Option Cl),ρ=[‹Ad m rs›,‹Qp A›,some (.own (K.map pD)),s3,s4]/\K.Nodup/\∀p,p∈K↔KP rs A p) ?_ ?_
 ·simp_arith[n0,hr];refine Cm (λ i ρ=>i<=m/\∃(K:List (Int×Int)) (s3 s4:Option Cl),ρ=[‹Ad m rs›,‹Qp A›,some (.own (K.map pD)),s3,s4]/\K.Nodup/\∀p,p∈K↔(p.1<i/\KP rs A p)) ⟨zba _,[],none,none,rfl,zbr,λ p=>⟨(λ h=>by cases h),λ h=>by
   obtain⟨c,hc,_⟩:=h.2;have:=(hA.rg p (EN hc)).2.1;omega⟩⟩ ?_ ?_
  ·rintro i d ρ hd ⟨hi,K,s3,s4,rfl,hn,hK⟩;obtain⟨u,hu,rfl⟩:=BJ hd;have ah:i<m:=by have:=(zae.mp hu).1;rw[Ia] at this;exact this
   have eu:u=(i:Int):=by
    unfold BC at hu;rw[zaw,List.getElem?_range ah] at hu;exact (zau hu).symm
   subst eu;obtain⟨cs,hR,hF⟩:=JC m i rs ah (by omega) AF;refine⟨_,rfl,?_⟩;apply wp_step
   ·simp_arith[hF];rfl
   try simp only[zaj,zag]
   obtain⟨W,hW⟩:∃W,W=(BC m).filter λ w=>yB A cs i w:=⟨_,rfl⟩;have vo:∀w,w∈W↔KP rs A ((i:Int),w):=λ w=>by
    rw[hW,zb9,KJ];constructor
    ·rintro ⟨hw,h⟩;exact (fU hR AF hw.1 hw.2).mp h
    ·intro h;obtain⟨c,hc,_⟩:=id h;have:=(hA.rg _ (EN hc)).2.2;exact⟨this,(fU hR AF this.1 this.2).mpr h⟩
   have yk:W.Nodup:=by rw[hW];exact (OI m).filter _
   have a6:(K++W.map λ w=>((i:Int),w)).Nodup:=by
    rw[zav];refine⟨hn,List.pairwise_map.mpr (yk.imp fun {a b} jw e=>jw (by cases e;rfl)),λ x hx y hy e=>?_⟩;subst e;obtain⟨w,_,rfl⟩:=zar.mp hy;have:=(hK _).mp hx;simp at this
   have vp:∀p,p∈K++W.map (λ w=>((i:Int),w))↔(p.1<((i+1:Nat):Int)/\KP rs A p):=λ p=>by
    rw[zal,hK];constructor
    ·rintro (h|h)
     ·exact⟨by have:=h.1;omega,h.2⟩
     ·obtain⟨w,hw,rfl⟩:=zar.mp h;exact⟨by dsimp only;omega,(vo w).mp hw⟩
    ·rintro ⟨h1,h2⟩;by_cases e:p.1<(i:Int)
     ·exact .inl ⟨e,h2⟩
     ·have e2:p.1=(i:Int):=by omega
      obtain⟨p1,p2⟩:=p;dsimp only at e2;subst e2;exact .inr (zar.mpr ⟨p2,(vo p2).mpr h2,rfl⟩)
   have hlen:=tH hA hm a6 λ p hp=>((vp p).mp hp).2;have hb:(K.map pD).length+((W.map λ w=>((i:Int),w)).map pD).length<=1000:=by
    rw[zah] at hlen;rw[za2,za2];omega
   refine Bt (ρ':=[‹Ad m rs›,‹Qp A›,some (.own ((K++W.map λ w=>((i:Int),w)).map pD)),‹.int i›,‹.lst (cs.map cst)›]) ?_ ⟨ah,_,_,_,rfl,a6,vp⟩;have t1:∀a b:Int,D.tup [.int a,.int b]=pD (a,b):=λ a b=>rfl;simp_arith[n0,hr,if_pos hl];rw[CD (λ w=>yB A cs i w) (λ w=>pD ((i:Int),w)) (λ w hw=>⟨_,rfl,by
    have vq:=KJ.mp hw;have x1:AI (.lst (cs.map cst)) (.int w)=.ok (cst (atC cs w)):=FU vq.1 (by rw[hR.1];exact vq.2);have di:=Sq A ((i:Int),w) false;unfold yB Ab;cases q:Ao A ((i:Int),w) with
    |none =>
     rw[q] at di;simp_arith[t1,di];rfl
    |some v =>
     rw[q] at di;have hit:=OM q;have h0:AI (VM v) (.int 0)=.ok (cst (some v.1)):=rfl;have he:=KH (some v.1) (atC cs w);simp_arith[t1,di,hit,h0,x1,he];rfl,λ _=>by simp_arith[t1]⟩)]
   rw[<-hW];have ew:W.map (λ w=>pD ((i:Int),w))=(W.map λ w=>((i:Int),w)).map pD:=by rw[zbx];rfl
   rw[ew];simp_arith[if_pos hb];rw[<-zas]
  ·rintro ρ ⟨_,K,s3,s4,rfl,hn,hK⟩;refine⟨K,s3,s4,rfl,hn,λ p=>(hK p).trans ⟨λ h=>h.2,λ h=>⟨?_,h⟩⟩⟩;obtain⟨c,hc,_⟩:=h;have:=(hA.rg p (EN hc)).2.1;rw[za2,Ia];omega
 ·rintro ρ ⟨K,s3,s4,rfl,hn,hK⟩;exact⟨_,rfl,K,rfl,hn,hK⟩
abbrev PN:=za5 GN
def SH:FT "kept_arcs" 3 2 PN:=(za0 GN).1
def SI:MJ PN:=(za0 GN).2
abbrev Fp (F:OT->List D->M (OT×OT)):Prop:=∀(m:Nat) (rs:List Road) (o:D) (L:List Int),1<=m->m<=16->rs.length<=60->(∀r∈rs,EL m r)->L.Perm (BC m)->o=.lst (L.map D.int)->∃(A:LA) (K:List (Int×Int)),Be m rs L A K/\∃t,F (.ins "Ladder" [] []) [Ad m rs,o]=.ok (t,.sh .Ax)/\er t=Bd m rs L A K
def CK:∃F:OT->List D->M (OT×OT),(∀ {P w K mg base},Txt K mg->OB P w K mg base "Ladder" 6 3 F)/\Fp F:=by
 refine⟨_,λ T=>U2 (k:=5) T.L9 JV _ (λ f AX A outer s H E hr=>(A2 (Gx ["Ladder"] (Aw T.Bq AU) (Bg 0 (pv 0)) (Ag (Aa A7.toXCall (JY T) (-hr) rfl (A1 (!1) A6) rfl))) (A2 (Gx ["Ladder"] (Aw T.CH AU) (Bg 0 (pv 0)) (Ag (Fw (Aa A7.toXCall (F3 T) (-hr) rfl (A1 (BB ["Ladder"] (Aw T.Bq AU) (!0)) (A1 (!2) A6)) rfl)))) (A2 (Gx ["Ladder"] (Aw T.BZ AU) (Bg 0 (pv 0)) (Ag (Fw (Aa A7.toXCall (SF T) (-hr) rfl (A1 (BB ["Ladder"] (Aw T.Bq AU) (!0)) (A1 (BB ["Ladder"] (Aw T.CH AU) (!0)) A6)) rfl)))) (A5 (Gx ["Ladder"] (Aw T.ER AU) (Bg 0 (pv 0)) (Ag (Fw (Aa A7.toXCall (SH T) (-hr) rfl (A1 (BB ["Ladder"] (Aw T.Bq AU) (!0)) (A1 (BB ["Ladder"] (Aw T.BZ AU) (!0)) A6)) rfl))))))))),?_⟩;intro m rs o L aF aG aX aQ hL ho;dsimp only;have AF:∀r∈rs,Sf m r/\r.a≠r.b:=λ r hr=>(aQ r hr).okR;have h1:=JZ m rs aF aG aX aQ;have h2:Dt [Ad m rs,o]=.ok (.lst ((L.map D.int).map .sh)):=by
  subst ho;exact F4 m rs L (by omega) hL
 have h3:=SG m rs L (by omega) hL AF;have hA:=(KR hL AF).1;obtain⟨K,h4,hn,hK⟩:=SI m rs (Bu rs L) (by omega) (λ r hr=>(AF r hr).1) hA;refine⟨Bu rs L,K,⟨aF,aG,aX,AF,hL,rfl,hn,hK⟩,.ins "Ladder" ["own_map","own_order","laid","kept_ones"] [.sh (Ad m rs),.sh (.lst (L.map D.int)),.sh (Qp (Bu rs L)),.sh (.lst (K.map pD))],?_,rfl⟩;have e0:CQ ["self","net","order"] (.ins "Ladder" [] []) [Ad m rs,o]=[some (.ow (.tree (some 0) (.ins "Ladder" [] []))),‹Ad m rs›,‹o›]:=rfl;rw[e0];refine OO ?_;have e1:er (.tup [.sh (.int m),.lst ((rs.map Bx).map .sh)])=Ad m rs:=by rw[KN,R4,LO];rfl
 have T:∀(ns:List Str) (ds:List D),er (.ins "Ladder" ns (ds.map .sh))=.ins "Ladder" ns ds:=λ ns ds=>by rw[er,LN]
 have T1:=T ["own_map"] [Ad m rs];have T2:=T ["own_map","own_order"] [Ad m rs,.lst (L.map D.int)];have T3:=T ["own_map","own_order","laid"] [Ad m rs,.lst (L.map D.int),Qp (Bu rs L)];simp only[za6,List.map_nil] at T1 T2 T3;have d1:=Ud L;have d2:=mJ (Bu rs L);have d3:=mI K;have f1:Jg ["Ladder"] "own_map" (.ins "Ladder" ["own_map"] [Ad m rs])=.ok (Ad m rs):=rfl;have f2:Jg ["Ladder"] "own_map" (.ins "Ladder" ["own_map","own_order"] [Ad m rs,.lst (L.map D.int)])=.ok (Ad m rs):=rfl;have f3:Jg ["Ladder"] "own_order" (.ins "Ladder" ["own_map","own_order"] [Ad m rs,.lst (L.map D.int)])=.ok (.lst (L.map D.int)):=rfl;have f4:Jg ["Ladder"] "own_map" (.ins "Ladder" ["own_map","own_order","laid"] [Ad m rs,.lst (L.map D.int),Qp (Bu rs L)])=.ok (Ad m rs):=rfl;have f5:Jg ["Ladder"] "laid" (.ins "Ladder" ["own_map","own_order","laid"] [Ad m rs,.lst (L.map D.int),Qp (Bu rs L)])=.ok (Qp (Bu rs L)):=rfl;refine wp_step (ρ':=[some (.ow (.tree (some 0) (.ins "Ladder" ["own_map"] [.sh (Ad m rs)]))),‹Ad m rs›,‹o›]) (by simp_arith[h1,e1];rfl) ?_;refine wp_step (ρ':=[some (.ow (.tree (some 0) (.ins "Ladder" ["own_map","own_order"] [.sh (Ad m rs),.sh (.lst (L.map D.int))]))),‹Ad m rs›,‹o›]) (by simp_arith[T1,f1,h2,d1];rfl) ?_;refine wp_step (ρ':=[some (.ow (.tree (some 0) (.ins "Ladder" ["own_map","own_order","laid"] [.sh (Ad m rs),.sh (.lst (L.map D.int)),.sh (Qp (Bu rs L))]))),‹Ad m rs›,‹o›]) (by simp_arith[T2,f2,f3,h3,d2];rfl) ?_;refine Bt (ρ':=[some (.ow (.tree (some 0) (.ins "Ladder" ["own_map","own_order","laid","kept_ones"] [.sh (Ad m rs),.sh (.lst (L.map D.int)),.sh (Qp (Bu rs L)),.sh (.lst (K.map pD))]))),‹Ad m rs›,‹o›]) (by simp_arith[T3,f4,f5,h4,d3];rfl) ⟨rfl,rfl⟩
abbrev Du:=za5 CK
def K5:Txt K mg->OB P w K mg base "Ladder" 6 3 Du:=(za0 CK).1
def K6:Fp Du:=(za0 CK).2
abbrev JE (F:List D->M OT):Prop:=∀(r:Road) (l:Option Int),F [Bx r,E5 l]=.ok (.sh (Bx ⟨r.a,r.b,l,r.w⟩))
def F5:∃F,FT "with_length" 1 2 F/\JE F:=by
 refine⟨_,λ T=>As (k:=0) T.Qx Pb _ (λ f AX A outer s H E hr=>(A5 (Ae (AG (AY (A1 (A9 (!hr) (!0) A4) (A1 (A9 (!hr) (!0) A4) (A1 (!1) (A1 (A9 (!hr) (!0) A4) A6))))))))),?_⟩;intro r l;dsimp only;rfl
abbrev GO:=za5 F5
def PP:FT "with_length" 1 2 GO:=(za0 F5).1
def PQ:JE GO:=(za0 F5).2
abbrev Hj (F:List D->M OT):Prop:=∀(m:Nat) (rs:List Road) (i:Nat),i<m->F [Ad m rs,.int i]=.ok (.sh (.int i))
def Dv:∃F,FT "checked_place" 2 2 F/\Hj F:=by
 refine⟨_,λ T=>As (k:=1) T.Na M4 _ (λ f AX A outer s H E hr=>(A2 (AZ (Bn (Ba (c:=true) (Ag (Aa A7.toXCall (AQ T) (-hr) rfl (A1 (!1) (A1 (A9 (!hr) (!0) A4) A6)) rfl)))) (A5 LH) Ap) (A5 (Ae (AG (!1)))))),?_⟩;intro m rs i hi;rfl';refine B1 ?_;have n0:AI (Ad m rs) (.int 0)=.ok (.int m):=rfl;have n1:AI (Ad m rs) (.int 1)=.ok (.lst (rs.map Bx)):=rfl;have h:=AR i m (by omega) (by omega);apply wp_step
 ·simp_arith[n0,h,Eo];rfl
 rfl
abbrev II:=za5 Dv
def G8:FT "checked_place" 2 2 II:=(za0 Dv).1
def G9:Hj II:=(za0 Dv).2
abbrev IJ (F:List D->M OT):Prop:=∀(m:Nat) (rs:List Road) (i:Int),0<=i->i<rs.length->F [Ad m rs,.int i]=.ok (.sh (.int i))
def Ed:∃F,FT "checked_road" 2 2 F/\IJ F:=by
 refine⟨_,λ T=>As (k:=1) T.Pq N5 _ (λ f AX A outer s H E hr=>(A2 (AZ (Bn (Ba (c:=true) (Ag (Aa A7.toXCall (AQ T) (-hr) rfl (A1 (!1) (A1 (CZ rfl T.Fl (A9 (!hr) (!0) A4)) A6)) rfl)))) (A5 LH) Ap) (A5 (Ae (AG (!1)))))),?_⟩;intro m rs i h0 hi;rfl';refine B1 ?_;have n0:AI (Ad m rs) (.int 0)=.ok (.int m):=rfl;have n1:AI (Ad m rs) (.int 1)=.ok (.lst (rs.map Bx)):=rfl;have h:=AR i rs.length h0 hi;have hl:(((rs.map Bx).length:Int))=(rs.length:Int):=by rw[za2]
 apply wp_step
 ·simp_arith[n1,hl,h,Eo];rfl
 rfl
abbrev JF:=za5 Ed
def Nj:FT "checked_road" 2 2 JF:=(za0 Ed).1
def Nk:IJ JF:=(za0 Ed).2
abbrev IK (F:List D->M OT):Prop:=∀(m:Nat) (rs:List Road) (A:List (Int×Unit)),rs.length<=900->F [Ad m rs,zQ A]=.ok (.tup [.sh (.int m),.lst (((Qb (λ i=>(Ao A i).isSome) rs).map Bx).map .sh)])
def Ee:∃F,FT "with_lengths" 2 2 F/\IK F:=by
 refine⟨_,λ T=>As (k:=1) T.Pr N6 _ (λ f AX A outer s H E hr=>(A5 (Ae (Om (C6 (AG (A9 (!hr) (!0) A4)) (C6 (Dz (NB:=["number","road","lengths"]) [none,none,some 1] rfl (Kl rfl T.DQ (A9 (!hr) (!0) A4)) rfl rfl (Kx (n:=2) rfl (BY 0 (by decide) rfl rfl rfl (BY 1 (by decide) rfl rfl rfl HV))) (λ _ _ _ _=>El) (λ _ _ _ _=>(Ag (Cj (Aa (BI rfl).toXCall (PP T) (-hr) rfl (A1 (!1) (A1 (gM (!hr) (!2) (!0) (A9 (!hr) (!1) A4)) A6)) rfl))))) Cb)))))),?_⟩;intro m rs A hl;rfl';refine B1 ?_;have n0:AI (Ad m rs) (.int 0)=.ok (.int m):=rfl;have n1:AI (Ad m rs) (.int 1)=.ok (.lst (rs.map Bx)):=rfl;have am:((zb8 rs.length).map λ i:Nat=>D.tup [.int (i:Int),Bx (rs.getD i ⟨0,0,none,0⟩)]).length<=1000:=by rw[za2,zc4];omega
 simp_arith[n0,n1,Rg,if_pos am];rw[BP (λ i:Nat=>Bx (if (Ao A (i:Int)).isSome=true then Ht (rs.getD i ⟨0,0,none,0⟩) else rs.getD i ⟨0,0,none,0⟩)) (λ i hi=>⟨_,rfl,rfl,by
  have r2:AI (Bx (rs.getD i ⟨0,0,none,0⟩)) (.int 2)=.ok (E5 (rs.getD i ⟨0,0,none,0⟩).l):=rfl;have hg:=mZ A (i:Int) (E5 (rs.getD i ⟨0,0,none,0⟩).l);have hw:=PQ (rs.getD i ⟨0,0,none,0⟩);by_cases c:(Ao A (i:Int)).isSome=true
  ·rw[if_pos c] at hg ⊢;have ss:GO [Bx (rs.getD i ⟨0,0,none,0⟩),.Ax]=.ok (.sh (Bx (Ht (rs.getD i ⟨0,0,none,0⟩)))):=hw none;simp_arith[r2,hg,ss]
  ·rw[if_neg c] at hg ⊢;have ss:=hw (rs.getD i ⟨0,0,none,0⟩).l;simp_arith[r2,hg,ss]⟩)]
 have e:((zb8 rs.length).map λ i:Nat=>Bx (if (Ao A (i:Int)).isSome=true then Ht (rs.getD i ⟨0,0,none,0⟩) else rs.getD i ⟨0,0,none,0⟩))=(Qb (λ i=>(Ao A i).isSome) rs).map Bx:=by unfold Qb;rw[zbx];rfl
 rw[e];simp_arith[];exact⟨_,rfl,rfl⟩
abbrev JG:=za5 Ee
def Nl:FT "with_lengths" 2 2 JG:=(za0 Ee).1
def Nm:IK JG:=(za0 Ee).2
abbrev IL (F:List D->M OT):Prop:=∀(m:Nat) (rs:List Road) (S:List Int),S.length<=900->(∀i∈S,0<=i/\i<rs.length)->F [Ad m rs,.lst (S.map D.int)]=.ok (yO (oS S))/\F [Ad m rs,.Ax]=.ok (yO [])
def Ef:∃F,FT "shut_lengths" 3 2 F/\IL F:=by
 refine⟨_,λ T=>As (k:=2) T.Pt N7 _ (λ f AX A outer s H E hr=>(A2 (AZ (EE (c:=true) (!1)) (A5 (Ae (TN false))) Ap) (A5 (Ae (Uj rfl rfl T.SE (Ag (Dz (NB:=["thing","net"]) [none,some 0] rfl (Bw (!1)) rfl rfl (Cr 0 (by decide) rfl rfl rfl) (λ _ _ _ _=>El) (λ _ _ _ _=>(AY (A1 (Ag (Cj (Aa (BI rfl).toXCall (Nj T) (-hr) rfl (A1 (!1) (A1 (!0) A6)) rfl))) (A1 Cy A6))))))))))),?_⟩;intro m rs S hl hS;have am:(S.map D.int).length<=1000:=by rw[za2];omega
 constructor
 ·rfl';refine B1 ?_;have aD:Bz (.lst (S.map D.int))=false:=rfl;apply wp_step
  ·simp_arith[aD];rfl
  have hd:=tY S (by omega);simp_arith[if_pos am];rw[BP (λ i:Int=>D.tup [.int i,.Ax]) (λ i hi=>⟨_,rfl,rfl,by
   have:=Nk m rs i (hS i hi).1 (hS i hi).2;simp_arith[this]⟩)]
  simp_arith[hd];exact⟨_,rfl,rfl⟩
 ·rfl';refine B1 ?_;exact⟨_,rfl,rfl⟩
abbrev FE:=za5 Ef
def Nn:FT "shut_lengths" 3 2 FE:=(za0 Ef).1
def Hk:IL FE:=(za0 Ef).2
abbrev Ga (F:OT->List D->M (OT×OT)):Prop:=∀(m:Nat) (rs:List Road) (L:List Int),1<=m->m<=16->rs.length<=60->(∀r∈rs,EL m r)->L.Perm (BC m)->∃t,F (.ins "House" [] []) [Ad m rs,.lst (L.map D.int)]=.ok (t,.sh .Ax)/\er t=BK m rs L
def D5:∃F:OT->List D->M (OT×OT),(∀ {P w K mg base},Txt K mg->OB P w K mg base "House" 6 3 F)/\Ga F:=by
 refine⟨_,λ T=>U2 (k:=5) T.M8 L4 _ (λ f AX A outer s H E hr=>(A2 (Gx ["House"] (Aw T.Bj AU) (Bg 0 (pv 0)) (Ag (Aa A7.toXCall (JY T) (-hr) rfl (A1 (!1) A6) rfl))) (A2 (Gx ["House"] (Aw T.Fm AU) (Bg 0 (pv 0)) (Ag (Fw (Aa A7.toXCall (F3 T) (-hr) rfl (A1 (BB ["House"] (Aw T.Bj AU) (!0)) (A1 (!2) A6)) rfl)))) (A5 (Gx ["House"] (Aw T.Lc AU) (Bg 0 (pv 0)) (Dg A6)))))),?_⟩;intro m rs L aF aG aX aQ hL;dsimp only;have h1:=JZ m rs aF aG aX aQ;have h2:=F4 m rs L (by omega) hL;have e0:CQ ["self","net","order"] (.ins "House" [] []) [Ad m rs,.lst (L.map D.int)]=[some (.ow (.tree (some 0) (.ins "House" [] []))),‹Ad m rs›,‹.lst (L.map D.int)›]:=rfl;refine⟨.ins "House" ["own_map","own_order","done"] [.sh (Ad m rs),.sh (.lst (L.map D.int)),.sh (.lst [])],?_,rfl⟩;rw[e0];refine OO ?_;have e1:er (.tup [.sh (.int m),.lst ((rs.map Bx).map .sh)])=Ad m rs:=by rw[KN,R4,LO];rfl
 have T:∀(ns:List Str) (ds:List D),er (.ins "House" ns (ds.map .sh))=.ins "House" ns ds:=λ ns ds=>by rw[er,LN]
 have T1:=T ["own_map"] [Ad m rs];simp only[za6,List.map_nil] at T1;have d1:=Ud L;have f1:Jg ["House"] "own_map" (.ins "House" ["own_map"] [Ad m rs])=.ok (Ad m rs):=rfl;refine wp_step (ρ':=[some (.ow (.tree (some 0) (.ins "House" ["own_map"] [.sh (Ad m rs)]))),‹Ad m rs›,‹.lst (L.map D.int)›]) (by simp_arith[h1,e1];rfl) ?_;refine wp_step (ρ':=[some (.ow (.tree (some 0) (.ins "House" ["own_map","own_order"] [.sh (Ad m rs),.sh (.lst (L.map D.int))]))),‹Ad m rs›,‹.lst (L.map D.int)›]) (by simp_arith[T1,f1,h2,d1];rfl) ?_;exact Bt (ρ':=[some (.ow (.tree (some 0) (.ins "House" ["own_map","own_order","done"] [.sh (Ad m rs),.sh (.lst (L.map D.int)),.sh (.lst [])]))),‹Ad m rs›,‹.lst (L.map D.int)›]) (by simp_arith[];rfl) ⟨rfl,rfl⟩
abbrev BV:=za5 D5
def D6:Txt K mg->OB P w K mg base "House" 6 3 BV:=(za0 D5).1
def D7:Ga BV:=(za0 D5).2
abbrev Gb (F:List D->M OT):Prop:=∀(m:Nat) (rs:List Road) (L:List Int),1<=m->m<=16->rs.length<=60->(∀r∈rs,EL m r)->F [BK m rs L]=.ok (.tup [.sh (.int m),.lst ((rs.map Bx).map .sh)])
def D8:∃F:List D->M OT,(∀ {P w K mg base},Txt K mg->Fc P w K mg base "House" "told_map" 6 1 F)/\Gb F:=by
 refine⟨_,λ T=>Gw (k:=5) T.M9 L5 _ (λ f AX A outer s H E hr=>(A5 (Ae (Aa A7.toXCall (JY T) (-hr) rfl (A1 (BB ["House"] (Aw T.Bj AU) (!0)) A6) rfl)))),?_⟩;intro m rs L aF aG aX aQ;rfl';refine B1 ?_;have h1:=JZ m rs aF aG aX aQ;have f1:Jg ["House"] "own_map" (BK m rs L)=.ok (Ad m rs):=rfl;simp_arith[f1,h1];exact⟨_,rfl,rfl⟩
abbrev BW:=za5 D8
def Lm:Txt K mg->Fc P w K mg base "House" "told_map" 6 1 BW:=(za0 D8).1
def Ln:Gb BW:=(za0 D8).2
abbrev Hl (F:List D->M OT):Prop:=∀(m:Nat) (rs:List Road) (L:List Int),F [BK m rs L]=.ok (.lst [])
def Dw:∃F:List D->M OT,(∀ {P w K mg base},Txt K mg->Fc P w K mg base "House" "changes" 1 1 F)/\Hl F:=by
 refine⟨_,λ T=>Gw (k:=0) T.Nb M5 _ (λ f AX A outer s H E hr=>(A5 (Ae (Em rfl T.D2 (BB ["House"] (Aw T.Lc AU) (!0)))))),?_⟩;intro m rs L;dsimp only;rfl
abbrev C8:=za5 Dw
def Mf:Txt K mg->Fc P w K mg base "House" "changes" 1 1 C8:=(za0 Dw).1
def Mg:Hl C8:=(za0 Dw).2
abbrev MK (F:List D->M OT):Prop:=∀(m:Nat) (rs:List Road) (L S:List Int) (s g:Nat) (x:D),1<=m->m<=16->rs.length<=60->(∀r∈rs,EL m r)->L.Perm (BC m)->s<m->g<m->S.length<=900->(∀i∈S,0<=i/\i<rs.length)->(x=.lst (S.map D.int)\/(x=.Ax/\S=[]))->∃(T:List Co) (N:List Nat),T.length=m/\(∀w:Int,0<=w->w<m->By (Qb (λ i=>decide (i∈S)) rs) w g (atC T w))/\(∀c,atC T s=some c->OV (Qb (λ i=>decide (i∈S)) rs) s N g c.1/\(N.length:Int)=c.2)/\F [BK m rs L,.int s,.int g,x]=.ok (Fe (atC T s) N T)
def GP:∃F:List D->M OT,(∀ {P w K mg base},Txt K mg->OX P w K mg base "House" "ask" "shut" 9 4 F)/\MK F:=by
 refine⟨_,λ T=>gI (k:=8) T.Uy L6 _ (λ f AX A outer s H E hr=>(A2 (WK (c:=true) (Ag (Aa A7.toXCall (G8 T) (-hr) rfl (A1 (BB ["House"] (Aw T.Bj AU) (!0)) (A1 (!1) A6)) rfl))) (A2 (WK (c:=true) (Ag (Aa A7.toXCall (G8 T) (-hr) rfl (A1 (BB ["House"] (Aw T.Bj AU) (!0)) (A1 (!2) A6)) rfl))) (A2 (Aq 4 L6.nd rfl (zb0 rfl) (Ag (Aa A7.toXCall (Nl T) (-hr) rfl (A1 (BB ["House"] (Aw T.Bj AU) (!0)) (A1 (Ag (Aa A7.toXCall (Nn T) (-hr) rfl (A1 (BB ["House"] (Aw T.Bj AU) (!0)) (A1 (!3) A6)) rfl)) A6)) rfl))) (A5 (Ae (Aa A7.toXCall (tU T.We (uA T)) (-hr) rfl (A1 (Ag (NH A7.toXCall (K5 T).zK (-hr) rfl (A1 (!4) (A1 (BB ["House"] (Aw T.Fm AU) (!0)) A6)) rfl)) (A1 (!1) (A1 (!2) A6))) rfl))))))),?_⟩;intro m rs L S s g x aF aG aX aQ hL hs hg dl hS hx;dsimp only;have n6:Qb (λ i=>(Ao (oS S) i).isSome) rs=Qb (λ i=>decide (i∈S)) rs:=by
  congr 1;funext i;exact mY S i
 obtain⟨A,K,ok,t,hI,hE⟩:=K6 m (Qb (λ i=>decide (i∈S)) rs) (.lst (L.map D.int)) L aF aG (by rw[Sv];exact aX) (gR aQ) hL rfl;obtain⟨T,N,h1,h2,h3,h4⟩:=uB m (Qb (λ i=>decide (i∈S)) rs) L A K s g ok hs hg;refine⟨T,N,h1,h2,h3,?_⟩;rfl';refine B1 ?_;have f1:Jg ["House"] "own_map" (BK m rs L)=.ok (Ad m rs):=rfl;have f2:Jg ["House"] "own_order" (BK m rs L)=.ok (.lst (L.map D.int)):=rfl;have p1:=G9 m rs s hs;have p2:=G9 m rs g hg;have yl:(FE) [Ad m rs,x]=.ok (yO (oS S)):=by
  rcases hx with rfl|⟨rfl,rfl⟩
  ·exact (Hk m rs S dl hS).1
  ·exact (Hk m rs [] dl hS).2
 have e9:=Nm m rs (oS S) (by omega);rw[n6] at e9;have sv:R5 ((Du) (.ins "Ladder" [] []) [Ad m (Qb (λ i=>decide (i∈S)) rs),.lst (L.map D.int)])=.ok t:=by rw[hI];rfl
 have e1:er (.tup [.sh (.int m),.lst (((Qb (λ i=>decide (i∈S)) rs).map Bx).map .sh)])=Ad m (Qb (λ i=>decide (i∈S)) rs):=by rw[KN,R4,LO];rfl
 apply wp_step
 ·simp_arith[f1,p1];rfl
 apply wp_step
 ·simp_arith[f1,p2];rfl
 refine wp_step (ρ':=[‹BK m rs L›,‹.int s›,‹.int g›,‹x›,‹Ad m (Qb (λ i=>decide (i∈S)) rs)›]) (by simp_arith[f1,yl,tX,e9,e1];try rfl) ?_;simp_arith[f2,sv,hE,h4];cases atC T s with
 |none=>rfl
 |some c=>exact⟨_,rfl,rfl⟩
abbrev BE:=za5 GP
def Cc:Txt K mg->OX P w K mg base "House" "ask" "shut" 9 4 BE:=(za0 GP).1
def Et:MK BE:=(za0 GP).2
abbrev JH (F:List D->M OT):Prop:=∀(ns:List Int) (k:Nat),(∀n∈ns,Sm n)->∃v:Int,Sm v/\F [.lst (ns.map D.int),.int k]=.ok (.sh (.int v))
def F6:∃F,FT "_law_cell_at" 1 2 F/\JH F:=by
 refine⟨_,λ T=>As (k:=0) T.Qy Pc _ (λ f AX A outer s H E hr=>(A2 (AZ (wK (c:=true) (!1) (CZ rfl T.Fl (!0))) (A5 (Ae (AG (A9 (!hr) (!0) (!1))))) Ap) (A5 (Ae (AG A4))))),?_⟩;intro ns k aV;rfl';by_cases hk:(k:Int)<((ns.map D.int).length:Int)
 ·have ym:=hk;rw[za2] at ym;have i1:AI (.lst (ns.map D.int)) (.int k)=.ok (.int (ns[k]'(by omega))):=Gz (by omega) (by rw[zbg];exact za7 _);refine⟨ns[k]'(by omega),aV _ (List.getElem_mem _),B1 ?_⟩;simp_arith[decide_eq_true hk,i1];rfl
 ·refine⟨0,by unfold Sm;decide,B1 ?_⟩;simp_arith[decide_eq_false hk];rfl
abbrev Eu:=za5 F6
def IM:FT "_law_cell_at" 1 2 Eu:=(za0 F6).1
def IQ:JH Eu:=(za0 F6).2
abbrev ML (F:List D->M OT):Prop:=∀c k:Int,0<=k->k<=1000->∃v:Int,0<=v/\F [.int c,.int k]=.ok (.sh (.int v))
def GQ:∃F,FT "_law_mixed" 1 2 F/\ML F:=by
 refine⟨_,λ T=>As (k:=0) T.UA GD _ (λ f AX A outer s H E hr=>(A2 (Aq 2 GD.nd rfl (zb0 rfl) (Bs (BH (Bs (!0) A4) (J4 A4 (BH (!1) A4))) A4)) (A2 (Aq 2 GD.nd rfl (zb0 rfl) (Bs (BH (BH (J4 (!2) (!2)) (J4 A4 (!1))) A4) A4)) (A5 (Ae (AG (Bs (J4 (!2) (!2)) A4))))))),?_⟩;intro c k h0 h1;rfl';have m1:HI (.int 48271) (.int (k+1))=.ok (.int (48271*(k+1))):=EF (.inr (.inr (.inr ⟨by omega,by omega⟩)));obtain⟨x,hx⟩:∃x,x=(c%2147483629+48271*(k+1))%2147483647:=⟨_,rfl⟩;have x0:0<=x:=by omega
 have x1:x<2147483647:=by omega
 have m2:HI (.int x) (.int x)=.ok (.int (x*x)):=EF (.inr (.inr (.inr ⟨by omega,by omega⟩)));have m3:HI (.int 69621) (.int k)=.ok (.int (69621*k)):=EF (.inr (.inr (.inr ⟨by omega,by omega⟩)));obtain⟨y,hy⟩:∃y,y=(x*x+69621*k+7)%2147483587:=⟨_,rfl⟩;have y0:0<=y:=by rw[hy];exact zbq _ (by decide)
 have y1:y<2147483587:=by rw[hy];exact zbm _ (by decide)
 have m4:HI (.int y) (.int y)=.ok (.int (y*y)):=EF (.inr (.inr (.inr ⟨by omega,by omega⟩)));refine⟨y*y%2147483579,zbq _ (by decide),?_⟩;simp[rv0,rvS,m1,rG,F8,Bh,<-hx,m2,m3,<-hy,m4,TJ,XY,shM,Yd]
abbrev PR:=za5 GQ
def Ew:FT "_law_mixed" 1 2 PR:=(za0 GQ).1
def Ex:ML PR:=(za0 GQ).2
abbrev PV (F:List D->M OT):Prop:=∀(c k:Int) (m:Nat),2<=m->m<=16->0<=k->k<=100->∃r:Road,EL m r/\F [.int c,.int m,.int k]=.ok (.sh (Bx r))
def IR:∃F,FT "_law_road" 2 3 F/\PV F:=by
 refine⟨_,λ T=>As (k:=1) T.W6 CS _ (λ f AX A outer s H E hr=>(A2 (Aq 0 CS.nd rfl (zb0 rfl) (Bs (!0) (bT A4 A4))) (A2 (Aq 3 CS.nd rfl (zb0 rfl) (Ag (Aa A7.toXCall (Ew T) (-hr) rfl (A1 (!0) (A1 (!2) A6)) rfl))) (A2 (Aq 4 CS.nd rfl (zb0 rfl) (Bs (!3) (!1))) (A2 (Aq 5 CS.nd rfl (zb0 rfl) (Bs (BH (BH (!4) A4) (Bs (BO (!3) A4) (rH (!1) A4))) (!1))) (A2 (Aq 6 CS.nd rfl (zb0 rfl) (A9 (!hr) (Dg (A1 Cy (A1 A4 (A1 A4 (A1 A4 (A1 (Bs (BO (!3) A4) A4) (A1 (Bs (BO (!3) A4) A4) (A1 (Bs (BO (!3) A4) A4) (A1 (!0) A6))))))))) (Bs (BO (!3) A4) A4))) (A5 (Ae (AG (AY (A1 (!4) (A1 (!5) (A1 (!6) (A1 (A9 (!hr) (Dg (A1 (Bs (BO (!3) A4) A4) (A1 (BO (!0) A4) A6))) (Bs (BO (!3) A4) A4)) A6)))))))))))))),?_⟩;intro c k m aF aG h0 h1;have ht:=VL;rfl';obtain⟨g,hg⟩:∃g,g=c%Rb:=⟨_,rfl⟩;have g0:0<=g:=by rw[hg];exact zbq _ (by omega)
 have g1:g<Rb:=by rw[hg];exact zbm _ (by omega)
 obtain⟨v,v0,hv⟩:=Ex g k h0 (by omega);have dm:(0:Int)<(m:Int):=by omega
 have j9:(0:Int)<(m:Int)-1:=by omega
 obtain⟨o,ho⟩:∃o,o=v%(m:Int):=⟨_,rfl⟩;obtain⟨o',aH⟩:∃o',o'=(o+1+v / 16%((m:Int)-1))%(m:Int):=⟨_,rfl⟩;have o0:0<=o:=by rw[ho];exact zbq _ (by omega)
 have o1:o<m:=by rw[ho];exact zbm _ dm
 have p0:0<=o':=by rw[aH];exact zbq _ (by omega)
 have p1:o'<m:=by rw[aH];exact zbm _ dm
 have s0:0<=v / 16%((m:Int)-1):=zbq _ (by omega);have s1:v / 16%((m:Int)-1)<(m:Int)-1:=zbm _ j9;have jw:o≠o':=by
  have:=sC (a:=o) (s:=1+v / 16%((m:Int)-1)) (m:=m) o0 o1 (by omega) (by omega);rw[aH,zd3];exact λ z=>this z.symm
 have ka:Ei (.int v) (.int 16)=.ok (.int (v / 16)):=Bp ⟨by decide,by decide⟩;have kb:Ei (.int v) (.int 2048)=.ok (.int (v / 2048)):=Bp ⟨by decide,by decide⟩;have sw:Ei (.int v) (.int 256)=.ok (.int (v / 256)):=Bp ⟨by decide,by decide⟩;have kc:Ei (.int v) (.int 4096)=.ok (.int (v / 4096)):=Bp ⟨by decide,by decide⟩;have yn:Ei (.int v) (.int 32)=.ok (.int (v / 32)):=Bp ⟨by decide,by decide⟩;have d7:Ei (.int g) (.int 7)=.ok (.int (g / 7)):=Bp ⟨by decide,by decide⟩;have q1:F8 (.int v) (.int (m:Int))=.ok (.int o):=by rw[ho];exact B7 dm
 have q2:F8 (.int (v / 16)) (.int ((m:Int)-1))=.ok (.int (v / 16%((m:Int)-1))):=B7 j9;have q3:F8 (.int (o+1+v / 16%((m:Int)-1))) (.int (m:Int))=.ok (.int o'):=by rw[aH];exact B7 dm
 have q4:F8 (.int (v / 2048)) (.int 4)=.ok (.int (v / 2048%4)):=B7 (by decide);have q5:F8 (.int (v / 2048)) (.int 100)=.ok (.int (v / 2048%100)):=B7 (by decide);have q6:F8 (.int (v / 256)) (.int 8)=.ok (.int (v / 256%8)):=B7 (by decide);have q8:F8 (.int (v / 4096)) (.int 5)=.ok (.int (v / 4096%5)):=B7 (by decide);have q9:F8 (.int (v / 32)) (.int 2)=.ok (.int (v / 32%2)):=B7 (by decide);obtain⟨l,hpl,l0⟩:=tQ (a:=v / 2048%4) (b:=v / 2048%100) (g:=g) (i:=v / 256%8) (by omega) (by omega) ⟨g0,g1⟩ (by omega) (by omega);obtain⟨w,rp,w0⟩:=tK (a:=v / 4096%5) (b:=g / 7) (i:=v / 32%2) (by omega) (by omega) (by omega) (by omega);have yo:D.tup [.int o,.int o',E5 l,.int w]=Bx ⟨o,o',l,w⟩:=rfl;refine⟨⟨o,o',l,w⟩,⟨o0,o1,p0,p1,jw,l0,w0.1,w0.2⟩,B1 ?_⟩;apply wp_step
 ·simp_arith[oG,lZ];rw[<-hg]
 try simp only[zaj,zag]
 apply wp_step
 ·simp_arith[hv];rfl
 try simp only[zaj,zag]
 apply wp_step
 ·simp_arith[q1];rfl
 try simp only[zaj,zag]
 apply wp_step
 ·simp_arith[ka,q2,q3];rfl
 try simp only[zaj,zag]
 apply wp_step
 ·simp_arith[kb,q4,q5,sw,q6,hpl];rfl
 try simp only[zaj,zag]
 simp_arith[kc,q8,d7,yn,q9,rp,yo];rfl
abbrev Jd:=za5 IR
def UP:FT "_law_road" 2 3 Jd:=(za0 IR).1
def UQ:PV Jd:=(za0 IR).2
abbrev Rw (F:List D->M OT):Prop:=∀ns:List Int,ns.length<=63->(∀n∈ns,Sm n)->∃(m:Nat) (rs:List Road),1<=m/\m<=5/\rs.length<=17/\(∀r∈rs,EL m r)/\∃t,F [.lst (ns.map D.int),.int 5,.int 16]=.ok t/\er t=Ad m rs
def K7:∃F,FT "_law_map" 3 3 F/\Rw F:=by
 refine⟨_,λ T=>As (k:=2) T.Z8 Dq _ (λ f AX A outer s H E hr=>(A2 (Aq 3 Dq.nd rfl (zb0 rfl) (Ag (FO (!0) (Gp A4) (Gp (BH A4 (!2)))))) (A2 (Aq 4 Dq.nd rfl (zb0 rfl) (Ag (Aa A7.toXCall (Ew T) (-hr) rfl (A1 (Ag (Aa A7.toXCall (IM T) (-hr) rfl (A1 (!0) (A1 A4 A6)) rfl)) (A1 A4 A6)) rfl))) (A2 (Aq 5 Dq.nd rfl (Or.inr rfl) (BH A4 (Bs (!4) (kU rfl rfl T.oX (!1) (BH A4 (BO (CZ rfl T.Fl (!3)) A4)))))) (A2 (AZ (Ki (c:=true) (!hr) (!5) A4) (A5 (Ae (Om (C6 (AG A4) (C6 (HL Cb) Cb))))) Ap) (A2 (S0 (NB:=["_law_k","_law_cell","_law_many"]) 6 [none,none,some 5] Dq.nd rfl (zb0 rfl) rfl (Kl rfl T.DQ (!3)) rfl rfl (Kx (n:=2) rfl (BY 0 (by decide) rfl rfl rfl (BY 1 (by decide) rfl rfl rfl HV))) (λ _ _ _ _=>El) (λ _ _ _ _=>(Ag (Cj (Aa (BI rfl).toXCall (UP T) (-hr) rfl (A1 (!1) (A1 (!2) (A1 (!0) A6))) rfl))))) (A2 (AZ (DW.dt (RX (Ki (c:=true) (!hr) (Bs (BO (!4) A4) A4) A4) (Ny (FJ (c:=true) (!hr) (!6) (Dg A6))))) (A5 (Aq 6 Dq.nd rfl (zb0 rfl) (Ag (Kw (!6) (Dg (A1 (A9 (!hr) (!6) (Bs (BO (!4) A4) (CZ rfl T.Fl (!6)))) A6)))))) Ap) (A5 (Ae (AG (AY (A1 (!5) (A1 (!6) A6))))))))))))),?_⟩;intro ns i9 aV;rfl';refine (λ h:∃t,_/\∃(m:Nat) (rs:List Road),1<=m/\m<=5/\rs.length<=17/\(∀r∈rs,EL m r)/\er t=Ad m rs=>by
  obtain⟨t,h1,m,rs,h2,h3,h4,h5,h6⟩:=h;exact⟨m,rs,h2,h3,h4,h5,t,h1,h6⟩) (Ky ?_)
 obtain⟨cs,ie⟩:∃cs,cs=(ns.drop 2).take 16:=⟨_,rfl⟩;have c8:cs.length<=16:=by rw[ie,zbf];omega
 have sl:Yh (some 2) (some (2+16)) (.lst (ns.map D.int))=.ok (.lst ((cs.map D.int).map .sh)):=by rw[ie,List.map_take,List.map_drop];exact lJ _ 2 18
 obtain⟨z0,sn,rq⟩:=IQ ns 0 aV;have sx:Eu [.lst (ns.map D.int),.int 0]=.ok (.sh (.int z0)):=rq;obtain⟨v,v0,hv⟩:=Ex z0 40 (by decide) (by decide);apply wp_step
 ·simp_arith[sl];rfl
 try simp only[zaj,zag]
 apply wp_step
 ·simp_arith[sx,hv];rfl
 try simp only[zaj,zag]
 have d2:Ei (.int ((cs.map D.int).length:Int)) (.int 2)=.ok (.int ((cs.map D.int).length / 2)):=Bp ⟨by decide,by decide⟩;obtain⟨n,hn⟩:∃n:Int,n=(if 2+((cs.map D.int).length:Int) / 2<5 then 2+((cs.map D.int).length:Int) / 2 else 5):=⟨_,rfl⟩;have a6:2<=n/\n<=5:=by rw[hn];split<;>omega
 have q1:F8 (.int v) (.int n)=.ok (.int (v%n)):=B7 (by omega);obtain⟨m,hm⟩:∃m:Nat,(m:Int)=1+v%n:=⟨(1+v%n).toNat,by have:=zbq v (b:=n) (by omega);omega⟩;have m8:1<=m/\m<=5:=by
  have:=zbq v (b:=n) (by omega);have:=zbm v (b:=n) (by omega);omega
 refine wp_step (ρ':=[‹.lst (ns.map D.int)›,‹.int 5›,‹.int 16›,‹.lst (cs.map D.int)›,‹.int v›,‹.int m›,none]) (by
  simp_arith[d2];rw[<-hn,q1];simp_arith[];rw[<-hm]) ?_
 by_cases aF:(m:Int)=1
 ·simp_arith[decide_eq_true aF];refine⟨_,rfl,m,[],m8.1,m8.2,by simp,(λ r hr=>by cases hr),?_⟩;have:m=1:=by omega
  subst this;rfl
 apply wp_step
 ·simp_arith[decide_eq_false aF];rfl
 have dL:∀i:Nat,i<cs.length->∃r:Road,EL m r/\Jd [.int (cs.getD i 0),.int m,.int i]=.ok (.sh (Bx r)):=λ i hi=>UQ (cs.getD i 0) i m (by omega) (by omega) (by omega) (by omega);obtain⟨f,hf⟩:∃f:Nat->Road,∀i:Nat,i<cs.length->EL m (f i)/\Jd [.int (cs.getD i 0),.int m,.int i]=.ok (.sh (Bx (f i))):=⟨λ i=>if h:i<cs.length then za5 (dL i h) else ⟨0,0,none,0⟩,λ i hi=>by
  dsimp only;rw[dif_pos hi];exact za0 (dL i hi)⟩
 have am:((zb8 cs.length).map λ i:Nat=>D.tup [.int (i:Int),.int (cs.getD i 0)]).length<=1000:=by rw[za2,zc4];omega
 simp_arith[VW,if_pos am];rw[BP (λ i:Nat=>Bx (f i)) (λ i hi=>⟨_,rfl,rfl,by
  have h1:=(hf i (zcb.mp hi)).2;simp_arith[h1]⟩)]
 simp_arith[];have HD:∀S:List D,S=S:=λ _=>rfl;refine wp_step (ρ':=[‹.lst (ns.map D.int)›,‹.int 5›,‹.int 16›,‹.lst (cs.map D.int)›,‹.int v›,‹.int m›,‹.lst (((zb8 cs.length).map f).map Bx)›]) (by rw[zbx];rfl) ?_;obtain⟨b8,gm⟩:∃b8,b8=(zb8 cs.length).map f:=⟨_,rfl⟩;have dn:∀r∈b8,EL m r:=λ r hr=>by
  rw[gm] at hr;obtain⟨i,hi,rfl⟩:=zar.mp hr;exact (hf i (zcb.mp hi)).1
 have il:b8.length<=16:=by rw[gm,za2,zc4];exact c8
 rw[<-gm];refine Ck (I:=λ ρ=>∃rs:List Road,ρ=[‹.lst (ns.map D.int)›,‹.int 5›,‹.int 16›,‹.lst (cs.map D.int)›,‹.int v›,‹.int m›,‹.lst (rs.map Bx)›]/\rs.length<=17/\∀r∈rs,EL m r) ?_ ?_
 ·have ka:Ei (.int v) (.int 16)=.ok (.int (v / 16)):=Bp ⟨by decide,by decide⟩;have q3:F8 (.int (v / 16)) (.int 3)=.ok (.int (v / 16%3)):=B7 (by decide);have yp:Ei (.int v) (.int 64)=.ok (.int (v / 64)):=Bp ⟨by decide,by decide⟩;have ad:=Mt b8;by_cases c1:v / 16%3=1
  ·by_cases c2:b8=[]
   ·rw[decide_eq_false (by simp[c2])] at ad;refine Bt (ρ':=_) (by simp_arith[ka,q3,decide_eq_true c1,ad];rfl) ⟨b8,rfl,by omega,dn⟩
   ·rw[decide_eq_true c2] at ad;have sy:0<(b8.map Bx).length:=by rw[za2];exact List.length_pos_iff.mpr c2
    obtain⟨p1,y,hy,p2⟩:=fK sy (show 0<=v / 64 by omega);obtain⟨r,hr,rfl⟩:=zar.mp hy;have hpl:Ko (.lst (b8.map Bx)) (.lst [Bx r])=.ok (.lst (((b8++[r]).map Bx).map .sh)):=by rw[zas];exact KL (by rw[za2];simp;omega)
    refine Bt (ρ':=[‹.lst (ns.map D.int)›,‹.int 5›,‹.int 16›,‹.lst (cs.map D.int)›,‹.int v›,‹.int m›,‹.lst ((b8++[r]).map Bx)›]) (by
     simp_arith[ka,q3,decide_eq_true c1,ad,yp,p1,p2,hpl];rfl) ⟨b8++[r],rfl,by rw[zah];simp;omega,λ r2 h2=>by
     rcases zal.mp h2 with h|h
     ·exact dn r2 h
     ·rw[za9.mp h];exact dn r hr⟩
  ·refine Bt (ρ':=_) (by simp_arith[ka,q3,decide_eq_false c1];try rfl) ⟨b8,rfl,by omega,dn⟩
 ·rintro ρ ⟨rs,rfl,hl,AF⟩;simp_arith[];exact⟨m,rs,m8.1,m8.2,hl,AF,rfl⟩
abbrev UR:=za5 K7
def Wj:FT "_law_map" 3 3 UR:=(za0 K7).1
def Wl:Rw UR:=(za0 K7).2
abbrev MM (F:List D->M OT):Prop:=∀(c:Int) (m:Nat) (k:Int),m<=60->0<=k->k<=100->∃L:List Int,L.Perm (BC m)/\F [.int c,.int m,.int k]=.ok (.lst ((L.map D.int).map .sh))
def GR:∃F,FT "_law_order" 2 3 F/\MM F:=by
 refine⟨_,λ T=>As (k:=1) T.UB GF _ (λ f AX A outer s H E hr=>(A2 (C3 3 GF.nd rfl (zb0 rfl) (HL Cb)) (A2 (Cg A7.toXCall.own rfl (FK (c:=true) rfl T.Jc (!1)) (AW 4 GF.nd rfl (zb0 rfl)) (A5 (QZ 3 (pv 3) (Bs (Ag (Aa A7.toXCall (Ew T) (-hr) rfl (A1 (!0) (A1 (BH (!2) (!4)) A6)) rfl)) (BH (!4) A4)) (!4)))) (A5 (En 3 (pv 3)))))),?_⟩;intro c m k hm xr hk1;rfl';refine (λ h:∃t,_/\∃L:List Int,t=OT.lst ((L.map D.int).map .sh)/\L.Perm (BC m)=>by
  obtain⟨t,h1,L,rfl,h2⟩:=h;exact⟨L,h2,h1⟩) (Ky ?_)
 have hr:=Kk (n:=m) (by omega);apply wp_step
 ·rfl
 try simp only[zaj,zag]
 refine Ck (I:=λ ρ=>∃(L:List Int) (s3:Option Cl),ρ=[‹.int c›,‹.int m›,‹.int k›,some (.own (L.map D.int)),s3]/\L.Perm (BC m)) ?_ ?_
 ·simp_arith[hr];refine Cm (λ i ρ=>i<=m/\∃(L:List Int) (s3:Option Cl),ρ=[‹.int c›,‹.int m›,‹.int k›,some (.own (L.map D.int)),s3]/\L.Perm (BC i)) ⟨zba _,[],none,rfl,.refl _⟩ ?_ ?_
  ·rintro i d ρ hd ⟨_,L,s3,rfl,hL⟩;obtain⟨ce,hi⟩:=Gq hd;rw[Int.zero_add] at ce;subst ce;have hlen:=Ib hL;refine⟨_,rfl,?_⟩;obtain⟨v,v0,hv⟩:=Ex c (k+i) (by omega) (by omega);have aF:F8 (.int v) (.int ((i:Int)+1))=.ok (.int (v%((i:Int)+1))):=B7 (by omega);have b0:0<=v%((i:Int)+1):=zbq _ (by omega);have b1:v%((i:Int)+1)<(i:Int)+1:=zbm _ (by omega);refine Bt (ρ':=[‹.int c›,‹.int m›,‹.int k›,some (.own ((L.take (v%((i:Int)+1)).toNat++(i:Int)::L.drop (v%((i:Int)+1)).toNat).map D.int)),‹.int i›]) ?_ ⟨by omega,_,_,rfl,YK hL _⟩;simp_arith[hv,aF];rw[if_pos ⟨b0,by rw[za2];omega,by rw[za2];omega⟩];simp only[zas,za6,List.map_take,List.map_drop];rfl
  ·rintro ρ ⟨_,L,s3,rfl,hL⟩;exact⟨L,s3,rfl,by rw[CB] at hL;exact hL⟩
 ·rintro ρ ⟨L,s3,rfl,hL⟩;exact⟨_,rfl,L,rfl,hL⟩
abbrev PX:=za5 GR
def SJ:FT "_law_order" 2 3 PX:=(za0 GR).1
def SK:MM PX:=(za0 GR).2
abbrev PY (F:List D->M OT):Prop:=∀c:Co,F [cst c,cst c]=.ok (.sh (.bl true))
def IS:∃F,FT "_law_cost" 1 2 F/\PY F:=by
 refine⟨_,λ T=>As (k:=0) T.W7 MB _ (λ f AX A outer s H E hr=>(A2 (AZ (EE (c:=true) (!1)) (A5 (Ae (AG (RW (!0))))) Ap) (A2 (AZ (DW.dt (CY (Bn (Ba (c:=true) (Dh (Gn _) rfl T.AV rfl T.Lb (by decide +kernel) (!0)))) (Ce (FJ (c:=true) (!hr) (CZ rfl T.Fl (!0)) A4)))) (A5 (Ae (AG D9))) Ap) (A2 (Cg A7.toXCall.own rfl (tN (!0)) (AW 2 MB.nd rfl (zb0 rfl)) (A5 (AZ (DW.dt (CY (Bn (Ba (c:=true) (Dh (O5 _) rfl T.AV rfl T.Xp (by decide +kernel) (!2)))) (Ce (Ba (c:=true) (Dh (LC _) rfl T.AV rfl T.Wc (by decide +kernel) (!2)))))) (A5 (Ae (AG D9))) Ap))) (A5 (Ae (AG (Tw (!hr) (!0) (!1))))))))),?_⟩;intro c;rfl';refine B1 ?_;cases c with
 |none=>rfl
 |some p =>
  have hn:Bz (cst (some p))=false:=rfl;have ht:cst (some p)=.tup [.int p.1,.int p.2]:=rfl;have cu:=KH (some p) (some p);apply wp_step
  ·simp_arith[hn];rfl
  apply wp_step
  ·simp_arith[ht];rfl
  refine Ck (I:=λ ρ=>∃s,ρ=[‹cst (some p)›,‹cst (some p)›,s]) ?_ ?_
  ·simp_arith[ht];refine Cm (λ i ρ=>∃s,ρ=[‹cst (some p)›,‹cst (some p)›,s]) ⟨none,rfl⟩ ?_ ?_
   ·rintro i d ρ hd ⟨s,rfl⟩;obtain⟨x,rfl⟩:∃x,d=D.int x:=by
     rcases i with _|_|i
     ·cases hd;exact⟨_,rfl⟩
     ·cases hd;exact⟨_,rfl⟩
     ·cases hd
    refine⟨_,rfl,?_⟩;refine Bt (ρ':=_) (by simp_arith[];rfl) ⟨_,rfl⟩
   ·rintro ρ ⟨s,rfl⟩;exact⟨s,rfl⟩
  ·rintro ρ ⟨s,rfl⟩;simp_arith[cu,decide_true];rfl
abbrev Rx:=za5 IS
def US:FT "_law_cost" 1 2 Rx:=(za0 IS).1
def UT:PY Rx:=(za0 IS).2
abbrev PZ (F:List D->M OT):Prop:=∀(m:Nat) (rs:List Road) (s g:Int) (c:Int×Int) (N:List Nat),OV rs s N g c.1->(N.length:Int)=c.2->F [Ad m rs,.int s,.int g,EQ N]=.ok (.sh (cst (some c)))
def IT:∃F,FT "_law_walk" 1 4 F/\PZ F:=by
 refine⟨_,λ T=>As (k:=0) T.W8 Bo _ (λ f AX A outer s H E hr=>(A2 (Aq 4 Bo.nd rfl (zb0 rfl) (!1)) (A2 (Aq 5 Bo.nd rfl (zb0 rfl) (AY (A1 A4 (A1 A4 A6)))) (A2 (AZ (Bn (Ba (c:=true) (Dh (LB _) rfl T.AV rfl T.D2 (by decide +kernel) (!3)))) (A5 (Ae (AG Cy))) Ap) (A2 (Cg A7.toXCall.own rfl (Bw (!3)) (AW 6 Bo.nd rfl (zb0 rfl)) (A2 (AZ (DW.dt (CY (Bn (Ba (c:=true) (Dh (O5 _) rfl T.AV rfl T.Xp (by decide +kernel) (!6)))) (CY (Ba (c:=true) (Dh (LC _) rfl T.AV rfl T.Wc (by decide +kernel) (!6))) (Ce (Bn (Z1 (c:=true) nJ Zz A4 (!6) (CZ rfl T.Fl (A9 (!hr) (!0) A4)))))))) (A5 (Ae (AG Cy))) Ap) (A2 (cD (A9 (!hr) (A9 (!hr) (!0) A4) (!6)) (RZ (n:=4) rfl (BU (AW 7 Bo.nd rfl (zb0 rfl)) (BU (AW 8 Bo.nd rfl (zb0 rfl)) (BU (AW 9 Bo.nd rfl (zb0 rfl)) (BU (AW 10 Bo.nd rfl (zb0 rfl)) Nz)))))) (A2 (AZ (DW.dt (CY (FJ (c:=true) (!hr) (!7) (!4)) (Ce (EE (c:=true) (!9))))) (A5 (Ae (AG Cy))) Ap) (A2 (Aq 5 Bo.nd rfl (zb0 rfl) (AY (A1 (BH (A9 (!hr) (!5) A4) (!9)) (A1 (BH (A9 (!hr) (!5) A4) A4) A6)))) (A5 (Aq 4 Bo.nd rfl (zb0 rfl) (!8)))))))) (A2 (AZ (FJ (c:=true) (!hr) (!4) (!2)) (A5 (Ae (AG Cy))) Ap) (A5 (Ae (AG (!5)))))))))),?_⟩;intro m rs s g c N aY ic;rfl';refine B1 ?_;have n1:AI (Ad m rs) (.int 1)=.ok (.lst (rs.map Bx)):=rfl;have eN:EQ N=.lst (N.map λ n:Nat=>D.int (n:Int)):=rfl;refine wp_step (ρ':=[‹Ad m rs›,‹.int s›,‹.int g›,‹EQ N›,‹.int s›,none,none,none,none,none,none]) (by simp_arith[];try rfl) ?_;refine wp_step (ρ':=[‹Ad m rs›,‹.int s›,‹.int g›,‹EQ N›,‹.int s›,‹.tup [.int 0,.int 0]›,none,none,none,none,none]) (by simp_arith[];try rfl) ?_;refine wp_step (ρ':=[‹Ad m rs›,‹.int s›,‹.int g›,‹EQ N›,‹.int s›,‹.tup [.int 0,.int 0]›,none,none,none,none,none]) (by simp_arith[eN];try rfl) ?_;refine Ck (I:=λ ρ=>∃s6 s7 s8 s9 ee:Option Cl,ρ=[‹Ad m rs›,‹.int s›,‹.int g›,‹EQ N›,‹.int g›,‹.tup [.int c.1,.int (N.length:Nat)]›,s6,s7,s8,s9,ee]) ?_ ?_
 ·simp_arith[eN];refine Cm (λ i ρ=>∃(x t a:Int) (s6 s7 s8 s9 ee:Option Cl),ρ=[‹Ad m rs›,‹.int s›,‹.int g›,‹EQ N›,‹.int x›,‹.tup [.int a,.int (i:Nat)]›,s6,s7,s8,s9,ee]/\OV rs x (N.drop i) g t/\a+t=c.1) ⟨s,c.1,0,none,none,none,none,none,rfl,by rw[zd5];exact aY,by omega⟩ ?_ ?_
  ·rintro i d ρ hd ⟨x,t,a,s6,s7,s8,s9,ee,rfl,hc,hs⟩;obtain⟨n,hn,rfl⟩:=BJ hd;refine⟨_,rfl,?_⟩;have yq:N.drop i=n::N.drop (i+1):=by rw[List.drop_eq_getElem?_toList_append,hn];rfl
   rw[yq] at hc;obtain⟨r,l,t',g1,g2,g3,g4,g5⟩:=hc.inv;have hnl:=(zae.mp g1).1;have q1:decide ((0:Int)<=(n:Int))=true:=decide_eq_true (by omega);have q2:decide ((n:Int)<((rs.map Bx).length:Int))=true:=decide_eq_true (by rw[za2];omega);have vt:AI (.lst (rs.map Bx)) (.int (n:Int))=.ok (Bx r):=Gz (by omega) (by rw[zbg];exact g1);have er:Bx r=.tup [.int r.a,.int r.b,.int l,.int r.w]:=by unfold Bx;rw[g3];rfl
   have yr:Vt 16 (.int r.a) (.int x)=.ok (.bl false):=by rw[g2];exact Ob (Ci (n:=16) x)
   have aD:Bz (.int l)=false:=rfl;have t0:AI (.tup [.int a,.int (i:Nat)]) (.int 0)=.ok (.int a):=rfl;have t1:AI (.tup [.int a,.int (i:Nat)]) (.int 1)=.ok (.int (i:Nat)):=rfl;refine wp_step (ρ':=[‹Ad m rs›,‹.int s›,‹.int g›,‹EQ N›,‹.int x›,‹.tup [.int a,.int (i:Nat)]›,‹.int n›,s7,s8,s9,ee]) (by simp_arith[n1,q1,q2,Eo,if_true];try rfl) ?_;refine wp_step (ρ':=[‹Ad m rs›,‹.int s›,‹.int g›,‹EQ N›,‹.int x›,‹.tup [.int a,.int (i:Nat)]›,‹.int n›,‹.int r.a›,‹.int r.b›,‹.int l›,‹.int r.w›]) (by
    rw[er] at vt;simp_arith[n1,vt];try rfl) ?_
   refine wp_step (ρ':=[‹Ad m rs›,‹.int s›,‹.int g›,‹EQ N›,‹.int x›,‹.tup [.int a,.int (i:Nat)]›,‹.int n›,‹.int r.a›,‹.int r.b›,‹.int l›,‹.int r.w›]) (by simp_arith[yr,aD];try rfl) ?_;refine wp_step (ρ':=[‹Ad m rs›,‹.int s›,‹.int g›,‹EQ N›,‹.int x›,‹.tup [.int (a+l),.int ((i:Nat)+1)]›,‹.int n›,‹.int r.a›,‹.int r.b›,‹.int l›,‹.int r.w›]) (by simp_arith[t0,t1];try rfl) ?_;refine Bt (ρ':=[‹Ad m rs›,‹.int s›,‹.int g›,‹EQ N›,‹.int r.b›,‹.tup [.int (a+l),.int ((i:Nat)+1)]›,‹.int n›,‹.int r.a›,‹.int r.b›,‹.int l›,‹.int r.w›]) (by simp_arith[];try rfl) ⟨r.b,t',a+l,_,_,_,_,_,rfl,g4,by omega⟩
  ·rintro ρ ⟨x,t,a,s6,s7,s8,s9,ee,rfl,hc,hs⟩;rw[za2,zco] at hc;rw[za2];cases hc;have:a=c.1:=by omega
   subst this;exact⟨s6,s7,s8,s9,ee,rfl⟩
 ·rintro ρ ⟨s6,s7,s8,s9,ee,rfl⟩;have sB:Vt 16 (.int g) (.int g)=.ok (.bl false):=Ob (Ci (n:=16) g);apply wp_step
  ·simp_arith[sB];rfl
  simp_arith[ic];rfl
abbrev Ry:=za5 IT
def UU:FT "_law_walk" 1 4 Ry:=(za0 IT).1
def UW:PZ Ry:=(za0 IT).2
abbrev Q1 (F:List D->M OT):Prop:=∀(m:Nat) (rs:List Road) (i:Int),rs.length<=60->0<=i->i<rs.length->F [Ad m rs,.int i,.Ax]=.ok (.tup [.sh (.int m),.lst (((GC rs i).map Bx).map .sh)])
def IU:∃F,FT "_law_with" 1 3 F/\Q1 F:=by
 refine⟨_,λ T=>As (k:=0) T.W9 DM _ (λ f AX A outer s H E hr=>(A2 (cD (A9 (!hr) (A9 (!hr) (!0) A4) (!1)) (RZ (n:=4) rfl (BU (AW 3 DM.nd rfl (zb0 rfl)) (BU (AW 4 DM.nd rfl (zb0 rfl)) (BU (AW 5 DM.nd rfl (zb0 rfl)) (BU (AW 6 DM.nd rfl (zb0 rfl)) Nz)))))) (A5 (Ae (Om (C6 (AG (A9 (!hr) (!0) A4)) (C6 (Kw (Ag (Kw (Ag (FO (A9 (!hr) (!0) A4) Kj (Gp (!1)))) (Dg (A1 (AY (A1 (!3) (A1 (!4) (A1 (!2) (A1 (!6) A6))))) A6)))) (Ag (FO (A9 (!hr) (!0) A4) (Gp (BH (!1) A4)) Kj))) Cb))))))),?_⟩;intro m rs i hl h0 h1;rfl';refine B1 ?_;have n0:AI (Ad m rs) (.int 0)=.ok (.int m):=rfl;have n1:AI (Ad m rs) (.int 1)=.ok (.lst (rs.map Bx)):=rfl;obtain⟨k,rfl⟩:∃k:Nat,(k:Int)=i:=⟨i.toNat,by omega⟩;obtain⟨r,hr⟩:∃r,rs[k]?=some r:=⟨_,za7 (by omega)⟩;have x1:AI (.lst (rs.map Bx)) (.int (k:Int))=.ok (Bx r):=Gz (by omega) (by rw[zbg];exact hr);have ec:GC rs (k:Int)=rs.take k++[Ht r]++rs.drop (k+1):=by
  unfold GC;rw[zbg,hr];dsimp only;rw[List.set_eq_take_append_cons_drop,if_pos (zae.mp hr).1,zbk];rfl
 have s1:Yh none (some (k:Int)) (.lst (rs.map Bx))=.ok (.lst (((rs.take k).map Bx).map .sh)):=by rw[List.map_take];exact TR _ k
 have s2:Yh (some ((k:Int)+1)) none (.lst (rs.map Bx))=.ok (.lst (((rs.drop (k+1)).map Bx).map .sh)):=by rw[List.map_drop];exact Ox _ (k+1)
 have er:D.tup [.int r.a,.int r.b,.Ax,.int r.w]=Bx (Ht r):=rfl;have p1:Ko (.lst ((rs.take k).map Bx)) (.lst [Bx (Ht r)])=.ok (.lst (((rs.take k++[Ht r]).map Bx).map .sh)):=by rw[zas];exact KL (by rw[za2,zbf];simp;omega)
 have p2:Ko (.lst ((rs.take k++[Ht r]).map Bx)) (.lst ((rs.drop (k+1)).map Bx))=.ok (.lst (((rs.take k++[Ht r]++rs.drop (k+1)).map Bx).map .sh)):=by
  rw[zas (l₁:=rs.take k++[Ht r])];exact KL (by rw[za2,za2,zah,zbf,zci];simp;omega)
 refine wp_step (ρ':=[‹Ad m rs›,‹.int k›,‹.Ax›,‹.int r.a›,‹.int r.b›,‹E5 r.l›,‹.int r.w›]) (by simp_arith[n1,x1];try rfl) ?_;rw[ec];simp_arith[n0,n1,s1,s2,er,p1,p2];exact⟨_,rfl,rfl⟩
abbrev RB:=za5 IU
def UX:FT "_law_with" 1 3 RB:=(za0 IU).1
def UY:Q1 RB:=(za0 IU).2
abbrev Q2 (F:List D->M OT):Prop:=∀(m:Nat) (rs:List Road),F [Ad m rs]=.ok (.tup [.sh (.int m),.lst ((rs.map Bx).map .sh)])
def IV:∃F,FT "_law_copy" 1 1 F/\Q2 F:=by
 refine⟨_,λ T=>As (k:=0) T.Wa Uu _ (λ f AX A outer s H E hr=>(A5 (Ae (Om (C6 (AG (A9 (!hr) (!0) A4)) (C6 (Em rfl T.D2 (A9 (!hr) (!0) A4)) Cb)))))),?_⟩;intro m rs;rfl';refine B1 ?_;have i0:AI (Ad m rs) (.int 0)=.ok (.int m):=rfl;have i1:AI (Ad m rs) (.int 1)=.ok (.lst (rs.map Bx)):=rfl;simp_arith[i0,i1];exact⟨_,rfl,rfl⟩
abbrev RC:=za5 IV
def IW:FT "_law_copy" 1 1 RC:=(za0 IV).1
def MN:Q2 RC:=(za0 IV).2
abbrev Q3 (F:List D->M OT):Prop:=∀(m:Nat) (rs:List Road) (x:Int),rs.length<=60->0<=x->∃S:List Int,S.length<=20/\(∀i∈S,0<=i/\i<rs.length)/\F [Ad m rs,.int x]=.ok (.lst ((S.map D.int).map .sh))
def IX:∃F,FT "_law_shut" 1 2 F/\Q3 F:=by
 refine⟨_,λ T=>As (k:=0) T.Wb Iq _ (λ f AX A outer s H E hr=>(A2 (C3 2 Iq.nd rfl (zb0 rfl) (HL Cb)) (A2 (Cg A7.toXCall.own rfl (FK (c:=true) rfl T.Jc (J4 (Bs (!1) A4) (kD rfl T.Xp (wJ (!hr) (A9 (!hr) (!0) A4) (Dg A6))))) (AW 3 Iq.nd rfl (zb0 rfl)) (A5 (QZ 2 (pv 2) (WO (cP (c:=true) (Bs (BO (!1) A4) (BH (CZ rfl T.Fl (!2)) A4)))) (Bs (BO (!1) (BH (J4 A4 (!3)) A4)) (CZ rfl T.Fl (A9 (!hr) (!0) A4)))))) (A5 (En 2 (pv 2)))))),?_⟩;intro m rs x hl h0;rfl';refine (λ h:∃t,_/\∃S:List Int,t=OT.lst ((S.map D.int).map .sh)/\S.length<=20/\(∀i∈S,0<=i/\i<(rs.length:Int))=>by
  obtain⟨t,h1,S,rfl,h2,h3⟩:=h;exact⟨S,h2,h3,h1⟩) (Ky ?_)
 have n0:AI (Ad m rs) (.int 0)=.ok (.int m):=rfl;have n1:AI (Ad m rs) (.int 1)=.ok (.lst (rs.map Bx)):=rfl;have q1:F8 (.int x) (.int 5)=.ok (.int (x%5)):=B7 (by decide);have q2:Ei (.int x) (.int 8)=.ok (.int (x / 8)):=Bp ⟨by decide,by decide⟩;have ad:=Mt rs;have il:(((rs.map Bx).length:Int))=(rs.length:Int):=by rw[za2]
 obtain⟨n,hn,a6,hmul⟩:∃n:Nat,n<=4/\(0<n->rs≠[])/\((WM [.bl (decide (rs≠[]))]).bind λ y=>HI (.int (x%5)) y)=.ok (.int (n:Int)):=by
  by_cases c:rs=[]
  ·refine⟨0,by omega,λ z=>absurd z (by omega),?_⟩;rw[decide_eq_false (λ z=>z c)];have:HI (.int (x%5)) (.int 0)=.ok (.int (x%5*0)):=EF (.inr (.inr (.inr ⟨by omega,by omega⟩)));rw[Int.mul_zero] at this;exact this
  ·refine⟨(x%5).toNat,by omega,λ _=>c,?_⟩;rw[decide_eq_true c];have:HI (.int (x%5)) (.int 1)=.ok (.int (x%5*1)):=EF (.inr (.inr (.inr ⟨by omega,by omega⟩)));rw[Int.mul_one] at this;rw[show (((x%5).toNat:Nat):Int)=x%5 by omega];exact this
 have hr:=Kk (n:=n) (by omega);apply wp_step
 ·rfl
 try simp only[zaj,zag]
 refine Ck (I:=λ ρ=>∃(S:List Int) (s3:Option Cl),ρ=[‹Ad m rs›,‹.int x›,some (.own (S.map D.int)),s3]/\S.length<=20/\(∀i∈S,0<=i/\i<(rs.length:Int))) ?_ ?_
 ·simp_arith[q1,n1,ad,hmul,hr];refine Cm (λ i ρ=>∃(S:List Int) (s3:Option Cl),ρ=[‹Ad m rs›,‹.int x›,some (.own (S.map D.int)),s3]/\S.length=i/\(∀i∈S,0<=i/\i<(rs.length:Int))) ⟨[],none,rfl,rfl,λ i hi=>by cases hi⟩ ?_ ?_
  ·rintro i d ρ hd ⟨S,s3,rfl,dl,hS⟩;obtain⟨ce,hi⟩:=Gq hd;rw[Int.zero_add] at ce;subst ce;have yt:=a6 (by omega);have aX:0<rs.length:=List.length_pos_iff.mpr yt;refine⟨_,rfl,?_⟩;have yu:(((S.map D.int).length:Int)+1)=(i:Int)+1:=by rw[za2,dl]
   have q3:F8 (.int (x / 8)) (.int ((i:Int)+1))=.ok (.int (x / 8%((i:Int)+1))):=B7 (by omega);have q4:HI (.int 3) (.int (i:Int))=.ok (.int (3*(i:Int))):=EF (.inr (.inr (.inr ⟨by omega,by omega⟩)));have q5:Ei (.int x) (.int (3*(i:Int)+5))=.ok (.int (x / (3*(i:Int)+5))):=Bp ⟨by omega,by omega⟩;have q6:F8 (.int (x / (3*(i:Int)+5))) (.int (rs.length:Int))=.ok (.int (x / (3*(i:Int)+5)%rs.length)):=B7 (by omega);have b0:0<=x / 8%((i:Int)+1):=zbq _ (by omega);have b1:x / 8%((i:Int)+1)<(i:Int)+1:=zbm _ (by omega);have c0:0<=x / (3*(i:Int)+5)%(rs.length:Int):=zbq _ (by omega);have c1:x / (3*(i:Int)+5)%(rs.length:Int)<rs.length:=zbm _ (by omega);obtain⟨y,hy⟩:∃y,y=x / (3*(i:Int)+5)%(rs.length:Int):=⟨_,rfl⟩;rw[<-hy] at q6 c0 c1;refine Bt (ρ':=[‹Ad m rs›,‹.int x›,some (.own ((S.take (x / 8%((i:Int)+1)).toNat++y::S.drop (x / 8%((i:Int)+1)).toNat).map D.int)),‹.int i›]) ?_ ⟨_,_,rfl,by rw[zah,za8,zbf,zci];omega,λ z hz=>by
    rcases zal.mp hz with hz|hz
    ·exact hS z (zca hz)
    ·rcases zab.mp hz with rfl|hz
     ·exact⟨c0,c1⟩
     ·exact hS z (List.mem_of_mem_drop hz)⟩
   simp_arith[n1,il,yu,q2,q3,q4,q5,q6];rw[if_pos ⟨b0,by rw[za2];omega,by rw[za2];omega⟩];simp only[zas,za6,List.map_take,List.map_drop];rfl
  ·rintro ρ ⟨S,s3,rfl,dl,hS⟩;rw[CB] at dl;exact⟨S,s3,rfl,by omega,hS⟩
 ·rintro ρ ⟨S,s3,rfl,dl,hS⟩;exact⟨_,rfl,S,rfl,dl,hS⟩
abbrev RD:=za5 IX
def UZ:FT "_law_shut" 1 2 RD:=(za0 IX).1
def V0:Q3 RD:=(za0 IX).2
abbrev MO (F:List D->M OT):Prop:=∀(m:Nat) (rs:List Road) (x:Co) (N N0:List Nat) (T:List Co) (s g:Nat),(∀c,x=some c->OV rs s N g c.1/\(N.length:Int)=c.2)->F [C4 x N T,C4 x N0 T,Ad m rs,.int s,.int g]=.ok (.sh (.bl true))
def GS:∃F,FT "_law_alike" 2 5 F/\MO F:=by
 refine⟨_,λ T=>As (k:=1) T.UC L7 _ (λ f AX A outer s H E hr=>(A2 (AZ (DW.dt (CY (EE (c:=true) (!1)) (Ce (EE (c:=true) (!0))))) (A5 (Ae (AG (JQ (RW (!1)) (Lz (RW (!0))))))) Ap) (A2 (AZ (DW.dt (CY (Bn (Ba (c:=true) (Dh (Gn _) rfl T.AV rfl T.Lb (by decide +kernel) (!0)))) (CY (FJ (c:=true) (!hr) (CZ rfl T.Fl (!0)) A4) (Ce (FJ (c:=true) (!hr) (A9 (!hr) (!0) A4) (A9 (!hr) (!1) A4)))))) (A5 (Ae (AG D9))) Ap) (A2 (Aq 5 L7.nd rfl (zb0 rfl) (Ag (Aa A7.toXCall (UU T) (-hr) rfl (A1 (!2) (A1 (!3) (A1 (!4) (A1 (A9 (!hr) (!0) A4) A6)))) rfl))) (A5 (Ae (AG (JQ (jU (!5)) (JQ (Ag (Aa A7.toXCall (US T) (-hr) rfl (A1 (A9 (!hr) (!0) A4) (A1 (!5) A6)) rfl)) (Lz (Tw (!hr) (A9 (!hr) (!0) A4) (A9 (!hr) (!1) A4)))))))))))),?_⟩;intro m rs x N N0 T s g h;rfl';refine B1 ?_;cases x with
 |none=>rfl
 |some c =>
  obtain⟨h1,h2⟩:=h c rfl;have a1:Bz (C4 (some c) N T)=false:=rfl;have a2:Bz (C4 (some c) N0 T)=false:=rfl;have a3:Jl "tuple" (C4 (some c) N T)=.ok (.bl true):=rfl;have a4:XX [C4 (some c) N T]=.ok (.int 3):=rfl;have b0:AI (C4 (some c) N T) (.int 0)=.ok (cst (some c)):=rfl;have b1:AI (C4 (some c) N T) (.int 1)=.ok (EQ N):=rfl;have b2:AI (C4 (some c) N T) (.int 2)=.ok (.lst (T.map cst)):=rfl;have c0:AI (C4 (some c) N0 T) (.int 0)=.ok (cst (some c)):=rfl;have c2:AI (C4 (some c) N0 T) (.int 2)=.ok (.lst (T.map cst)):=rfl;have ad:Vt 16 (.lst (T.map cst)) (.lst (T.map cst))=.ok (.bl false):=Ob ((mN T).le (by decide));have hw:=UW m rs s g c N h1 h2;have hc:=UT (some c);have cu:=KH (some c) (some c);rw[decide_eq_true rfl] at cu;have aD:Bz (cst (some c))=false:=rfl;apply wp_step
  ·simp_arith[a1,a2];rfl
  apply wp_step
  ·simp_arith[a3,a4,b2,c2,ad,Eo];rfl
  apply wp_step
  ·simp_arith[b1,hw];rfl
  try simp only[zaj,zag]
  simp_arith[b0,c0,aD,hc,cu,Eo];rfl
abbrev Q4:=za5 GS
def Ey:FT "_law_alike" 2 5 Q4:=(za0 GS).1
def GU:MO Q4:=(za0 GS).2
abbrev IY (F:List D->M OT):Prop:=F [.Ax]=.ok (.sh .Ax)
def Eg:∃F:List D->M OT,(∀ {P w K mg base},Txt K mg->nV P w K mg base "_law_spoiled" 1 1 F)/\IY F:=by
 refine⟨_,λ T=>As (k:=0) T.Ju Ir _ (λ f AX A outer s H E hr=>(A5 (AZ (HM (Nx (c:=true) (!0))) (A2 (VE (ND (Bg 0 (pv 0)) A4) (AG A4)) (A5 (Rh (ND (Bg 0 (pv 0)) A4)))) Ap))),?_⟩;rfl
abbrev FF:List D->M OT:=za5 Eg
def Hm:Txt K mg->nV P w K mg base "_law_spoiled" 1 1 FF:=(za0 Eg).1
def Np:IY FF:=(za0 Eg).2
abbrev JI (F:OT->List D->M (OT×OT)):Prop:=∀(c:Int×Int) (N:List Nat) (T:List Co),N.length<=900->∃t,F (Fe (some c) N T) []=.ok (t,.sh .Ax)
def F7:∃F:OT->List D->M (OT×OT),(∀ {P w K mg base},Txt K mg->Kv P w K mg base "_law_spoiled" 1 1 F)/\JI F:=by
 refine⟨_,λ T=>Oq (k:=0) T.Ju Ir _ (λ f AX A outer s H E hr=>(A5 (AZ (HM (Nx (c:=true) (!0))) (A2 (VE (ND (Bg 0 (pv 0)) A4) (AG A4)) (A5 (Rh (ND (Bg 0 (pv 0)) A4)))) Ap))),?_⟩;intro c N T hN;dsimp only;refine⟨.tup [.sh (cst (some c)),.lst ((N.map λ n:Nat=>D.int (n:Int)).map .sh++[.sh (.int 0)]),.lst []],?_⟩;have e0:CQ ["_law_found"] (Fe (some c) N T) []=[some (.ow (.tree (some 0) (Fe (some c) N T)))]:=rfl;rw[e0];refine OO ?_;have hl:((N.map λ n:Nat=>D.int (n:Int)).map OT.sh).length<1000:=by rw[za2,za2];omega
 have yv:=Jb (some c) N T;have aD:Bz (C4 (some c) N T)=false:=rfl;have p1:rS 0 [some (.ow (.tree (some 0) (Fe (some c) N T)))] [] (.int 1)=.ok [1]:=rfl;have l1:DJ 0 [some (.ow (.tree (some 0) (Fe (some c) N T)))] [1]=.ok ((N.map λ n:Nat=>D.int (n:Int)).map .sh):=rfl;refine Bt (ρ':=[some (.ow (.tree (some 0) (.tup [.sh (cst (some c)),.lst ((N.map λ n:Nat=>D.int (n:Int)).map .sh++[.sh (.int 0)]),.lst []])))]) (by
  simp_arith[yv,aD,if_true,p1,l1,if_pos hl,XY];rfl) ⟨rfl,rfl⟩
abbrev GV:=za5 F7
def IZ:Txt K mg->Kv P w K mg base "_law_spoiled" 1 1 GV:=(za0 F7).1
def Q5:JI GV:=(za0 F7).2
abbrev J0 (F:List D->M OT):Prop:=∀(m:Nat) (rs:List Road) (L:List Int) (x:Int),1<=m->m<=16->rs.length<=60->(∀r∈rs,EL m r)->L.Perm (BC m)->0<=x->F [BK m rs L,Ad m rs,.lst (L.map D.int),.int x]=.ok (.sh (.bl true))
def Eh:∃F,FT "_law_question" 10 4 F/\J0 F:=by
 refine⟨_,λ T=>As (k:=9) T.Pu Au _ (λ f AX A outer s H E hr=>(A2 (Aq 4 Au.nd rfl (zb0 rfl) (Bs (!3) (A9 (!hr) (!1) A4))) (A2 (Aq 5 Au.nd rfl (zb0 rfl) (Bs (BO (!3) A4) (A9 (!hr) (!1) A4))) (A2 (Aq 6 Au.nd rfl (zb0 rfl) (Ag (Aa A7.toXCall (UZ T) (-hr) rfl (A1 (!1) (A1 (BO (!3) A4) A6)) rfl))) (A2 (Aq 7 Au.nd rfl (zb0 rfl) (!1)) (A2 (Cg A7.toXCall.own rfl (Bw (!6)) (AW 8 Au.nd rfl (zb0 rfl)) (A5 (Aq 7 Au.nd rfl (zb0 rfl) (Ag (Aa A7.toXCall (UX T) (-hr) rfl (A1 (!7) (A1 (!8) (A1 Cy A6))) rfl))))) (A2 (Aq 9 Au.nd rfl (zb0 rfl) (Ag (OY A7.toXCall (Cc T) (-hr) (Ag (NH A7.toXCall (D6 T).zK (-hr) rfl (A1 (Ag (Aa A7.toXCall (IW T) (-hr) rfl (A1 (!7) A6) rfl)) (A1 (Ag (Em rfl T.D2 (!2))) A6)) rfl)) (A1 (!4) (A1 (!5) A6)) rfl))) (A2 (Aq 10 Au.nd rfl (zb0 rfl) (Ag (Em rfl T.D2 (!6)))) (A2 (C3 11 Au.nd rfl (zb0 rfl) (Ff (k:=9) [("House",BE)] A7.toXCall (Bl (by decide) (Cc T).m BG) (-hr) (!0) (A1 (!4) (A1 (!5) (A1 (!10) A6))) rfl)) (A2 (AZ (HM (DW.dt (CY (FJ (c:=true) (!hr) (!10) (!6)) (Ce (Bn (Ba (c:=true) (Ag (Aa A7.toXCall (Ey T) (-hr) rfl (A1 (!11) (A1 (!9) (A1 (!7) (A1 (!4) (A1 (!5) A6))))) rfl)))))))) (A5 (Ae (AG D9))) Ap) (A2 (HU (gQ 11 A7.toXCall (IZ T) (Hm T) (-hr) (-hr) rfl (pv 11))) (A2 (AZ (Bn (Ba (c:=true) (Ag (Aa A7.toXCall (Ey T) (-hr) rfl (A1 (Ag (gL A7.toXCall (Cc T) (-hr) (!0) (A1 (!4) (A1 (!5) A6)) (!10) rfl)) (A1 (!9) (A1 (!7) (A1 (!4) (A1 (!5) A6))))) rfl)))) (A5 (Ae (AG D9))) Ap) (A2 (Aq 12 Au.nd rfl (zb0 rfl) (Ag (OY A7.toXCall (Cc T) (-hr) (Ag (NH A7.toXCall (D6 T).zK (-hr) rfl (A1 (Ag (Aa A7.toXCall (IW T) (-hr) rfl (A1 (!1) A6) rfl)) (A1 (Ag (Em rfl T.D2 (!2))) A6)) rfl)) (A1 (!4) (A1 (!5) A6)) rfl))) (A2 (Cg A7.toXCall.own rfl (FK (c:=true) rfl T.Jc A4) (AW 13 Au.nd rfl (zb0 rfl)) (A2 (C3 11 Au.nd rfl (zb0 rfl) (OY A7.toXCall (Cc T) (-hr) (!0) (A1 (!4) (A1 (!5) A6)) rfl)) (A2 (AZ (HM (Bn (Ba (c:=true) (Ag (Aa A7.toXCall (Ey T) (-hr) rfl (A1 (!11) (A1 (!12) (A1 (!1) (A1 (!4) (A1 (!5) A6))))) rfl))))) (A5 (Ae (AG D9))) Ap) (A5 (HU (gQ 11 A7.toXCall (IZ T) (Hm T) (-hr) (-hr) rfl (pv 11))))))) (A5 (Ae (AG (JQ (Ag (Aa A7.toXCall (Ey T) (-hr) rfl (A1 (Ag (Ff (k:=9) [("House",BE)] A7.toXCall (Bl (by decide) (Cc T).m BG) (-hr) (!0) (A1 (!4) (A1 (!5) (A1 (Dg A6) A6))) rfl)) (A1 (!12) (A1 (!1) (A1 (!4) (A1 (!5) A6))))) rfl)) (Lz (Tw (!hr) (Ag (DK (k:=6) [("House",BW)] A7.toXCall (Bl (by decide) (Lm T) BG) (-hr) (!0))) (!1))))))))))))))))))))),?_⟩;intro m rs L x aF aG aX aQ hL mq;rfl';refine B1 ?_;have n0:AI (Ad m rs) (.int 0)=.ok (.int m):=rfl;have n1:AI (Ad m rs) (.int 1)=.ok (.lst (rs.map Bx)):=rfl;have dm:(0:Int)<(m:Int):=by omega
 have q1:F8 (.int x) (.int (m:Int))=.ok (.int (x%m)):=B7 dm;have q2:Ei (.int x) (.int 16)=.ok (.int (x / 16)):=Bp ⟨by decide,by decide⟩;have q3:F8 (.int (x / 16)) (.int (m:Int))=.ok (.int (x / 16%m)):=B7 dm;have q4:Ei (.int x) (.int 256)=.ok (.int (x / 256)):=Bp ⟨by decide,by decide⟩;obtain⟨s,hs⟩:∃s:Nat,(s:Int)=x%m:=⟨(x%m).toNat,by have:=zbq x (b:=(m:Int)) (by omega);omega⟩;have aV:s<m:=by have:=zbm x dm;omega
 obtain⟨g,hg⟩:∃g:Nat,(g:Int)=x / 16%m:=⟨(x / 16%m).toNat,by have:=zbq (x / 16) (b:=(m:Int)) (by omega);omega⟩;have m9:g<m:=by have:=zbm (x / 16) dm;omega
 rw[<-hs] at q1;rw[<-hg] at q3;obtain⟨S,dl,hS,yw⟩:=V0 m rs (x / 256) aX (by omega);have c8:=oT S (λ i hi=>(hS i hi).1) rs;have ke:∀r:List Road,Qb (λ i=>decide (i∈([]:List Int))) r=r:=λ r=>by
  have e:(λ i:Int=>decide (i∈([]:List Int)))=λ _=>false:=by funext i;simp
  rw[e];exact gU r
 have gn:∀r∈S.foldl GC rs,EL m r:=by rw[c8];exact gR aQ
 have kg:(S.foldl GC rs).length<=60:=by rw[c8,Sv];exact aX
 obtain⟨T0,N0,l0,t0,c0,f0⟩:=Et m (S.foldl GC rs) L [] s g .Ax aF aG kg gn hL aV m9 (by simp) (λ i hi=>by cases hi) (.inr ⟨rfl,rfl⟩);rw[ke] at t0 c0;obtain⟨T1,N1,l1,t1,c1,f1⟩:=Et m rs L S s g (.lst (S.map D.int)) aF aG aX aQ hL aV m9 (by omega) hS (.inl rfl);rw[<-c8] at t1 c1;have eT:=Mv l1 l0 t1 t0;rw[eT] at c1 f1;clear t1 l1 eT;obtain⟨T2,N2,l2,t2,c2,f2⟩:=Et m rs L [] s g .Ax aF aG aX aQ hL aV m9 (by simp) (λ i hi=>by cases hi) (.inr ⟨rfl,rfl⟩);obtain⟨T3,N3,l3,t3,c3,f3⟩:=Et m rs L [] s g (.lst (([]:List Int).map D.int)) aF aG aX aQ hL aV m9 (by simp) (λ i hi=>by cases hi) (.inl rfl);rw[ke] at t2 c2 t3 c3;have eT:=Mv l3 l2 t3 t2;rw[eT] at c3 f3;clear t3 l3 eT;have nl:∀(R:List Road) (T:List Co) (N:List Nat),(∀r∈R,EL m r)->(∀w:Int,0<=w->w<m->By R w g (atC T w))->(∀c,atC T s=some c->OV R s N g c.1/\(N.length:Int)=c.2)->∀c,atC T s=some c->∃t,(GV) (Fe (some c) N T) []=.ok (t,.sh .Ax):=λ R T N hR ht hc c e=>by
  have h1:=Ig (m:=m) (u:=(s:Int)) (λ r hr=>(hR r hr).okR) ⟨by omega,by omega⟩ (by rw[<-e];exact ht s (by omega) (by omega));have h2:=(hc c e).2;exact Q5 c N T (by omega)
 have yx:=nl _ T0 N1 gn t0 c1;have yy:=nl _ T2 N2 aQ t2 c2;have spN:(FF) [.Ax]=.ok (.sh .Ax):=Np;have vw:∀i:Nat,((S.take i).foldl GC rs).length=rs.length:=λ i=>by rw[oT (S.take i) (λ z hz=>(hS z (zca hz)).1),Sv]
 have eN:∀R:List Road,er (.tup [.sh (.int m),.lst ((R.map Bx).map .sh)])=Ad m R:=λ R=>by rw[KN,R4,LO];rfl
 have d9:=λ R=>MN m R;obtain⟨th,yz,y2⟩:=D7 m (S.foldl GC rs) L aF aG kg gn hL;obtain⟨ti,sv,y3⟩:=D7 m rs L aF aG aX aQ hL;have sK:R5 ((BV) (.ins "House" [] []) [Ad m (S.foldl GC rs),.lst (L.map D.int)])=.ok th:=by rw[yz];rfl
 have tf:R5 ((BV) (.ins "House" [] []) [Ad m rs,.lst (L.map D.int)])=.ok ti:=by rw[sv];rfl
 have vx:∀R,Dk [("House",BE)] "ask" (BK m R L)=.ok BE:=λ R=>rfl;have a9:Dk [("House",BW)] "told_map" (BK m rs L)=.ok BW:=rfl;have y4:(BE) (BK m (S.foldl GC rs) L::([.int s,.int g]++[.Ax]))=.ok (Fe (atC T0 s) N0 T0):=f0;have y6:(BE) (BK m rs L::([.int s,.int g]++[.lst (S.map D.int)]))=.ok (Fe (atC T0 s) N1 T0):=f1;have vy:(BE) (BK m rs L::([.int s,.int g]++[.Ax]))=.ok (Fe (atC T2 s) N2 T2):=f2;have y7:(BE) [BK m rs L,.int s,.int g,.lst []]=.ok (Fe (atC T2 s) N3 T2):=f3;have vz:=GU m (S.foldl GC rs) (atC T0 s) N1 N0 T0 s g c1;have y8:=GU m rs (atC T2 s) N2 N2 T2 s g c2;have y9:=GU m rs (atC T2 s) N3 N2 T2 s g c3;have za:=Ln m rs L aF aG aX aQ;have ad:Vt 16 (.lst (S.map D.int)) (.lst (S.map D.int))=.ok (.bl false):=by rw[fI,decide_eq_true rfl];rfl
 have zb:XU 16 (Ad m rs) (Ad m rs)=.ok (.bl true):=by rw[O9 ((fG m rs).le (by decide)) ((fG m rs).le (by decide)),O2]
 have zc:Y0 (.int 2)=.ok (Cz 0 2):=Kk (n:=2) (by omega);refine wp_step (ρ':=[‹BK m rs L›,‹Ad m rs›,‹.lst (L.map D.int)›,‹.int x›,‹.int s›,none,none,none,none,none,none,none,none,none]) (by simp_arith[n0,q1];try rfl) ?_;refine wp_step (ρ':=[‹BK m rs L›,‹Ad m rs›,‹.lst (L.map D.int)›,‹.int x›,‹.int s›,‹.int g›,none,none,none,none,none,none,none,none]) (by simp_arith[n0,q2,q3];try rfl) ?_;refine wp_step (ρ':=[‹BK m rs L›,‹Ad m rs›,‹.lst (L.map D.int)›,‹.int x›,‹.int s›,‹.int g›,‹.lst (S.map D.int)›,none,none,none,none,none,none,none]) (by simp_arith[q4,yw];try rfl) ?_;refine wp_step (ρ':=[‹BK m rs L›,‹Ad m rs›,‹.lst (L.map D.int)›,‹.int x›,‹.int s›,‹.int g›,‹.lst (S.map D.int)›,‹Ad m rs›,none,none,none,none,none,none]) (by simp_arith[];try rfl) ?_;refine Ck (I:=λ ρ=>∃o8:Option D,ρ=[‹BK m rs L›,‹Ad m rs›,‹.lst (L.map D.int)›,‹.int x›,‹.int s›,‹.int g›,‹.lst (S.map D.int)›,‹Ad m (S.foldl GC rs)›,vO o8,none,none,none,none,none]) ?_ ?_
 ·simp_arith[];refine Cm (λ i ρ=>∃o8:Option D,ρ=[‹BK m rs L›,‹Ad m rs›,‹.lst (L.map D.int)›,‹.int x›,‹.int s›,‹.int g›,‹.lst (S.map D.int)›,‹Ad m ((S.take i).foldl GC rs)›,vO o8,none,none,none,none,none]) ⟨none,rfl⟩ ?_ ?_
  ·rintro i d ρ hd ⟨o8,rfl⟩;obtain⟨y,hy,rfl⟩:=BJ hd;have ck:=hS y (zao hy);have et:S.take (i+1)=S.take i++[y]:=by rw[zcz,hy];rfl
   refine⟨_,rfl,?_⟩;have hw:=UY m ((S.take i).foldl GC rs) y (by rw[vw];exact aX) ck.1 (by rw[vw];exact ck.2);have e1:=eN (GC ((S.take i).foldl GC rs) y);rw[et,List.foldl_append,zat,List.foldl_nil];exact Bt (ρ':=[‹BK m rs L›,‹Ad m rs›,‹.lst (L.map D.int)›,‹.int x›,‹.int s›,‹.int g›,‹.lst (S.map D.int)›,‹Ad m (GC ((S.take i).foldl GC rs) y)›,‹.int y›,none,none,none,none,none]) (by simp_arith[hw,e1];try rfl) ⟨some (.int y),rfl⟩
  ·rintro ρ ⟨o8,rfl⟩;rw[za2,zch];exact⟨_,rfl⟩
 rintro ρ ⟨o8,rfl⟩;have e1:=eN (S.foldl GC rs);have e2:=eN rs;have zd:=d9 (S.foldl GC rs);have ze:=d9 rs;have ea:=Jb (atC T0 s) N0 T0;have zf:=Jb (atC T0 s) N1 T0;have zg:=Jb (atC T2 s) N2 T2;have zh:=Jb (atC T2 s) N3 T2;have av:=vx (S.foldl GC rs);have kh:=vx rs;refine wp_step (ρ':=[‹BK m rs L›,‹Ad m rs›,‹.lst (L.map D.int)›,‹.int x›,‹.int s›,‹.int g›,‹.lst (S.map D.int)›,‹Ad m (S.foldl GC rs)›,vO o8,‹C4 (atC T0 s) N0 T0›,none,none,none,none]) (by simp_arith[zd,e1,sK,y2,av,y4,ea];try rfl) ?_;refine wp_step (ρ':=[‹BK m rs L›,‹Ad m rs›,‹.lst (L.map D.int)›,‹.int x›,‹.int s›,‹.int g›,‹.lst (S.map D.int)›,‹Ad m (S.foldl GC rs)›,vO o8,‹C4 (atC T0 s) N0 T0›,‹.lst (S.map D.int)›,none,none,none]) (by simp_arith[];try rfl) ?_;refine wp_step (ρ':=[‹BK m rs L›,‹Ad m rs›,‹.lst (L.map D.int)›,‹.int x›,‹.int s›,‹.int g›,‹.lst (S.map D.int)›,‹Ad m (S.foldl GC rs)›,vO o8,‹C4 (atC T0 s) N0 T0›,‹.lst (S.map D.int)›,some (Sw (atC T0 s) N1 T0),none,none]) (by simp_arith[kh,f1,Up];try rfl) ?_;refine wp_step (ρ':=[‹BK m rs L›,‹Ad m rs›,‹.lst (L.map D.int)›,‹.int x›,‹.int s›,‹.int g›,‹.lst (S.map D.int)›,‹Ad m (S.foldl GC rs)›,vO o8,‹C4 (atC T0 s) N0 T0›,‹.lst (S.map D.int)›,some (Sw (atC T0 s) N1 T0),none,none]) (by simp_arith[Uq,ad,vz,Eo];try rfl) ?_;obtain⟨tj,tu⟩:=Ri (i:=11) (ρ:=[‹BK m rs L›,‹Ad m rs›,‹.lst (L.map D.int)›,‹.int x›,‹.int s›,‹.int g›,‹.lst (S.map D.int)›,‹Ad m (S.foldl GC rs)›,vO o8,‹C4 (atC T0 s) N0 T0›,‹.lst (S.map D.int)›,some (Sw (atC T0 s) N1 T0),none,none]) rfl yx spN;refine wp_step (ρ':=[‹BK m rs L›,‹Ad m rs›,‹.lst (L.map D.int)›,‹.int x›,‹.int s›,‹.int g›,‹.lst (S.map D.int)›,‹Ad m (S.foldl GC rs)›,vO o8,‹C4 (atC T0 s) N0 T0›,‹.lst (S.map D.int)›,some tj,none,none]) (by simp only[tu,M.A8];try rfl) ?_;refine wp_step (ρ':=[‹BK m rs L›,‹Ad m rs›,‹.lst (L.map D.int)›,‹.int x›,‹.int s›,‹.int g›,‹.lst (S.map D.int)›,‹Ad m (S.foldl GC rs)›,vO o8,‹C4 (atC T0 s) N0 T0›,‹.lst (S.map D.int)›,some tj,none,none]) (by simp_arith[kh,y6,zf,vz,Eo];try rfl) ?_;refine wp_step (ρ':=[‹BK m rs L›,‹Ad m rs›,‹.lst (L.map D.int)›,‹.int x›,‹.int s›,‹.int g›,‹.lst (S.map D.int)›,‹Ad m (S.foldl GC rs)›,vO o8,‹C4 (atC T0 s) N0 T0›,‹.lst (S.map D.int)›,some tj,‹C4 (atC T2 s) N2 T2›,none]) (by simp_arith[ze,e2,tf,y3,kh,vy,zg];try rfl) ?_;refine Ck (I:=λ ρ=>∃im ip:Option Cl,ρ=[‹BK m rs L›,‹Ad m rs›,‹.lst (L.map D.int)›,‹.int x›,‹.int s›,‹.int g›,‹.lst (S.map D.int)›,‹Ad m (S.foldl GC rs)›,vO o8,‹C4 (atC T0 s) N0 T0›,‹.lst (S.map D.int)›,im,‹C4 (atC T2 s) N2 T2›,ip]) ?_ ?_
 ·simp_arith[zc];refine Cm (λ _ ρ=>∃im ip:Option Cl,ρ=[‹BK m rs L›,‹Ad m rs›,‹.lst (L.map D.int)›,‹.int x›,‹.int s›,‹.int g›,‹.lst (S.map D.int)›,‹Ad m (S.foldl GC rs)›,vO o8,‹C4 (atC T0 s) N0 T0›,‹.lst (S.map D.int)›,im,‹C4 (atC T2 s) N2 T2›,ip]) ⟨_,_,rfl⟩ ?_ ?_
  ·rintro i d ρ hd ⟨im,ip,rfl⟩;refine⟨_,rfl,?_⟩;refine wp_step (ρ':=[‹BK m rs L›,‹Ad m rs›,‹.lst (L.map D.int)›,‹.int x›,‹.int s›,‹.int g›,‹.lst (S.map D.int)›,‹Ad m (S.foldl GC rs)›,vO o8,‹C4 (atC T0 s) N0 T0›,‹.lst (S.map D.int)›,some (Sw (atC T2 s) N2 T2),‹C4 (atC T2 s) N2 T2›,‹d›]) (by simp_arith[kh,vy,Up];try rfl) ?_;refine wp_step (ρ':=[‹BK m rs L›,‹Ad m rs›,‹.lst (L.map D.int)›,‹.int x›,‹.int s›,‹.int g›,‹.lst (S.map D.int)›,‹Ad m (S.foldl GC rs)›,vO o8,‹C4 (atC T0 s) N0 T0›,‹.lst (S.map D.int)›,some (Sw (atC T2 s) N2 T2),‹C4 (atC T2 s) N2 T2›,‹d›]) (by simp_arith[Uq,y8,Eo];try rfl) ?_;obtain⟨zi,gj⟩:=Ri (i:=11) (ρ:=[‹BK m rs L›,‹Ad m rs›,‹.lst (L.map D.int)›,‹.int x›,‹.int s›,‹.int g›,‹.lst (S.map D.int)›,‹Ad m (S.foldl GC rs)›,vO o8,‹C4 (atC T0 s) N0 T0›,‹.lst (S.map D.int)›,some (Sw (atC T2 s) N2 T2),‹C4 (atC T2 s) N2 T2›,‹d›]) rfl yy spN;exact Bt (ρ':=[‹BK m rs L›,‹Ad m rs›,‹.lst (L.map D.int)›,‹.int x›,‹.int s›,‹.int g›,‹.lst (S.map D.int)›,‹Ad m (S.foldl GC rs)›,vO o8,‹C4 (atC T0 s) N0 T0›,‹.lst (S.map D.int)›,some zi,‹C4 (atC T2 s) N2 T2›,‹d›]) (by simp only[gj,M.A8];try rfl) ⟨_,_,rfl⟩
  ·rintro ρ ⟨im,ip,rfl⟩;exact⟨_,_,rfl⟩
 rintro ρ ⟨im,ip,rfl⟩;simp_arith[kh,y7,zh,y9,a9,za,e2,zb,Eo];rfl
abbrev JJ:=za5 Eh
def Nq:FT "_law_question" 10 4 JJ:=(za0 Eh).1
def Nr:J0 JJ:=(za0 Eh).2
def Wm:∃F:List D->M D,(∀ {P w K mg base f fd},Txt K mg->Ze K "law" "law" Ro f fd->Cw P w K mg base jH 11 f fd ["_law_script"] (Vy K 1 F))/\(∀ns:List Int,ns.length<=63->(∀n∈ns,Sm n)->F [.lst (ns.map D.int)]=.ok (.bl true)):=by
 refine⟨_,fun {P w K mg base f fd} T F=>wQ (k:=10) F Pk _ (λ AX A outer s H E hr=>(A2 (Aq 1 Pk.nd rfl (zb0 rfl) (Ag (Cj (Aa (BI rfl).toXCall (Wj T) (-hr) rfl (A1 (!0) (A1 A4 (A1 A4 A6))) rfl)))) (A2 (Aq 2 Pk.nd rfl (zb0 rfl) (Ag (Cj (Aa (BI rfl).toXCall (SJ T) (-hr) rfl (A1 (Ag (Aa (BI rfl).toXCall (IM T) (-hr) rfl (A1 (!0) (A1 A4 A6)) rfl)) (A1 (A9 (!hr) (!1) A4) (A1 A4 A6))) rfl)))) (A2 (Aq 3 Pk.nd rfl (zb0 rfl) (Ag (Cj (NH (BI rfl).toXCall (D6 T).zK (-hr) rfl (A1 (Ag (Aa (BI rfl).toXCall (IW T) (-hr) rfl (A1 (!1) A6) rfl)) (A1 (Ag (Em rfl T.D2 (!2))) A6)) rfl)))) (A2 (Cg PassesOwn.never rfl (Bw (Ag (Kw (Dg (A1 A4 (A1 A4 A6))) (Ag (FO (!0) Kj (Gp A4)))))) (AW 4 Pk.nd rfl (zb0 rfl)) (A5 (AZ (Bn (Ba (c:=true) (Ag (Cj (Aa (BI rfl).toXCall (Nq T) (-hr) rfl (A1 (!3) (A1 (!1) (A1 (!2) (A1 (Ag (Aa (BI rfl).toXCall (Ew T) (-hr) rfl (A1 (!4) (A1 A4 A6)) rfl)) A6)))) rfl))))) (A5 (cC (Vs D9))) Ap))) (A5 (cC (Vs (Tw (!hr) (Ag (Cj (DK (k:=1) [("House",C8)] (BI rfl).toXCall (Bl (by decide) (Mf T) BG) (-hr) (!3)))) (Dg A6)))))))))),?_⟩;intro ns i9 aV;rfl';refine xH ?_;obtain⟨z1,cf,j3⟩:=IQ ns 1 aV;have tw:Eu [.lst (ns.map D.int),.int 1]=.ok (.sh (.int z1)):=j3;obtain⟨m,rs,aF,aG,aX,aQ,tm,zj,zk⟩:=Wl ns i9 aV;have n0:AI (Ad m rs) (.int 0)=.ok (.int m):=rfl;have n1:AI (Ad m rs) (.int 1)=.ok (.lst (rs.map Bx)):=rfl;have d9:=MN m rs;have e2:er (.tup [.sh (.int m),.lst ((rs.map Bx).map .sh)])=Ad m rs:=by rw[KN,R4,LO];rfl
 obtain⟨L,hL,zl⟩:=SK z1 m 0 (by omega) (by decide) (by decide);obtain⟨th,hI,hE⟩:=D7 m rs L aF (by omega) (by omega) aQ hL;have zm:R5 (BV (.ins "House" [] []) [Ad m rs,.lst (L.map D.int)])=.ok th:=by rw[hI];rfl
 refine wp_step (ρ':=[‹.lst (ns.map D.int)›,‹Ad m rs›,none,none,none]) (by simp_arith[zj,zk];try rfl) ?_;refine wp_step (ρ':=[‹.lst (ns.map D.int)›,‹Ad m rs›,‹.lst (L.map D.int)›,none,none]) (by simp_arith[tw,n0,zl];try rfl) ?_;refine wp_step (ρ':=[‹.lst (ns.map D.int)›,‹Ad m rs›,‹.lst (L.map D.int)›,‹BK m rs L›,none]) (by simp_arith[d9,e2,zm,hE];try rfl) ?_;have sl:Yh none (some 12) (.lst (ns.map D.int))=.ok (.lst (((ns.take 12).map D.int).map .sh)):=by rw[List.map_take];exact TR _ 12
 have pl:Ko (.lst [.int 0,.int 1]) (.lst ((ns.take 12).map D.int))=.ok (.lst ((([0,1]++ns.take 12).map D.int).map .sh)):=by rw[zas];exact KL (by rw[za2,zbf];simp;omega)
 refine Ck (I:=λ ρ=>∃s4:Option Cl,ρ=[‹.lst (ns.map D.int)›,‹Ad m rs›,‹.lst (L.map D.int)›,‹BK m rs L›,s4]) ?_ ?_
 ·simp_arith[sl,pl];refine Cm (λ _ ρ=>∃s4:Option Cl,ρ=[‹.lst (ns.map D.int)›,‹Ad m rs›,‹.lst (L.map D.int)›,‹BK m rs L›,s4]) ⟨none,rfl⟩ ?_ ?_
  ·rintro i d ρ hd ⟨s4,rfl⟩;obtain⟨y,hy,rfl⟩:=BJ hd;refine⟨_,rfl,?_⟩;obtain⟨v,v0,hv⟩:=Ex y 50 (by decide) (by decide);have hq:=Nr m rs L v aF (by omega) (by omega) aQ hL v0;exact Bt (ρ':=[‹.lst (ns.map D.int)›,‹Ad m rs›,‹.lst (L.map D.int)›,‹BK m rs L›,‹.int y›]) (by simp_arith[hv,hq,Eo];try rfl) ⟨_,rfl⟩
  ·rintro ρ ⟨s4,rfl⟩;exact⟨_,rfl⟩
 rintro ρ ⟨s4,rfl⟩;have hs:Dk [("House",C8)] "changes" (BK m rs L)=.ok C8:=rfl;have hc:=Mg m rs L;have hq:XU 16 (.lst []) (.lst [])=.ok (.bl true):=by
  have h:XU 16 (.lst (([]:List Int).map D.int)) (.lst (([]:List Int).map D.int))=.ok (.bl (decide (([]:List Int)=[]))):=U8;exact h
 have ec:er (.lst [])=.lst []:=rfl;simp_arith[hs,hc,ec,hq];rfl
abbrev iE:List D->M D:=za5 Wm
def uC {P w K mg base f fd}:Txt K mg->Ze K "law" "law" Ro f fd->Cw P w K mg base jH 11 f fd ["_law_script"] (Vy K 1 iE):=(za0 Wm).1
def uD:∀ns:List Int,ns.length<=63->(∀n∈ns,Sm n)->iE [.lst (ns.map D.int)]=.ok (.bl true):=(za0 Wm).2
set_option maxHeartbeats 0 in
def left (w:World):(PySem.W.openEnds treeTable zP0 w 8100).map (λ s=>PySem.W.openSeen (K8 zP0) (Zi zP0) (importedModules zP0.main.body) (λ s=>PySem.W.xlAt (K8 zP0) [] s&&PySem.W.recOk [] s) true s)=some (PySem.W.openGood (K8 zP0) (Zi zP0)):=by
 rw[X6,sI,PySem.W.Fast.te4187177175401517315,PySem.W.Fast.te5923862056798008813];exact (uQ w)
set_option maxHeartbeats 0 in
def uE (w:World):RE (Kp R0 zP0 w) zP0:=by
 rw[sI];exact iI w
set_option maxHeartbeats 0 in
def uF (w:World):RF (Kp R0 zP0 w) zP0:=by
 rw[sI];exact iJ w
def all_mk {l:PySem.W.OpenLaw}(X:K.In h)(G:h.Ns mainGlobals mg)(zn:mg "law" = some (.ref fa))(u0:RE K zP0)(u1:RF K zP0):
 ∃fd:FuncData,(∀(s:Shared) (v:Value),BindsTo s fd ⟨[v],[]⟩ [("_law_script",v)])/\∀base:Heap,K.In base->base.Ns mainGlobals mg->Cw l.prog w K mg base jH 11 fa fd ["_law_script"] (Vy K 1 iE):=by
 have af:SM K _:=⟨u0.1.1.1.1.1.2,u0.1.1.1.1.2,u0.1.1.1.2.1.1,u0.1.1.1.2.1.2⟩;have al:SM K _:=⟨u0.1.1.2.1.2,u0.1.1.2.2.1.1,u0.1.1.2.2.1.2,u0.1.1.2.2.2⟩;obtain⟨f31,ko,zo,to31,zp,kr,zq,zr,zt,zu,kt,ku,kx,ky,lb,zv,zw,zx,zy,z3,lc⟩:=u1.2.2.2.1.1.2.ex;have z4:=Se (st:=AH) zx zy z3;have z5:Binds K (zb6 "__init__" "Ladder.__init__" (B3 AH) (Az AH) (A3 AH) (.ref ko) kt ku kx kr ky lb) ["self","net","order"] []:=λ s us hK hl=>by
  have am:us.length=3:=by simpa using hl
  rcases us with _|⟨_,_|⟨_,_|⟨_,_|⟨_,us⟩⟩⟩⟩<;>first|exact zcr hK rfl lc rfl rfl rfl|(simp at am)
 have z6:Binds K (zb6 "__init__" "Ladder.__init__" (B3 AH) (Az AH) (A3 AH) (.ref ko) kt ku kx kr ky lb) ["self","net","order"] [.none]:=λ s us hK hl=>by
  have am:us.length=2:=by simpa using hl
  rcases us with _|⟨_,_|⟨_,_|⟨_,_|⟨_,us⟩⟩⟩⟩<;>first|exact zcr hK rfl lc rfl rfl rfl|(simp at am)
 have z7:OC K mg "Ladder" "Ladder.__init__" AH ["self","net","order"]:=⟨_,_,_,⟨u0.1.1.1.1.1.1,PySem.W.mg_of X G u0.1.1.1.1.1.1⟩,⟨u0.1.1.1.2.2,zv,zw,u0.1.1.2.1.1.1⟩,z4,z5,z6⟩;obtain⟨f42,lf,z8,to42,z9,lg,aa2,aa3,aa5,ab0,lh,li,lj,lm,lp,a42,i42,l42,c42,k42,lq⟩:=u1.2.2.2.1.2.ex;have F42:=Se (st:=AM) l42 c42 k42;have B42:Binds K (zb6 "__init__" "House.__init__" (B3 AM) (Az AM) (A3 AM) (.ref lf) lh li lj lg lm lp) ["self","net","order"] []:=λ s us hK hl=>by
  have am:us.length=3:=by simpa using hl
  rcases us with _|⟨_,_|⟨_,_|⟨_,_|⟨_,us⟩⟩⟩⟩<;>first|exact zcr hK rfl lq rfl rfl rfl|(simp at am)
 have D42:Binds K (zb6 "__init__" "House.__init__" (B3 AM) (Az AM) (A3 AM) (.ref lf) lh li lj lg lm lp) ["self","net","order"] [.none]:=λ s us hK hl=>by
  have am:us.length=2:=by simpa using hl
  rcases us with _|⟨_,_|⟨_,_|⟨_,_|⟨_,us⟩⟩⟩⟩<;>first|exact zcr hK rfl lq rfl rfl rfl|(simp at am)
 have T42:OC K mg "House" "House.__init__" AM ["self","net","order"]:=⟨_,_,_,⟨u0.1.1.2.1.1.2,PySem.W.mg_of X G u0.1.1.2.1.1.2⟩,⟨u0.1.2.1.1.1.1,a42,i42,u0.1.2.1.1.1.2⟩,F42,B42,D42⟩;obtain⟨f45,gp,ac0,to45,ac1,gq,ac2,ac3,ac4,ac5,gu,gw,gx,gy,gz,a45,i45,l45,c45,v3,h7⟩:=u1.2.2.2.2.1.ex;have F45:=Se (st:=B2) l45 c45 v3;have B45:Binds K (zb6 "ask" "House.ask" (B3 B2) (Az B2) (A3 B2) (.ref gp) gu gw gx gq gy gz) ["self","start","goal","shut"] []:=λ s us hK hl=>by
  have am:us.length=4:=by simpa using hl
  rcases us with _|⟨_,_|⟨_,_|⟨_,_|⟨_,_|⟨_,us⟩⟩⟩⟩⟩<;>first|exact zcr hK rfl h7 rfl rfl rfl|(simp at am)
 have D45:Binds K (zb6 "ask" "House.ask" (B3 B2) (Az B2) (A3 B2) (.ref gp) gu gw gx gq gy gz) ["self","start","goal","shut"] [.none]:=λ s us hK hl=>by
  have am:us.length=3:=by simpa using hl
  rcases us with _|⟨_,_|⟨_,_|⟨_,_|⟨_,_|⟨_,us⟩⟩⟩⟩⟩<;>first|exact zcr hK rfl h7 rfl rfl rfl|(simp at am)
 have W45:zP K (zb6 "ask" "House.ask" (B3 B2) (Az B2) (A3 B2) (.ref gp) gu gw gx gq gy gz) ["self","start","goal","shut"] "shut" := λ s us u hK hl=>by
  have am:us.length=3:=by simpa using hl
  rcases us with _|⟨_,_|⟨_,_|⟨_,_|⟨_,_|⟨_,us⟩⟩⟩⟩⟩<;>first|exact zcr hK rfl h7 rfl rfl rfl|(simp at am)
 have T45:VX K "House" "ask" "House.ask" "shut" B2 ["self","start","goal","shut"]:=⟨_,_,_,u0.1.1.2.1.1.2,al,⟨a45,i45,v3⟩,F45,⟨B45,D45⟩,W45⟩;obtain⟨f59,ad5,ad6,ad7,ad8,ad9,ae0,ae1,ae2,ae3,v4,l59,c59,k59⟩:=u1.2.2.2.2.2.ex;cases zn.symm.trans (PySem.W.mg_of X G v4);have tz:=Vn (st:=Ro) l59 c59 k59;have T59:AJ K mg "law" Ro ["_law_script"]:=⟨_,_,tz,PySem.W.mg_of X G v4,tz.binds (λ _ _ _ _ _ _=>zL λ _=>rfl)⟩;have T:Txt K mg:=⟨AS X G u0.1.2.1.1.2,AS X G u0.1.2.1.2.1.1,AS X G u0.1.2.1.2.1.2,AS X G u0.1.2.1.2.2,AS X G u0.1.2.2.1.1.1,AS X G u0.1.2.2.1.1.2,AS X G u0.1.2.2.1.2,AS X G u0.1.2.2.2.1.1,AS X G u0.1.2.2.2.1.2,AS X G u0.1.2.2.2.2,AS X G u0.2.1.1.1.1.1,AS X G u0.2.1.1.1.1.2,AS X G u0.2.1.1.1.2,AS X G u0.2.1.1.2.1.1,AS X G u0.2.1.1.2.1.2,AS X G u0.2.1.1.2.2,AS X G u0.2.1.2.1.1.1,AS X G u0.2.1.2.1.1.2,AS X G u0.2.1.2.1.2,AS X G u0.2.1.2.2.1.1,AS X G u0.2.1.2.2.1.2,AS X G u0.2.1.2.2.2,AS X G u0.2.2.1.1.1.1,AS X G u0.2.2.1.1.1.2,AS X G u0.2.2.1.1.2,AS X G u0.2.2.1.2.1.1,AS X G u0.2.2.1.2.1.2,AS X G u0.2.2.1.2.2,AS X G u0.2.2.2.1.1.1,AS X G u0.2.2.2.1.1.2,z7,OD u0.1.1.1.1.1.1 af u0.2.2.2.1.2,OD u0.1.1.1.1.1.1 af u0.2.2.2.2.1,OD u0.1.1.1.1.1.1 af u0.2.2.2.2.2,OD u0.1.1.1.1.1.1 af u1.1.1.1.1.1.1,OD u0.1.1.1.1.1.1 af u1.1.1.1.1.1.2,AS X G u1.1.1.1.1.2,AS X G u1.1.1.1.2.1.1,AS X G u1.1.1.1.2.1.2,AS X G u1.1.1.1.2.2,AS X G u1.1.1.2.1.1.1,T42,OD u0.1.1.2.1.1.2 al u1.1.1.2.1.1.2,OD u0.1.1.2.1.1.2 al u1.1.1.2.1.2,T45,AS X G u1.1.1.2.2.1.1,AS X G u1.1.1.2.2.1.2,AS X G u1.1.1.2.2.2,AS X G u1.1.2.1.1.1.1,AS X G u1.1.2.1.1.1.2,AS X G u1.1.2.1.1.2,AS X G u1.1.2.1.2.1.1,AS X G u1.1.2.1.2.1.2,AS X G u1.1.2.1.2.2,AS X G u1.1.2.2.1.1.1,AS X G u1.1.2.2.1.1.2 (λ _ _ _ _ _ _=>ln5 λ _ _ _ _ _=>rfl),AS X G u1.1.2.2.1.2,AS X G u1.1.2.2.2.1.1,T59,zbe X G u1.1.2.2.2.1.2,zbe X G u1.1.2.2.2.2,zbe X G u1.2.1.1.1.1.1,zbe X G u1.2.1.1.1.1.2,zbe X G u1.2.1.1.1.2,zbe X G u1.2.1.1.2.1.1,zbe X G u1.2.1.1.2.1.2,zbe X G u1.2.1.1.2.2,zbe X G u1.2.1.2.1.1.1,zbe X G u1.2.1.2.1.1.2,zbe X G u1.2.1.2.1.2,zbe X G u1.2.1.2.2.1.1,zbe X G u1.2.1.2.2.1.2,yN X G u1.2.1.2.2.2 u0.2.2.1.1.1.2,⟨_,u0.1.1.2.1.1.2,al,u1.2.2.1.1.1.1⟩,⟨_,u0.1.1.2.1.1.2,al,u1.2.2.1.1.1.2⟩,⟨_,u0.1.1.2.1.1.2,al,u1.2.2.1.1.2⟩,⟨_,u0.1.1.1.1.1.1,af,u1.2.2.1.2.1.1⟩,⟨_,u0.1.1.1.1.1.1,af,u1.2.2.1.2.1.2⟩,⟨_,u0.1.1.1.1.1.1,af,u1.2.2.1.2.2⟩,⟨_,u0.1.1.1.1.1.1,af,u1.2.2.2.1.1.1⟩⟩;refine⟨_,?_,λ base _ _=>uC T tz⟩;exact λ s v=>.of_eq rfl
def walk {l:PySem.W.OpenLaw}{K:World->za1}(hn:l.most=some 63)(f6:d.params.defaults=[])(hY:∀(w:World) (h:Heap),YP w h->(K w).In h)(F:∀(w:World) (mg:Str->Option Value) (fa:Addr) (h:Heap),(K w).In h->h.Ns mainGlobals mg->mg d.name=some (.ref fa)->
  ∃fd:FuncData,(∀(s:Shared) (u:Value),BindsTo s fd ⟨[u],[]⟩ [("_law_script",u)])/\∀base:Heap,(K w).In base->base.Ns mainGlobals mg->Cw l.prog w (K w) mg base jH 11 fa fd ["_law_script"] (Vy (K w) 1 iE)):
 PySem.W.WalkO q loose XP YP l.row.toRowW d [] (λ f vs=>PySem.call f vs):=
 L2.xW (n:=63) (k:=11) (x := "_law_script") (CX:=λ _=>jH) (sp:=λ w=>Vy (K w) 1 iE) hn (by decide) f6 ⟨rfl,by decide,by decide⟩ hY F (λ w H a ns aV hl _ hS=>kE uD (K w) H a ns aV hl hS) λ _ _ _ _ _ z=>z
end cz
open PySem PySem.W PyProof.Rows L2
set_option maxRecDepth 100000 in
set_option autoImplicit true
set_option relaxedAutoImplicit true
set_option maxHeartbeats 0 in
theorem PySem.Challenge.cw_nodeladder_k74_shut_for_one_question_holds : PySem.Challenge.rw_nodeladder_k74_shut_for_one_question.Holds := by
 w_on;o_law
 refine holds_open (q:=K8 zP0) (loose:=(Zi zP0)) (Xt:=λ s=>xlAt (K8 zP0) [] s&&recOk [] s) (XP:=XL (K8 zP0) []) (Yf:=λ s=>s.heap) (Ya:=λ w=>Zj R0 zP0 w 8100) (YP:=λ w h=>xV (Zj R0 zP0 w 8100) h) (N:=8100) (lU cz.left) (λ w s e b o q=>by rw[<-e] at q;exact q) (λ w h h' a b c o q=>b c o (a c o q)) (λ s e=>xl_of s (Bool.and_eq_true_iff.mp e).1) XL.keeps (by rfl) (by rfl) (by rfl) (λ s e=>recFacts_of (Bool.and_eq_true_iff.mp e).2) (by rfl) (by first|assumption|decide +kernel) (by decide +kernel) ⟨rfl,rfl,rfl,rfl,rfl,by decide +kernel⟩ ?hw ?hc;case hw=>w_witness2
 case hc =>
  refine cz.walk (l:=PySem.Challenge.rw_nodeladder_k74_shut_for_one_question) (K:=cz.Kp R0 zP0) rfl rfl (λ w h Y=>sJ Y) ?F;intro w mg fa h KX G f7;exact cz.all_mk KX G f7 (cz.uE w) (cz.uF w)

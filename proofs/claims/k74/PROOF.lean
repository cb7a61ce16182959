import PyProof.Rows.All
import Wide.All
import OpenK.AllK
import Wide.FinOn
import Lean
import PyProof.EqAt
import PyProof.EqKinds
import PyProof.TupleCall
import PyProof.NeKinds
import KE.KRevSl
import KE.KIsAll
import PyProof.FitsBits
import KE.LcSums
import KE.KRevIter
import PyProof.ListRange
import PyProof.Rows.SumAny
import PyProof.Rows.SortWalk
import PyProof.AttrMissHeap
import KE.KDictOf
import PyProof.ZipIter
import PyProof.DictWalks
import KE.KDictList
import KE.KFind
import KE.KDictSum
import KE.KSortTup
import PyProof.Rows.SetFrom
import PyProof.SetRoads
import PyProof.Rows.Range3
import PySem.Challenge.RW_nodeladder_k74_shut_for_one_question
set_option bootstrap.genMatcherCode false
set_option Elab.async false
set_option linter.all false
set_option maxRecDepth 1000000
set_option autoImplicit true
set_option relaxedAutoImplicit true
open Classical renaming choose_spec→za0,choose→za5,byContradiction→zd1,propDecidable→zdd
open PySem.W renaming Frag→za1,nsIn→zau,findIn→zb3,fnOf→zb7,keepIn→zbe,mg_none_of→zbf,emptyDict→zc5,codeIn→zc6,kia_one→zcm,instObj→zcn,binds_K→zcv,plainGet→zd7
open List renaming length_map→za2,mem_cons_self→za3,mem_cons_of_mem→za4,map_cons→za6,getElem?_eq_getElem→za7,length_cons→za8,mem_singleton→za9,size_toArray→zab,mem_cons→zac,mem_append_right→zad,set_cons_succ→zae,getElem?_eq_some_iff→zaf,set_cons_zero→zah,length_append→zai,replicate→zak,mem_append→zal,foldl_cons→zam,mem_map→zaq,mem_of_getElem?→zas,map_append→zat,nodup_append→zaw,getElem?_map→zax,getElem?_cons_succ→zaz,mem_filter→zb2,mem_append_left→zb4,getElem?_set_self→zb5,range→zb9,append_nil→zba,getD_eq_getElem?_getD→zbc,nodup_cons→zbd,length_take→zbh,append_assoc→zbi,length_singleton→zbk,nodup_nil→zbn,getElem?_eq_none→zbp,length_reverse→zbr,getElem?_set_ne→zbu,map_map→zby,getElem?_cons_zero→zbz,mem_of_mem_take→zc0,take_length→zc1,lookup_cons→zc4,take_add_one→zc7,replicate_succ→zc8,length_range→zc9,filterMap_cons→zca,getElem?_append_left→zcb,take_append_drop→zcc,length_set→zcd,mem_range→zcf,take_of_length_le→zci,length_drop→zck,drop_eq_getElem_cons→zcl,getElem?_replicate→zcq,drop_length→zcs,map_nil→zcy,length_filter_le→zcz,find?_cons→zd0,ext_getElem?→zd3,any_cons→zd4,getElem?_append_right→zd5,drop_zero→zd9,cons_append→zdb
open PySem.Heap renaming get?_push_of_some→zaa,lt_size→zaj,get?_push_size→zap
open Nat renaming le_refl→zag,lt_of_lt_of_le→zan,ne_of_lt→zar,zero_le→zbb,le_of_lt→zbq,le_trans→zbv
open Option.some renaming inj→zao
open Bool renaming false_ne_true→zav,false_eq_true→zb1,and_eq_true→zb6,eq_iff_iff→zcp
open Or renaming inl→zay
open Prod renaming fst→zb0,snd→zbs
open PySem.Value renaming ref→zb8
open Option renaming map_some→zbg,isSome_iff_exists→zbx,map_eq_some_iff→zcr
open Int renaming toNat_natCast→zbj,emod_lt_of_pos→zbo,emod_nonneg→zbt,add_assoc→zd6
open PyProof.Rows renaming callWith_type1→zbl
open Ne renaming symm→zbm
open PySem.Builtin.Int renaming intBits→zbw
open PySem.F renaming plainAttrs_list→zc2,plain_min_loop→zch,slot_dict_get→zcj
open PySem.Calls renaming spliced_cons→zc3,spliced_nil→zcg,callWith_builtin→zcu
open False renaming elim→zce
open PySem.Around renaming under_plainId→zco
open True renaming intro→zct
open PySem.NameKind renaming free→zcw
open PySem.Paired renaming length→zcx
open PySem.Builtin.List renaming listTooLong→zd2
open PySem.W.Fast renaming tw821141287760084731→zd8
open PySem renaming mem_of_lookup→zda
open ForInStep renaming yield→zdc
open Array renaming length_toList→zde
local macro_rules|`(~~~$t)=>`(autoParam $t PySem.W.name_B._auto_1)
local macro_rules|`(nofun)=>`(⟨rfl,rfl,rfl,by decide +kernel,rfl,by decide +kernel,by decide +kernel⟩)
local macro_rules|`(def $i $b* :$t $v:declVal)=>`(theorem $i $b* :$t $v:declVal)
local macro_rules|`(abbrev $i $b* :$t $v:declVal)=>`(noncomputable def $i $b* :$t $v:declVal)|`(abbrev $i $b* $v:declVal)=>`(noncomputable def $i $b* $v:declVal)
section
set_option maxHeartbeats 0
namespace L2
open PySem PySem.Spec PyProof.Rows PySem.W PySem.Calls
abbrev inClass (s:Stmt)(j:Nat):Stmt:=match s with
 | .ClassDef _ _ _ body _ _ _ _ _ _ _=>body.getD j (.Pass ⟨0,0,0,0⟩)
 |_=>.Pass ⟨0,0,0,0⟩
abbrev B5 (s:Stmt):Arguments:=match s with
 | .FunctionDef _ a _ _ _ _ _ _ _ _=>a
 |_=>{posonlyargs:=[],args:=[],vararg:=none,kwonlyargs:=[],kw_defaults:=[],kwarg:=none,defaults:=[]}
abbrev AE (s:Stmt):List Stmt:=match s with
 | .FunctionDef _ _ b _ _ _ _ _ _ _=>b
 |_=>[]
abbrev A3 (s:Stmt):Scope:=match s with
 | .FunctionDef _ _ _ _ _ _ sc _ _ _=>sc
 |_=>{kind:=.function,names:=[],isGenerator:=false,isCoroutine:=false}
structure FP (K:za1)(x:Str)(st:Stmt):Prop where
 ex:∃(f:Addr) (oc:Value) (od an:Option Addr) (sl:Array (Option Value)) (kV dc pm cd ct:Value),zau K mainGlobals x=some (some (.ref f))/\K.lookup f=some ⟨oc,od,.func (zb7 x x (B5 st) (AE st) (A3 st) .none kV dc pm an cd ct),sl⟩/\zc6 K cd x=true/\zbe K (.ref f)=true
structure MP (K:za1)(C:Addr)(m qual:Str)(st:Stmt):Prop where
 ex:∃(f:Addr) (oc:Value) (od an:Option Addr) (sl:Array (Option Value)) (kV dc pm cd ct:Value),zb3 K (.ref C) m=some (some (.ref f))/\PySem.W.isFn K (.ref f)=true/\K.lookup f=some ⟨oc,od,.func (zb7 m qual (B5 st) (AE st) (A3 st) .none kV dc pm an cd ct),sl⟩/\zc6 K cd qual=true/\zbe K (.ref f)=true
abbrev BF (p:Program):Program:={p with main:={p.main with body:=p.main.body.filter λ s=>match s with | .FunctionDef n .. =>n == "law" |_=>false} }
abbrev nmO:Stmt->List Str
 | .FunctionDef n ..| .ClassDef n ..=>[n]
 | .Assign [.Name x _] .. =>[x]
 |_=>[]
abbrev PV (p:Program):List Str:=(p.main.body.flatMap nmO).filter λ x => !(x == "law")
structure Rn where
 run:(String->Option Builtin)->Program->World->Nat->Option Value->Nat->Shared->Thread->Option Shared
 ns:Heap->Addr->Str->Option Value
 imp:(String->Option Builtin)->Program->World->Nat->Shared->Thread->Option Shared
 fen:Program->Shared->Option Shared
 st:Program->Shared×Thread
 tb:String->Option Builtin
abbrev Vj (R:Rn)(p:Program)(w:World)(N:Nat):Option Shared:=
 ((R.imp R.tb (opening p) w N (R.st (opening p)).fst (R.st (opening p)).snd).bind (R.fen p)).bind λ s₀ =>
 match s₀.heap.isNs mainGlobals&&s₀.gens.size==0 with
 |true=>(R.run R.tb p w s₀.heap.objs.size (R.ns s₀.heap mainGlobals (Str.ofString "__annotations__")) N s₀ (topStub p)).bind λ s₁ =>
  match staticsOk (importedModules p.main.body) s₀.heap s₁.heap&&namesBound p s₁.heap&&gensDone s₁&&laidKept s₀.heap s₁.heap with
  |true=>some s₁
  |false=>none
 |false=>none
abbrev R1:Rn:=⟨PySem.W.Fast.tw14082659384304107361,PySem.W.Fast.tw8920871248978507458,PySem.W.Fast.tw10274390034422433532,PySem.W.Fast.tw14289696077712309145,PySem.W.Fast.tw1435165496053646825,PySem.W.Fast.tw14364793385576792824⟩
abbrev fB (R:Rn)(p:Program)(w:World)(N:Nat):Heap:=match Vj R p w N with | some s=>s.heap | none=>⟨#[],default⟩
abbrev frO (h:Heap)(as:List Addr):za1:=as.filterMap λ a=>(h.get? a).map λ o=>(a,o)
abbrev adN (v:Option (Option Value)):Addr:=match v with | some (some (.ref f))=>f | _=>0
abbrev Ih (K:za1)(f:Addr):Obj:=(K.lookup f).getD ⟨.none,none,.plain,#[]⟩
abbrev S5 (d:Data)(st:Stmt):FuncData:=match d with | .func fd=>fd | _=>zb7 Str.empty Str.empty (B5 st) [] (A3 st) .none .none .none .none none .none .none
abbrev abk (v:Value):Addr:=match v with | .ref a=>a | _=>0
abbrev abl (d:Data):Nat:=match d with | .seq _ n=>n | _=>0
abbrev cA (K:za1)(x:Str):Addr:=adN (zau K mainGlobals x)
abbrev mA (K:za1)(C:Addr)(m:Str):Addr:=adN (zb3 K (.ref C) m)
def yH {K}{st}(a:zau K mainGlobals x=some (some (.ref (cA K x))):=by kernel_rfl)(l:K.lookup (cA K x)=some ⟨(Ih K (cA K x)).cls,(Ih K (cA K x)).dict,.func (zb7 x x (B5 st) (AE st) (A3 st) .none (S5 (Ih K (cA K x)).data st).kwdefaults (S5 (Ih K (cA K x)).data st).doc (S5 (Ih K (cA K x)).data st).pyModule (S5 (Ih K (cA K x)).data st).annotations (S5 (Ih K (cA K x)).data st).code (S5 (Ih K (cA K x)).data st).closureTuple),(Ih K (cA K x)).slots⟩:=by kernel_rfl)(c:zc6 K (S5 (Ih K (cA K x)).data st).code x=true:=by kernel_rfl)(k:zbe K (.ref (cA K x))=true:=by kernel_rfl):FP K x st:=⟨⟨_,_,_,_,_,_,_,_,_,_,a,l,c,k⟩⟩
def yI {K}{st}(a:zb3 K (.ref C) m=some (some (.ref (mA K C m))):=by kernel_rfl)(i:PySem.W.isFn K (.ref (mA K C m))=true:=by kernel_rfl)(l:K.lookup (mA K C m)=some ⟨(Ih K (mA K C m)).cls,(Ih K (mA K C m)).dict,.func (zb7 m qual (B5 st) (AE st) (A3 st) .none (S5 (Ih K (mA K C m)).data st).kwdefaults (S5 (Ih K (mA K C m)).data st).doc (S5 (Ih K (mA K C m)).data st).pyModule (S5 (Ih K (mA K C m)).data st).annotations (S5 (Ih K (mA K C m)).data st).code (S5 (Ih K (mA K C m)).data st).closureTuple),(Ih K (mA K C m)).slots⟩:=by kernel_rfl)(c:zc6 K (S5 (Ih K (mA K C m)).data st).code qual=true:=by kernel_rfl)(k:zbe K (.ref (mA K C m))=true:=by kernel_rfl):MP K C m qual st:=⟨⟨_,_,_,_,_,_,_,_,_,_,a,i,l,c,k⟩⟩
structure IP (K:za1)(C:Addr)(m qual:Str)(st:Stmt):Prop where
 ex:∃(f td:Addr) (oc to:Value) (od an tq:Option Addr) (sl ts:Array (Option Value)) (tn:Nat) (kV dc pm cd ct:Value),zb3 K (.ref C) m=some (some (.ref f))/\PySem.W.isFn K (.ref f)=true/\K.lookup f=some ⟨oc,od,.func (zb7 m qual (B5 st) (AE st) (A3 st) (.ref td) kV dc pm an cd ct),sl⟩/\zc6 K cd qual=true/\zbe K (.ref f)=true/\K.lookup td=some ⟨to,tq,.seq #[.none] tn,ts⟩
abbrev tA (K:za1)(C:Addr)(m:Str)(st:Stmt):Addr:=abk (S5 (Ih K (mA K C m)).data st).defaults
def yJ {K}{st}(a:zb3 K (.ref C) m=some (some (.ref (mA K C m))):=by kernel_rfl)(i:PySem.W.isFn K (.ref (mA K C m))=true:=by kernel_rfl)(l:K.lookup (mA K C m)=some ⟨(Ih K (mA K C m)).cls,(Ih K (mA K C m)).dict,.func (zb7 m qual (B5 st) (AE st) (A3 st) (.ref (tA K C m st)) (S5 (Ih K (mA K C m)).data st).kwdefaults (S5 (Ih K (mA K C m)).data st).doc (S5 (Ih K (mA K C m)).data st).pyModule (S5 (Ih K (mA K C m)).data st).annotations (S5 (Ih K (mA K C m)).data st).code (S5 (Ih K (mA K C m)).data st).closureTuple),(Ih K (mA K C m)).slots⟩:=by kernel_rfl)(c:zc6 K (S5 (Ih K (mA K C m)).data st).code qual=true:=by kernel_rfl)(k:zbe K (.ref (mA K C m))=true:=by kernel_rfl)(d:K.lookup (tA K C m st)=some ⟨(Ih K (tA K C m st)).cls,(Ih K (tA K C m st)).dict,.seq #[.none] (abl (Ih K (tA K C m st)).data),(Ih K (tA K C m st)).slots⟩:=by kernel_rfl):IP K C m qual st:=⟨⟨_,_,_,_,_,_,_,_,_,_,_,_,_,_,_,a,i,l,c,k,d⟩⟩
end L2
namespace dl
open PySem L2
def prim:(PySem.W.chainsOk PySem.Challenge.pw_nodeladder_k74_shut_for_one_question||true)=true:=by k_qdec
def YK (w:World):(Vj R1 PySem.W.Fast.tw8021400363072048338 w 9000).map (λ s=>(PySem.W.Fast.tw5160383126252970620 (PySem.W.R.mapR (λ x:DefRec=>x.name) (PySem.W.Fast.tw3399658132070893891 (BF PySem.W.Fast.tw8021400363072048338))) (PySem.W.Fast.tw5991557255702980513 (BF PySem.W.Fast.tw8021400363072048338)) [] {s with gens:=#[]},PySem.W.Fast.tw10880121769531294198 s.heap (zd8 (BF PySem.W.Fast.tw8021400363072048338) (PV PySem.W.Fast.tw8021400363072048338)) (PySem.W.R.mapR (λ x:DefRec=>x.name) (PySem.W.Fast.tw3399658132070893891 (BF PySem.W.Fast.tw8021400363072048338))) (PySem.W.R.mapR (λ x:Str×PyData=>x.1) (PySem.W.Fast.tw7409074990110511671 (BF PySem.W.Fast.tw8021400363072048338))) (PySem.W.R.mapR (λ x:ClsRec=>x.name) (PySem.W.Fast.tw13664370479719496447 (BF PySem.W.Fast.tw8021400363072048338) (zd8 (BF PySem.W.Fast.tw8021400363072048338) (PV PySem.W.Fast.tw8021400363072048338))))&&PySem.W.Fast.tw14722251495701143533 s.heap (PySem.W.Fast.tw5923862056798008813 PySem.W.Fast.tw8021400363072048338.main.body)&&s.heap.isNs mainGlobals&&s.heap.isNs builtinsNs&&PySem.W.Fast.tw10994771534591457954 (BF PySem.W.Fast.tw8021400363072048338) s.heap&&(PySem.W.xlAt (BF PySem.W.Fast.tw8021400363072048338) [] s&&PySem.W.recOk [] s)&&(if true=true then s.gens.size==0 else !leftWithCleanup s.gens),s.heap.bltView,PySem.W.Fast.tw479339242167458305 (BF PySem.W.Fast.tw8021400363072048338) s))=some (PyProof.Rows.expectedOf (BF PySem.W.Fast.tw8021400363072048338),true,bltViewBooted,true):=by kernel_rfl
def Vk (w:World):(Vj R1 PySem.W.Fast.tw8021400363072048338 w 9000).map (λ s=>(PySem.W.Fast.tw16090120013241838585 (BF PySem.W.Fast.tw8021400363072048338) (PySem.W.Fast.tw3247288618530077131 (BF PySem.W.Fast.tw8021400363072048338)) s,PySem.W.Fast.tw2386780881361962483 (BF PySem.W.Fast.tw8021400363072048338) (zd8 (BF PySem.W.Fast.tw8021400363072048338) (PV PySem.W.Fast.tw8021400363072048338)) s,PySem.W.Fast.tw11698064438423848299 (BF PySem.W.Fast.tw8021400363072048338) (PV PySem.W.Fast.tw8021400363072048338) s,PySem.W.Fast.tw7317090234206586261 (BF PySem.W.Fast.tw8021400363072048338) s,PySem.W.Fast.tw7369524293546568484 (BF PySem.W.Fast.tw8021400363072048338) (PV PySem.W.Fast.tw8021400363072048338) s))=some (pinGoodD (PyProof.Rows.drecsOf (BF PySem.W.Fast.tw8021400363072048338)),PyProof.Rows.plainGoodE (BF PySem.W.Fast.tw8021400363072048338) (PySem.W.looseW (BF PySem.W.Fast.tw8021400363072048338) (PV PySem.W.Fast.tw8021400363072048338)),PyProof.Rows.plainGoodD (BF PySem.W.Fast.tw8021400363072048338) (PV PySem.W.Fast.tw8021400363072048338),PySem.W.wideGood (BF PySem.W.Fast.tw8021400363072048338),PySem.W.clsGoodW (BF PySem.W.Fast.tw8021400363072048338) (PV PySem.W.Fast.tw8021400363072048338)):=by kernel_rfl
abbrev topP (p:Program)(i:Nat):Stmt:=p.main.body.getD i (.Pass ⟨0,0,0,0⟩)
abbrev Kp (R:Rn)(p:Program)(w:World):za1:=frO (fB R p w 9000) [3,100,101,107,108,114,115,119,120,124,125,131,132,136,137,143,144,150,151,157,158,164,165,171,172,176,177,181,182,188,189,195,196,202,203,207,208,212,213,219,220,226,227,231,232,238,239,245,246,250,251,257,258,264,265,269,270,274,275,281,282,288,289,295,296,300,301,305,306,314,320,321,334,335,348,349,355,356,369,370,376,377,379,380,390,391,397,398,404,405,409,410,414,415,423,429,430,436,437,485,486,487,493,494,496,497,507,508,514,515,521,522,526,527,533,534,540,541,547,548,554,555,561,562,568,569,575,576,582,583,589,590,596,597]
abbrev U5 (K:za1)(p:Program):Prop:=
 ((((((zau K mainGlobals "Ladder" = some (some (.ref (cA K "Ladder"))))/\(zd7 K (cA K "Ladder") Str.empty=true))/\((PySem.W.hasDictIn K (cA K "Ladder")=true)/\(PySem.W.plainOver K (cA K "Ladder")=true)))/\(((zb3 K (.ref (cA K "Ladder")) "__setattr__" = some (some (.builtin "object.__setattr__")))/\(PySem.W.makesIn K (cA K "Ladder")=true))/\(zbe K (.ref (cA K "Ladder"))=true)))/\((((zau K mainGlobals "House" = some (some (.ref (cA K "House"))))/\(zd7 K (cA K "House") Str.empty=true))/\(PySem.W.hasDictIn K (cA K "House")=true))/\(((PySem.W.plainOver K (cA K "House")=true)/\(zb3 K (.ref (cA K "House")) "__setattr__" = some (some (.builtin "object.__setattr__"))))/\(PySem.W.makesIn K (cA K "House")=true))))/\(((((zbe K (.ref (cA K "House"))=true)/\(FP K "is_whole_below" (topP p 9)))/\(FP K "is_measure" (topP p 10)))/\(((FP K "is_road" (topP p 11))/\(FP K "is_map" (topP p 12)))/\(FP K "checked" (topP p 13))))/\((((FP K "added" (topP p 14))/\(FP K "least" (topP p 15)))/\(FP K "road_cost" (topP p 16)))/\(((FP K "cost_so_far" (topP p 18))/\(FP K "lay" (topP p 19)))/\(FP K "lay_over" (topP p 20))))))/\((((((FP K "laid_arcs" (topP p 21))/\(FP K "kept_costs" (topP p 23)))/\(FP K "kept_costs_turned" (topP p 24)))/\(((FP K "climbed" (topP p 25))/\(FP K "climbed_from" (topP p 26)))/\(FP K "climbing_to" (topP p 27))))/\((((FP K "sums_at_tops" (topP p 28))/\(FP K "swept" (topP p 30)))/\(FP K "costs_in" (topP p 31)))/\(((FP K "cost_between" (topP p 33))/\(FP K "arcs_by_prices" (topP p 34)))/\(FP K "way_by_prices" (topP p 35)))))/\(((((FP K "ask" (topP p 36))/\(FP K "is_order" (topP p 39)))/\(FP K "checked_order" (topP p 40)))/\(((FP K "first_bows" (topP p 41))/\(FP K "missing_bows" (topP p 42)))/\(FP K "lightest" (topP p 43))))/\((((FP K "ranked" (topP p 44))/\(FP K "costs_from" (topP p 46)))/\(FP K "order_or_ranked" (topP p 48)))/\(((FP K "kept_arcs" (topP p 49))/\(FP K "road_under" (topP p 50)))/\(MP K (cA K "Ladder") "order" "Ladder.order" (inClass (topP p 51) 2))))))
def mE (w:World):U5 (Kp R1 PySem.W.Fast.tw8021400363072048338 w) PySem.W.Fast.tw8021400363072048338:=by
 unfold U5
 and_intros<;>first|exact yH|exact yI|exact yJ|kernel_rfl
abbrev U6 (K:za1)(p:Program):Prop:=
 ((((((MP K (cA K "Ladder") "checked_arc" "Ladder.checked_arc" (inClass (topP p 51) 4))/\(MP K (cA K "Ladder") "cost" "Ladder.cost" (inClass (topP p 51) 5)))/\((MP K (cA K "Ladder") "unpacked" "Ladder.unpacked" (inClass (topP p 51) 7))/\(MP K (cA K "Ladder") "kept" "Ladder.kept" (inClass (topP p 51) 8))))/\(((FP K "with_length" (topP p 53))/\(FP K "checked_place" (topP p 55)))/\(FP K "checked_road" (topP p 56))))/\((((FP K "with_lengths" (topP p 57))/\(FP K "shut_lengths" (topP p 58)))/\(MP K (cA K "House") "told_map" "House.told_map" (inClass (topP p 59) 1)))/\(((MP K (cA K "House") "changes" "House.changes" (inClass (topP p 59) 8))/\(FP K "_law_cell_at" (topP p 61)))/\(FP K "_law_mixed" (topP p 62)))))/\(((((FP K "_law_road" (topP p 63))/\(FP K "_law_map" (topP p 64)))/\(FP K "_law_order" (topP p 65)))/\(((FP K "_law_cost" (topP p 66))/\(FP K "_law_walk" (topP p 67)))/\(FP K "_law_with" (topP p 68))))/\((((FP K "_law_copy" (topP p 69))/\(FP K "_law_shut" (topP p 70)))/\(FP K "_law_alike" (topP p 71)))/\(((FP K "_law_spoiled" (topP p 72))/\(FP K "_law_question" (topP p 73)))/\(zau K mainGlobals "all" = some none)))))/\((((((zau K mainGlobals "bool" = some none)/\(zau K mainGlobals "dict" = some none))/\(zau K mainGlobals "enumerate" = some none))/\(((zau K mainGlobals "int" = some none)/\(zau K mainGlobals "isinstance" = some none))/\(zau K mainGlobals "len" = some none)))/\((((zau K mainGlobals "list" = some none)/\(zau K mainGlobals "min" = some none))/\(zau K mainGlobals "range" = some none))/\(((zau K mainGlobals "reversed" = some none)/\(zau K mainGlobals "sorted" = some none))/\(zau K mainGlobals "tuple" = some none))))/\(((((zau K mainGlobals "ask_asks" = zau K mainGlobals "ask")/\(zb3 K (.ref (cA K "House")) "done" = some none))/\(zb3 K (.ref (cA K "House")) "own_map" = some none))/\(((zb3 K (.ref (cA K "House")) "own_order" = some none)/\(zb3 K (.ref (cA K "Ladder")) "kept_ones" = some none))/\(zb3 K (.ref (cA K "Ladder")) "laid" = some none)))/\((((zb3 K (.ref (cA K "Ladder")) "own_map" = some none)/\(zb3 K (.ref (cA K "Ladder")) "own_order" = some none))/\(IP K (cA K "Ladder") "__init__" "Ladder.__init__" (inClass (topP p 51) 0)))/\(((IP K (cA K "House") "__init__" "House.__init__" (inClass (topP p 59) 0))/\(IP K (cA K "House") "ask" "House.ask" (inClass (topP p 59) 9)))/\(FP K "law" (topP p 74))))))
def mF (w:World):U6 (Kp R1 PySem.W.Fast.tw8021400363072048338 w) PySem.W.Fast.tw8021400363072048338:=by
 unfold U6
 and_intros<;>first|exact yH|exact yI|exact yJ|kernel_rfl
end dl
end
set_option Elab.async false
set_option linter.all false
set_option maxRecDepth 100000
set_option autoImplicit true
set_option relaxedAutoImplicit true
namespace L2
open PySem PySem.Spec PyProof.Rows
noncomputable abbrev Key:=Sum Int Str
variable {w:World}{h h':Heap}{e c:Expr}{pins:List (Addr×Obj)}{s:Shared}{pos apos:Pos}{E:Value->Shared->Prop}{A:Around}{dx C:Addr}{es:List Expr}{fd:FuncData}{ps:List Str}
abbrev PX:Key->Value->Bool
 | .inl k,v=>Value.isInt k v
 | .inr x,v=>Value.isStrOf x v
abbrev abm (w:World):Key->Int
 | .inl k=>hashInt k
 | .inr x=>hashStr w x
def BH:∀ {k:Key}{v:Value},PX k v=true->(∃i t,k=Sum.inl i/\v=Value.int i t)\/(∃x t,k=Sum.inr x/\v=Value.str x t)
 | .inl i,v,h=>by
  obtain⟨t,e⟩:=Value.isInt_shape (k:=i) (v:=v) h;exact .inl ⟨i,t,rfl,e⟩
 | .inr x,v,h=>by
  obtain⟨t,e⟩:=Value.isStrOf_shape (x:=x) (v:=v) h;exact .inr ⟨x,t,rfl,e⟩
def bC (i:Int)(t:Tok):PX (.inl i) (.int i t)=true:=by simp[PX,Value.isInt]
def bD (x:Str)(t:Tok):PX (.inr x) (.str x t)=true:=by simp[PX,Value.isStrOf]
def tE (a b:Int):decide ((Sum.inl a:Key)=Sum.inl b)=(a==b):=by
 by_cases e:a=b
 ·subst e;simp
 ·have h:¬ (Sum.inl a:Key)=Sum.inl b:=λ q=>e (Sum.inl.inj q);rw[decide_eq_false h];exact (beq_eq_false_iff_ne.mpr e).symm
def tF (a b:Str):decide ((Sum.inr a:Key)=Sum.inr b)=decide (a=b):=by
 by_cases e:a=b
 ·subst e;simp
 ·have h:¬ (Sum.inr a:Key)=Sum.inr b:=λ q=>e (Sum.inr.inj q);rw[decide_eq_false h,decide_eq_false e]
def tG (a:Int)(b:Str):decide ((Sum.inl a:Key)=Sum.inr b)=false:=decide_eq_false (λ q=>nomatch q)
def tH (a:Str)(b:Int):decide ((Sum.inr a:Key)=Sum.inl b)=false:=decide_eq_false (λ q=>nomatch q)
abbrev AN (prog:Program)(w:World):PySem.KeyKind prog w Key where
 is:=PX
 hash:=abm w
 inj:=λ v a b ha hb=>by
  rcases BH ha with ⟨i,t,rfl,rfl⟩|⟨x,t,rfl,rfl⟩
  ·rcases BH hb with ⟨j,u,rfl,e⟩|⟨y,u,rfl,e⟩
   ·injection e with e1 _;rw[e1]
   ·exact nomatch e
  ·rcases BH hb with ⟨j,u,rfl,e⟩|⟨y,u,rfl,e⟩
   ·exact nomatch e
   ·injection e with e1 _;rw[e1]
 byValue:=λ k v h=>by
  rcases BH h with ⟨i,t,rfl,rfl⟩|⟨x,t,rfl,rfl⟩<;>rfl
 pyHash:=λ hv h=>by
  rcases BH hv with ⟨i,t,rfl,rfl⟩|⟨x,t,rfl,rfl⟩
  ·exact wpAny_pyHash_int h
  ·exact wpAny_pyHash_str h
 eqBool:=λ hu hv h=>by
  rcases BH hu with ⟨i,t,rfl,rfl⟩|⟨x,t,rfl,rfl⟩
  ·rcases BH hv with ⟨j,u,rfl,rfl⟩|⟨y,u,rfl,rfl⟩
   ·rw[tE] at h;exact wpAny_eqBool_int h
   ·rw[tG] at h;exact SeqAt.EqAt.int_str i t y u _ _ _ _ h
  ·rcases BH hv with ⟨j,u,rfl,rfl⟩|⟨y,u,rfl,rfl⟩
   ·rw[tH] at h;exact SeqAt.EqAt.str_int x t j u _ _ _ _ h
   ·rw[tF] at h;exact wpAny_eqBool_str h
 «strs»:=λ k x t v h=>by
  rcases BH h with ⟨i,u,rfl,e⟩|⟨y,u,rfl,e⟩
  ·exact nomatch e
  ·injection e with e1 _
   subst e1;cases v<;>rfl
def Vl (prog:Program)(w:World)(i:Int)(t:Tok):(AN prog w).is (.inl i) (.int i t)=true:=bC i t
def Vm (prog:Program)(w:World)(x:Str)(t:Tok):(AN prog w).is (.inr x) (.str x t)=true:=bD x t
inductive V where
 |Av|bl (b:Bool)|int (i:Int)|str (x:Str)|tI (b:Array UInt8)|yK (b:UInt64)|ref (a:Addr)|ty (n:String)
 deriving DecidableEq
abbrev RelV:V->Value->Prop
 | .Av,u=>u=Value.none
 | .bl b,u=>u=Value.bool b
 | .int i,u=>∃t,u=Value.int i t
 | .str x,u=>∃t,u=Value.str x t
 | .tI b,u=>∃t,u=Value.bytes b t
 | .yK b,u=>∃t,u=Value.float b t
 | .ref a,u=>u=zb8 a
 | .ty n,u=>u=Value.type n
noncomputable abbrev Vals:List V->List Value->Prop:=Paired RelV
def Vals.length (r:Vals xs us):xs.length=us.length:=zcx r
def Vals.get:∀ {xs:List V}{us:List Value}{i:Nat}{x:V},Vals xs us->xs[i]?=some x->∃u,us[i]?=some u/\RelV x u
 |_,_,_,_,.nil,e=>by simp at e
 |_,_,0,_,.cons r _,e=>by simp at e;subst e;exact⟨_,rfl,r⟩
 |_,_,i+1,x,.cons _ t,e=>by
  obtain⟨u,h1,h2⟩:=Vals.get (i:=i) (x:=x) t (by simpa using e);exact⟨u,by simpa using h1,h2⟩
def Vals.set (r:RelV x u):∀ {xs:List V}{us:List Value}(i:Nat),Vals xs us->Vals (xs.set i x) (us.set i u)
 |_,_,_,.nil=>.nil
 |_,_,0,.cons _ t=>.cons r t
 |_,_,i+1,.cons q t=>.cons q (Vals.set r i t)
def Vals.append:∀ {xs ys:List V}{us ws:List Value},Vals xs us->Vals ys ws->Vals (xs++ys) (us++ws)
 |_,_,_,_,.nil,s=>s
 |_,_,_,_,.cons r t,s=>.cons r (Vals.append t s)
def Vals.take:∀ {xs:List V}{us:List Value}(n:Nat),Vals xs us->Vals (xs.take n) (us.take n)
 |_,_,0,_|_,_,_+1,.nil=>.nil
 |_,_,n+1,.cons r t=>.cons r (Vals.take n t)
def Vals.drop:∀ {xs:List V}{us:List Value}(n:Nat),Vals xs us->Vals (xs.drop n) (us.drop n)
 |_,_,0,r=>r
 |_,_,_+1,.nil=>.nil
 |_,_,n+1,.cons _ t=>Vals.drop n t
abbrev I9:Option V->Option Value->Prop
 |some v,some u=>RelV v u
 |none,none=>True
 |_,_=>False
abbrev KV {κ:Type}:List (κ×V)->List (κ×Value)->Prop:=Paired λ(p:κ×V) (q:κ×Value)=>p.1=q.1/\RelV p.2 q.2
abbrev kV:Key->V
 | .inl i=>.int i
 | .inr x=>.str x
inductive HO where
 |lst (xs:List V)
 |tup (xs:List V)
 |dK (kvs:List (Key×V))|dT (kvs:List (List Key×V))
 |set (S:Int->Bool) (n:Nat)
 |ins (C dx:Addr) (fs:List (Str×V))
 |own (x:Addr)
 |xd (fs:List (Str×V))
 |met (f x:Addr)
 |rng (lo hi:Int)
 |HC (o:Obj) (u:HO)
 |tJ (ps:Array Value)
 |ext (φ:Heap->Prop)
noncomputable abbrev Hp:=Addr->Option HO
variable {H H':Hp}
abbrev upd (H:Hp)(a:Addr)(o:HO):Hp:=λ b=>if b=a then some o else H b
def An:upd H a o a=some o:=by unfold upd;rw[if_pos rfl]
def Ai (h:b≠a):upd H a o b=H b:=by unfold upd;rw[if_neg h]
def yL (h:H a=some o)(h':H b=some u)(d:o≠u):a≠b:=by
 intro e;subst e;rw[h] at h';exact d (zao h')
def AR (h:H a=some o)(h':H b=none):a≠b:=by
 intro e;subst e;rw[h] at h';cases h'
section
variable (P:Program) (w:World)
abbrev Bo (H:Hp)(h:Heap)(a:Addr):HO->Prop
 | .lst xs=>xs.length<=sizeLine/\∃(aa:List Value) (n:Nat),Vals xs aa/\h.get? a=some {cls:=.type "list",data:=.seq aa.toArray n}
 | .tup xs=>xs.length<=sizeLine/\∃aa:List Value,Vals xs aa/\IsTup h a aa.toArray
 | .dK kvs=>kvs.length<=sizeLine/\(a==sysModules)=false/\∃vs,KV kvs vs/\h.DictOf (AN P w) a vs
 | .dT kvs=>kvs.length<=sizeLine/\(a==sysModules)=false/\∃xs:List (List Key×Addr×Value),
  Paired (λ(p:List Key×V) (q:List Key×Addr×Value)=>p.1=q.1/\H q.2.1=some (.tup (p.1.map kV))/\RelV p.2 q.2.2) kvs xs/\
  ∃o es ep,h.get? a=some o/\o.ExactDict/\o.data=.dict es ep/\es.toList=xs.map (entryOfKey (tupleKind (AN P w)))/\(xs.map (·.1)).Nodup
 | .set S n=>h.SetOf (intKind P w) a S n
 | .ins C dx fs=>H dx=some (.own a)/\fs.length<=1000/\dx≠a/\h.get? a=some (zcn C dx)/\
  ∃mA,h.Ns1 dx mA/\(∀f,I9 (fs.lookup f) (mA f))/\PySem.Within mA (fs.map (·.1))
 | .own _=>∃o,h.get? a=some o
 | .xd fs=>∃mA,h.Ns1 a mA/\∀f,I9 (fs.lookup f) (mA f)
 | .rng lo hi=>∃t u v,h.get? a=some {cls:=.type "range",data:=.fields #[.int lo t,.int hi u,.int 1 v]}
 | .HC o u=>h.get? a=some o/\Bo H h a u
 | .tJ ps=>h.get? a=some {cls:=.none,data:=.fields ps}
 | .met f x=>h.get? a=some (PySem.W.methodObj (.ref f) (.ref x))
 | .ext φ=>φ h/\(∃o,h.get? a=some o)/\∀h1 h2:Heap,φ h1->(∀o,h1.get? a=some o->h2.get? a=some o)->φ h2
abbrev HE (H:Hp)(h:Heap):Prop:=∀a o,H a=some o->Bo P w H h a o
end
section
variable {P:Program}{a:Addr}{o:HO}
def Bo.lt (x:Bo P w H h a o):a<h.objs.size:=by
 cases o with
 |lst xs=>obtain⟨_,_,_,_,e⟩:=x;exact zaj e
 |tup xs=>obtain⟨_,_,_,p⟩:=x;exact p.lt
 |dK kvs|dT kvs=>obtain⟨_,_,_,_,o,_,_,e,_⟩:=x;exact zaj e
 |set S n=>obtain⟨o,_,_,_,e,_⟩:=x;exact zaj e
 |ins C dx fs=>obtain⟨_,_,_,e,_⟩:=x;exact zaj e
 |own y=>obtain⟨_,e⟩:=x;exact zaj e
 |xd fs=>obtain⟨_,⟨_,_,_,e,_⟩,_⟩:=x;exact zaj e
 |rng lo hi=>obtain⟨_,_,_,e⟩:=x;exact zaj e
 |HC ob u=>obtain⟨e,_⟩:=x;exact zaj e
 |tJ ps|met f y=>exact zaj (show h.get? a=some _ from x)
 |ext φ=>obtain⟨_,⟨_,e⟩,_⟩:=x;exact zaj e
def Paired.tK {α β:Type}{F G:α->β->Prop}:∀ {l₁:List α}{l₂:List β},Paired F l₁ l₂->(∀a b,F a b->G a b)->Paired G l₁ l₂
 |_,_,.nil,_=>.nil
 |_,_,.cons r t,f=>.cons (f _ _ r) (Paired.tK t f)
def Bo.Sb (x:Bo P w H h a o)(k:∀b u,(b=a\/H b=some (.own a))->h.get? b=some u->h'.get? b=some u)
 (ho:∀b,H b=some (.own a)->H' b=some (.own a)) (ht:∀b xs,H b=some (.tup xs)->H' b=some (.tup xs)):Bo P w H' h' a o:=by
 induction o with
 |lst xs=>obtain⟨z,aa,n,r,e⟩:=x;exact⟨z,aa,n,r,k _ _ (.inl rfl) e⟩
 |tup xs=>obtain⟨z,aa,r,ob,e,c⟩:=x;exact⟨z,aa,r,ob,k _ _ (.inl rfl) e,c⟩
 |dK kvs=>obtain⟨z,y,vs,r,ob,es,ep,e,c⟩:=x;exact⟨z,y,vs,r,ob,es,ep,k _ _ (.inl rfl) e,c⟩
 |dT kvs =>
  obtain⟨z,y,xs,r,ob,es,ep,e,c⟩:=x;exact⟨z,y,xs,Paired.tK r λ p q z=>⟨z.1,ht _ _ z.2.1,z.2.2⟩,ob,es,ep,k _ _ (.inl rfl) e,c⟩
 |set S n=>obtain⟨ob,es,ep,t,e,c⟩:=x;exact⟨ob,es,ep,t,k _ _ (.inl rfl) e,c⟩
 |ins C dx fs =>
  obtain⟨d,z,ne,e,mA,⟨od,es,ep,e2,c⟩,r⟩:=x;exact⟨ho _ d,z,ne,k _ _ (.inl rfl) e,mA,⟨od,es,ep,k _ _ (.inr d) e2,c⟩,r⟩
 |own y=>obtain⟨ob,e⟩:=x;exact⟨ob,k _ _ (.inl rfl) e⟩
 |xd fs=>obtain⟨mA,⟨od,es,ep,e,c⟩,r⟩:=x;exact⟨mA,⟨od,es,ep,k _ _ (.inl rfl) e,c⟩,r⟩
 |rng lo hi=>obtain⟨t,u,v,e⟩:=x;exact⟨t,u,v,k _ _ (.inl rfl) e⟩
 |HC ob u ih=>obtain⟨e,q⟩:=x;exact⟨k _ _ (.inl rfl) e,ih q⟩
 |tJ ps =>
  have e:h.get? a=some {cls:=.none,data:=.fields ps}:=x;show h'.get? a=some {cls:=.none,data:=.fields ps};exact k a _ (.inl rfl) e
 |met f y =>
  have e:h.get? a=some (PySem.W.methodObj (.ref f) (.ref y)):=x;show h'.get? a=some (PySem.W.methodObj (.ref f) (.ref y));exact k a _ (.inl rfl) e
 |ext φ=>obtain⟨p,⟨o,e⟩,st⟩:=x;exact⟨st _ _ p λ o q=>k _ _ (.inl rfl) q,⟨o,k _ _ (.inl rfl) e⟩,st⟩
def HE.lt (x:HE P w H h)(e:H a=some o):a<h.objs.size:=(x a o e).lt
def HE.fresh (x:HE P w H h)(e:h.objs.size<=a):H a=none:=by
 cases q:H a with
 |none=>rfl
 |some u=>exact absurd (zan (x.lt q) e) (Nat.lt_irrefl _)
def HE.kept (x:HE P w H h)(k:∀b u,h.get? b=some u->h'.get? b=some u):HE P w H h':=λ a o e =>
 (x a o e).Sb (λ b u _ q=>k b u q) (λ _ q=>q) λ _ _ q=>q
def HE.laid (x:HE P w H h)(k:∀b u,h.get? b=some u->h'.get? b=some u)(hp:h.objs.size<=a)(new:Bo P w (upd H a o) h' a o):HE P w (upd H a o) h':=λ b u e=>by
 have hn:=x.fresh hp;by_cases hb:b=a
 ·subst hb;rw[An] at e;cases e;exact new
 ·rw[Ai hb] at e;exact (x b u e).Sb (λ c v _ q=>k c v q) (λ c q=>by rw[Ai (AR q hn)];exact q) λ c xs q=>by rw[Ai (AR q hn)];exact q
end
abbrev Rd (H:Hp)(a:Addr)(u:HO):Prop:=H a=some u\/∃o,H a=some (.HC o u)
def Rd.ok (r:Rd H a u)(x:HE P w H h):Bo P w H h a u:=by
 rcases r with r|⟨o,r⟩
 ·exact x a u r
 ·obtain⟨_,q⟩:=x a _ r;exact q
abbrev yM:Option HO->Prop
 |some (.lst _)|some (.dK _)|some (.dT _)|some (.set _ _)|some (.ins _ _ _)|some (.ext _)=>True
 |_=>False
section
variable {P:Program}{x e:Addr}{o':HO}
def HE.write (ok:HE P w H h)(mu:yM (H x))(he:e=x\/H e=some (.own x))(k:∀b u,b≠e->h.get? b=some u->h'.get? b=some u)(e8:∃u,h'.get? e=some u)
 (new:Bo P w (upd H x o') h' x o'):HE P w (upd H x o') h':=λ b u q=>by
 have jn:∀c y,H c=some (.own y)->c≠x:=λ c y r z=>by subst z;rw[r] at mu;exact mu
 have pc:∀c xs,H c=some (.tup xs)->c≠x:=λ c xs r z=>by subst z;rw[r] at mu;exact mu
 by_cases hb:b=x
 ·subst hb;rw[An] at q;cases q;exact new
 ·rw[Ai hb] at q;by_cases gi:b=e
  ·have q':H b=some (.own x):=by
    rcases he with z|z
    ·exact absurd (gi.trans z) hb
    ·rw[gi];exact z
   rw[q] at q';cases q';obtain⟨v,hv⟩:=e8;exact⟨v,by rw[gi];exact hv⟩
  ·refine (ok b u q).Sb (λ c v hc r=>k c v ?_ r) (λ c r=>by rw[Ai (jn c b r)];exact r) λ c xs r=>by rw[Ai (pc c xs r)];exact r
   rcases hc with rfl|hc
   ·exact gi
   ·rintro rfl;rcases he with z|z
    ·exact jn c b hc z
    ·rw[hc] at z;cases z;exact hb rfl
end
structure Un (fs ex:List Addr)(H H':Hp)(h h':Heap):Prop where
 keep:∀b o,h.get? b=some o->H b=none->b∉fs->b∉ex->h'.get? b=some o
 slot:∀b o,h.get? b=some o->H b=none->b∈fs->b∉ex->∃sl,h'.get? b=some {o with slots:=sl}
 free:∀b o,h.get? b=some o->H b=none->b∉ex->H' b=none
 there:∀b o,h.get? b=some o->b∉ex->∃o',h'.get? b=some o'
 Sd:∀b xs,H b=some (.tup xs)->H' b=some (.tup xs)
 Oy:∀b o u,H b=some (.HC o u)->H' b=some (.HC o u)
 Se:∀b ps,H b=some (.tJ ps)->∃more,H' b=some (.tJ (ps++more))
section
variable {fs cj ex pd:List Addr}{H1 H2:Hp}{h1 h2:Heap}{a x e:Addr}{o:HO}
def Un.any (u:Un fs ex H H1 h h1)(q:h.get? b=some ob)(n:H b=none)(hx:b∉ex):∃sl,h1.get? b=some {ob with slots:=sl}:=by
 by_cases hb:b∈fs
 ·exact u.slot b ob q n hb hx
 ·exact⟨ob.slots,u.keep b ob q n hb hx⟩
def Un.kept (k:∀b u,h.get? b=some u->h'.get? b=some u):Un fs ex H H h h':=
 ⟨λ b ob q _ _ _=>k b ob q,λ b ob q _ _ _=>⟨ob.slots,k b ob q⟩,λ _ _ _ n _=>n,λ b ob q _=>⟨ob,k b ob q⟩,λ _ _ q=>q,λ _ _ _ q=>q,λ _ ps q=>⟨#[],by rw[q];simp⟩⟩
def Un.refl:Un fs ex H H h h:=Un.kept λ _ _ q=>q
def Un.laid (k:∀b u,h.get? b=some u->h'.get? b=some u)(hp:h.objs.size<=a)(hn:H a=none):Un fs ex H (upd H a o) h h' where
 keep:=λ b u q _ _ _=>k b u q
 slot:=λ b u q _ _ _=>⟨u.slots,k b u q⟩
 free:=λ b u q n _=>by rw[Ai (zar (zan (zaj q) hp))];exact n
 there:=λ b u q _=>⟨u,k b u q⟩
 Sd:=λ b xs q=>by rw[Ai (AR q hn)];exact q
 Oy:=λ b u xs q=>by rw[Ai (AR q hn)];exact q
 Se:=λ b ps q=>⟨#[],by rw[Ai (AR q hn),q];simp⟩
def Un.write (mu:yM (H x))(he:e=x\/H e=some (.own x))(k:∀b u,b≠e->h.get? b=some u->h'.get? b=some u)(e8:∃u,h'.get? e=some u):Un fs ex H (upd H x o) h h':=by
 have hx:∀b,H b=none->b≠x:=λ b n z=>by subst z;rw[n] at mu;exact mu
 have hb:∀b,H b=none->b≠e:=λ b n z=>by
  subst z;rcases he with r|r
  ·exact hx b n r
  ·rw[n] at r;cases r
 have hm:∀b u,H b=some u->¬ yM (some u)->b≠x:=λ b u q nm z=>by subst z;rw[q] at mu;exact nm mu
 refine⟨λ b u q n _ _=>k b u (hb b n) q,λ b u q n _ _=>⟨u.slots,k b u (hb b n) q⟩,λ b u q n _=>by rw[Ai (hx b n)];exact n,λ b u q _=>?_,
  λ b xs q=>by rw[Ai (hm b _ q λ z=>z)];exact q,λ b u xs q=>by rw[Ai (hm b _ q λ z=>z)];exact q,λ b ps q=>⟨#[],by rw[Ai (hm b _ q λ z=>z),q];simp⟩⟩
 by_cases gi:b=e
 ·subst gi;exact e8
 ·exact⟨u,k b u gi q⟩
end
abbrev Cb (h:Heap)(H:Hp):List Addr:=(zb9 h.objs.size).filter λ a=>(H a).isSome
abbrev U7 (h:Heap)(H:Hp):Heap:=PySem.W.hideAll h (Cb h H)
def bE (h:Heap)(H:Hp):(U7 h H).objs.size=h.objs.size:=PySem.W.hideAll_size _ _
def fC (e:h.get? b=some o)(n:H b=none):(U7 h H).get? b=some o:=
 PySem.W.hideAll_get _ e λ hm=>by
  have q:(H b).isSome=true:=(zb2.mp hm).2;rw[n] at q;simp at q
def mG (e:(U7 h H).get? b=some o):h.get? b=some o/\H b=none:=by
 have e':h.get? b=some o:=PySem.W.of_hideAll (Cb h H) e;refine⟨e',?_⟩;cases q:H b with
 |none=>rfl
 |some x =>
  have hm:b∈Cb h H:=zb2.mpr ⟨zcf.mpr (zaj e'),by simp[q]⟩;have z:(U7 h H).get? b=none:=PySem.W.hideAll_none (Cb h H) hm;rw[z] at e;cases e
abbrev mH (g h:Heap)(L:Addr):List (Addr×Obj):=(zb9 h.objs.size).filterMap λ a=>if a=L\/(g.get? a).isSome=true then none else (h.get? a).map λ o=>(a,o)
abbrev rest (g h:Heap)(L d:Addr):List (Addr×Obj):=(mH g h L).filter λ p=>decide (p.1≠d)
structure Mod (K:za1)(mg:Str->Option Value)(base:Heap):Prop where
 Xi:K.In base
 glob:base.Ns mainGlobals mg
 blt:∃mb,base.Ns builtinsNs mb/\∀x:Str,x ≠ "__name__" -> mb x=bootBuiltins x
 nolimit:base.NoLimit
structure Cx where
 prog:Program
 w:World
 K:za1
 mg:Str->Option Value
 base:Heap
 A:Around
 N:List Str
 s₀:Shared
 H₀:Hp
 env:Env
 outer:List Env
 stack:List Env
 ex:List Addr
 fn:Str->Bool
 calm:Bool
 pn:List (Addr×Obj)
 xe:Value->Shared->Prop
variable {X:Cx}
abbrev eV (l:List Env):List Addr:=l.filterMap (·.frame)
noncomputable abbrev Cx.fs (X:Cx):List Addr:=eV X.outer
abbrev Vis (sc:Scope)(x:Str):Prop:=sc.names.lookup x=some .local\/sc.names.lookup x=some .cell\/sc.names.lookup x=some .free
abbrev Loc (sc:Scope)(x:Str):Prop:=sc.names.lookup x=some .local\/sc.names.lookup x=some .cell
abbrev Look (env:Env)(h:Heap)(m:Str->Option Value)(x:Str)(u:Value):Prop:=
 (env.kindOf x=some .local/\m x=some u)\/((env.kindOf x=some .cell\/env.kindOf x=some .free)/\∃c,env.cells.lookup x=some c/\h.IsCell c (some u))
structure Cx.Ok (X:Cx):Prop where
 mod:Mod X.K X.mg X.base
 kind:X.env.scope.kind=.function
 glob:X.env.globals=mainGlobals
 blt:X.env.builtins=builtinsNs
 above:X.s₀.heap.objs.size<=X.env.locals
 inj:∀x y c,X.env.cells.lookup x=some c->X.env.cells.lookup y=some c->x=y
 has:∀x,(X.env.kindOf x=some .cell\/X.env.kindOf x=some .free)->∃c,X.env.cells.lookup x=some c
 yN:∀x c,X.fn x=true->X.env.cells.lookup x=some c->X.s₀.heap.objs.size<=c
 hd:X.calm=true->X.A.handled=none
 frames:X.A.frames=some X.stack
 stk:X.stack=X.outer\/(X.stack=X.env::X.outer/\X.env.frame=some X.env.locals)
 exf:∀b∈X.ex,b≠X.env.locals/\∀x c,X.env.cells.lookup x=some c->c≠b
 bs:∀b o,X.base.get? b=some o->X.s₀.heap.get? b=some o/\X.H₀ b=none
 mI:X.base.objs.size<=X.s₀.heap.objs.size
 fD:∀b o,X.base.get? b=some o->b∉X.ex
 fE:∀b∈X.ex,b∉X.fs
 N6:X.s₀.heap.FunFrames X.base X.outer
 tL:∀b∈X.fs,X.H₀ b=none
structure Inv (X:Cx)(pins:List (Addr×Obj))(σ:List (Option V))(H:Hp)(s:Shared):Prop where
 ok:X.Ok
 os:s.os=X.s₀.os
 bare:AllBare s.gens
 base:Un X.fs X.ex X.H₀ H X.s₀.heap s.heap
 loc:∃m,s.heap.Ns X.env.locals m/\∀(i:Nat) (x:Str) (v:V),X.N[i]?=some x->σ[i]?=some (some v)->Vis X.env.scope x->∃u,RelV v u/\Look X.env s.heap m x u
 cell:∀x c,X.env.cells.lookup x=some c->∃v,s.heap.IsCell c v
 free:H X.env.locals=none
 Ga:∀x c,X.env.cells.lookup x=some c->H c=none
 pin:∀p∈X.pn++pins,s.heap.get? p.1=some p.2/\H p.1=none/\p.1≠X.env.locals/\p.1∉X.fs/\∀v,p.2.data≠.cell v
 Aw:HE X.prog X.w H s.heap
 len:σ.length=X.N.length
section
variable {σ:List (Option V)}
def Cx.Ok.abp (ok:X.Ok)(e:X.base.get? b=some o):b∉X.fs:=λ hb=>by
 have:=(ok.N6.mem hb).1;rw[e] at this;cases this
def Inv.bs (I:Inv X pins σ H s):∀b o,X.base.get? b=some o->s.heap.get? b=some o/\H b=none:=λ b o e =>
 ⟨I.base.keep b o (I.ok.bs b o e).1 (I.ok.bs b o e).2 (I.ok.abp e) (I.ok.fD b o e),I.base.free b o (I.ok.bs b o e).1 (I.ok.bs b o e).2 (I.ok.fD b o e)⟩
def Inv.bk (I:Inv X pins σ H s):∀b o,X.base.get? b=some o->s.heap.get? b=some o:=λ b o e=>(I.bs b o e).1
def Inv.mod (I:Inv X pins σ H s):Mod X.K X.mg X.base:=I.ok.mod
def Inv.NU (I:Inv X pins σ H s):X.K.In s.heap:=I.ok.mod.Xi.keeps I.bk
def Inv.fr (I:Inv X pins σ H s):∃m,Fr X.base X.env.locals s.heap m:=
 let ⟨m,hn,_⟩:=I.loc
 ⟨m,hn,I.bk,zbv I.ok.mI I.ok.above⟩
def Inv.lt (I:Inv X pins σ H s):X.env.locals<s.heap.objs.size:=let ⟨_,hn,_⟩:=I.loc;hn.lt
def Inv.sz (I:Inv X pins σ H s):X.s₀.heap.objs.size<=s.heap.objs.size:=zbv I.ok.above (zbq I.lt)
def Inv.abq (I:Inv X pins σ H s)(h:s.heap.objs.size<=a):a∉X.fs:=λ hb=>by
 obtain⟨_,o,ho,_⟩:=I.ok.N6.mem hb;exact absurd (zan (zaj ho) (zbv I.sz h)) (Nat.lt_irrefl _)
def Inv.tM (I:Inv X pins σ H s):∀x c,X.env.cells.lookup x=some c->c≠X.env.locals:=λ x c e z=>by
 obtain⟨v,o,ho,hd⟩:=I.cell x c e;obtain⟨m,⟨o',es,ep,aJ,aZ,_⟩,_⟩:=I.loc;rw[z,aJ] at ho;cases ho;rw[aZ] at hd;cases hd
def Inv.N6 (I:Inv X pins σ H s):s.heap.FunFrames X.base X.outer:=by
 have all:∀(l:List Env),(∀b∈eV l,b∈X.fs)->X.s₀.heap.FunFrames X.base l->s.heap.FunFrames X.base l:=by
  intro l;induction l with
  |nil=>intro _ _;trivial
  |cons env r ih =>
   intro hs hl;obtain⟨hk,⟨L,o,hf,hn,ho,hd⟩,hr⟩:=hl;have hL:L∈X.fs:=hs L (by unfold eV;rw[zca,hf];exact za3);obtain⟨sl,e⟩:=I.base.slot L o ho (I.ok.tL L hL) hL λ z=>I.ok.fE L z hL;exact⟨hk,⟨L,_,hf,hn,e,hd⟩,ih (λ b hb=>hs b (by unfold eV;rw[zca,hf];exact za4 _ hb)) hr⟩
 exact all X.outer (λ _ hb=>hb) I.ok.N6
def Inv.stack (I:Inv X pins σ H s):s.heap.FunFrames X.base X.stack:=by
 rcases I.ok.stk with e|⟨e,hf⟩
 ·rw[e];exact I.N6
 ·rw[e];obtain⟨m,hn,_⟩:=I.loc;refine .cons (by rw[I.ok.kind];decide) hf hn ?_ I.N6;exact Heap.get?_none_of_le (zbv I.ok.mI I.ok.above)
def Inv.Xn (I:Inv X pins σ H s):∀b∈eV X.stack,b∈X.env.locals::X.fs:=λ b hb=>by
 rcases I.ok.stk with e|⟨e,hf⟩
 ·rw[e] at hb;exact za4 _ hb
 ·rw[e] at hb;unfold eV at hb;rw[zca,hf] at hb;exact hb
def Inv.YL (I:Inv X pins σ H s):∀b∈eV X.stack,H b=none:=λ b hb=>by
 rcases zac.mp (I.Xn b hb) with e|hb
 ·rw[e];exact I.free
 ·obtain⟨_,o,ho,_⟩:=I.ok.N6.mem hb;exact I.base.free b o ho (I.ok.tL b hb) λ z=>I.ok.fE b z hb
def Inv.step {ch:List Addr}(I:Inv X pins σ H s)(ba:∀b∈ch,(b∈X.ex\/X.s₀.heap.objs.size<=b)/\b≠X.env.locals/\(∀x c,X.env.cells.lookup x=some c->c≠b)/\∀p∈X.pn++pins,p.1≠b)(keep:∀b o,b≠X.env.locals->b∉X.fs->b∉ch->s.heap.get? b=some o->H b=none->h'.get? b=some o)(slot:∀b o,b≠X.env.locals->b∈X.fs->b∉ch->s.heap.get? b=some o->H b=none->∃sl,h'.get? b=some {o with slots:=sl})(free:∀b o,b∉ch->s.heap.get? b=some o->H b=none->H' b=none)(there:∀b o,b∉ch->s.heap.get? b=some o->∃o',h'.get? b=some o')(Sd:∀b xs,H b=some (.tup xs)->H' b=some (.tup xs))(Oy:∀b o u,H b=some (.HC o u)->H' b=some (.HC o u))(Se:∀b ps,H b=some (.tJ ps)->∃more,H' b=some (.tJ (ps++more)))(ns:∀m,s.heap.Ns X.env.locals m->h'.Ns X.env.locals m)(Aw:HE X.prog X.w H' h')(hg:AllBare g'):
 Inv X pins σ H' {s with heap:=h',gens:=g',drawn:=d',toks:=t' }:=by
 have u7:∀b o,X.s₀.heap.get? b=some o->b≠X.env.locals:=λ b o e=>zar (zan (zaj e) I.ok.above);have jc:∀b o,X.s₀.heap.get? b=some o->b∉X.ex->b∉ch:=λ b o e hx hb=>by
  rcases (ba b hb).1 with z|z
  ·exact hx z
  ·exact absurd (zan (zaj e) z) (Nat.lt_irrefl _)
 have cellK:∀x c,X.env.cells.lookup x=some c->∀v,s.heap.IsCell c v->h'.IsCell c v:=λ x c e v ⟨o,ho,hd⟩=>by
  have jo:c∉ch:=λ z=>(ba c z).2.2.1 x c e rfl;by_cases hc:c∈X.fs
  ·obtain⟨sl,q⟩:=slot c o (I.tM x c e) hc jo ho (I.Ga x c e);exact⟨_,q,hd⟩
  ·exact⟨o,keep c o (I.tM x c e) hc jo ho (I.Ga x c e),hd⟩
 refine⟨I.ok,I.os,hg,⟨λ b o e n hb hx=>?_,λ b o e n hb hx=>?_,λ b o e n hx=>?_,λ b o e hx=>?_,λ b xs e=>Sd b xs (I.base.Sd b xs e),λ b o xs e=>Oy b o xs (I.base.Oy b o xs e),λ b ps e=>?_⟩,?_,λ x c e=>?_,?_,λ x c e=>?_,λ p hp=>?_,Aw,I.len⟩
 ·exact keep b o (u7 b o e) hb (jc b o e hx) (I.base.keep b o e n hb hx) (I.base.free b o e n hx)
 ·obtain⟨sl,e1⟩:=I.base.slot b o e n hb hx;obtain⟨w6,e2⟩:=slot b _ (u7 b o e) hb (jc b o e hx) e1 (I.base.free b o e n hx);exact⟨w6,e2⟩
 ·obtain⟨o',e1⟩:=I.base.there b o e hx;exact free b o' (jc b o e hx) e1 (I.base.free b o e n hx)
 ·obtain⟨o',e1⟩:=I.base.there b o e hx;exact there b o' (jc b o e hx) e1
 ·obtain⟨m1,e1⟩:=I.base.Se b ps e;obtain⟨m2,e2⟩:=Se b _ e1;exact⟨m1++m2,by rw[e2,Array.append_assoc]⟩
 ·obtain⟨m,hn,hl⟩:=I.loc;refine⟨m,ns m hn,λ i x v e1 e2 e3=>?_⟩;obtain⟨u,r,l⟩:=hl i x v e1 e2 e3;refine⟨u,r,?_⟩;rcases l with l|⟨k,c,e,z⟩
  ·exact .inl l
  ·exact .inr ⟨k,c,e,cellK x c e _ z⟩
 ·obtain⟨v,z⟩:=I.cell x c e;exact⟨v,cellK x c e v z⟩
 ·obtain⟨m,⟨o,_,_,ho,_⟩,_⟩:=I.loc;exact free _ o (λ z=>(ba _ z).2.1 rfl) ho I.free
 ·obtain⟨v,o,ho,hd⟩:=I.cell x c e;exact free c o (λ z=>(ba c z).2.2.1 x c e rfl) ho (I.Ga x c e)
 ·obtain⟨e,n,ne,nf,d⟩:=I.pin p hp;have jo:p.1∉ch:=λ z=>(ba p.1 z).2.2.2 p hp rfl;exact⟨keep p.1 p.2 ne nf jo e n,free p.1 p.2 jo e n,ne,nf,d⟩
def Inv.un (I:Inv X pins σ H s)(u:Un X.fs [] H H' s.heap h')(Aw:HE X.prog X.w H' h'):Inv X pins σ H' {s with heap:=h',toks:=t' }:=by
 obtain⟨m,⟨o,es,ep,ho,r⟩,_⟩:=id I.loc;obtain⟨sl,hL⟩:=u.any ho I.free (by simp);exact I.step (g':=s.gens) (d':=s.drawn) (ch:=[]) (λ _ z=>nomatch z) (λ b o _ hb _ e n=>u.keep b o e n hb (by simp)) (λ b o _ hb _ e n=>u.slot b o e n hb (by simp)) (λ b o _ e n=>u.free b o e n (by simp)) (λ b o _ e=>u.there b o e (by simp)) u.Sd u.Oy u.Se (λ m' hm=>by
  obtain⟨o',pe,pf,aJ,r'⟩:=hm;rw[ho] at aJ;cases aJ;exact⟨_,pe,pf,hL,r'⟩) Aw I.bare
def Inv.call (I:Inv X pins σ H s)(u:Un (eV X.stack) ch H H' s.heap h')(Aw:HE X.prog X.w H' h')(hg:AllBare g')(ba:∀b∈ch,(b∈X.ex\/X.s₀.heap.objs.size<=b)/\b≠X.env.locals/\(∀x c,X.env.cells.lookup x=some c->c≠b)/\∀p∈X.pn++pins,p.1≠b):
 Inv X pins σ H' {s with heap:=h',gens:=g',drawn:=d',toks:=t' }:=by
 obtain⟨m,⟨o,es,ep,ho,r⟩,_⟩:=id I.loc;obtain⟨sl,hL⟩:=u.any ho I.free λ z=>(ba _ z).2.1 rfl;exact I.step (ch:=ch) ba (λ b o hL hb hc e n=>u.keep b o e n (λ z=>(zac.mp (I.Xn b z)).elim hL hb) hc) (λ b o _ _ hc e n=>u.any e n hc) (λ b o hc e n=>u.free b o e n hc) (λ b o hc e=>u.there b o e hc) u.Sd u.Oy u.Se (λ m' hm=>by
  obtain⟨o',pe,pf,aJ,r'⟩:=hm;rw[ho] at aJ;cases aJ;exact⟨_,pe,pf,hL,r'⟩) Aw hg
def Inv.turned (I:Inv X pins σ H s)(k:∀b o,b≠it->s.heap.get? b=some o->h'.get? b=some o)(hn:H it=none)(hL:it≠X.env.locals)(h1:it∈X.ex\/X.s₀.heap.objs.size<=it)(h2:∀x c,X.env.cells.lookup x=some c->c≠it)(h3:∀p∈X.pn++pins,p.1≠it):Inv X pins σ H {s with heap:=h',toks:=t' }:=by
 have u8:∀b u,H b=some u->b≠it:=λ b u e z=>by rw[z,hn] at e;cases e
 refine I.step (g':=s.gens) (d':=s.drawn) (ch:=[it]) (λ b hb=>?_) (λ b o _ _ hc e _=>k b o (λ z=>hc (by simp[z])) e) (λ b o _ _ hc e _=>⟨o.slots,k b o (λ z=>hc (by simp[z])) e⟩) (λ _ _ _ _ n=>n)
  (λ b o hc e=>⟨o,k b o (λ z=>hc (by simp[z])) e⟩) (λ _ _ e=>e) (λ _ _ _ e=>e) (λ b ps e=>⟨#[],by rw[e];simp⟩) (λ m hm=>?_) (λ b u e=>?_) I.bare
 ·have e:b=it:=by simpa using hb
  subst e;exact⟨h1,hL,h2,h3⟩
 ·obtain⟨o,es,ep,ho,r⟩:=hm;exact⟨o,es,ep,k _ o (zbm hL) ho,r⟩
 ·refine (I.Aw b u e).Sb (λ c v hc q=>k c v ?_ q) (λ _ q=>q) λ _ _ q=>q;rcases hc with z|z
  ·rw[z];exact u8 b u e
  ·exact u8 c _ z
def Inv.tok (I:Inv X pins σ H s)(t:Nat):Inv X pins σ H {s with toks:=t}:=I.un (h':=s.heap) (t':=t) Un.refl I.Aw
def Inv.kept (I:Inv X pins σ H s)(k:∀b u,s.heap.get? b=some u->h'.get? b=some u):Inv X pins σ H {s with heap:=h',toks:=t' }:=I.un (Un.kept k) (I.Aw.kept k)
def Inv.laid (I:Inv X pins σ H s)(k:∀b u,s.heap.get? b=some u->h'.get? b=some u)(hp:s.heap.objs.size<=a)(new:Bo X.prog X.w (upd H a o) h' a o):
 Inv X pins σ (upd H a o) {s with heap:=h',toks:=t' }:=I.un (Un.laid k hp (I.Aw.fresh hp)) (I.Aw.laid k hp new)
def Inv.write {e}(I:Inv X pins σ H s)(mu:yM (H x))(he:e=x\/H e=some (.own x))(k:∀b u,b≠e->s.heap.get? b=some u->h'.get? b=some u)(e8:∃u,h'.get? e=some u)(new:Bo X.prog X.w (upd H x o) h' x o):Inv X pins σ (upd H x o) {s with heap:=h',toks:=t' }:=I.un (Un.write mu he k e8) (I.Aw.write mu he k e8 new)
def Inv.weak (I:Inv X pins σ H s)(hl:σ'.length=σ.length)(w:∀(i:Nat) v,σ'[i]?=some (some v)->σ[i]?=some (some v)):Inv X pins σ' H s:=
 ⟨I.ok,I.os,I.bare,I.base,let ⟨m,hn,jp⟩:=I.loc;⟨m,hn,λ i x v e1 e2 e3=>jp i x v e1 (w i v e2) e3⟩,I.cell,I.free,I.Ga,I.pin,I.Aw,hl.trans I.len⟩
def Inv.L9 (I:Inv X pins σ H s)(h:∀p∈e9,s.heap.get? p.1=some p.2/\H p.1=none/\p.1≠X.env.locals/\p.1∉X.fs/\∀v,p.2.data≠.cell v):Inv X e9 σ H s:=
 ⟨I.ok,I.os,I.bare,I.base,I.loc,I.cell,I.free,I.Ga,λ p hp=>(zal.mp hp).elim (λ z=>I.pin p (zb4 _ z)) (h p),I.Aw,I.len⟩
def Vn {N:List Str}(hN:N.Nodup){i:Nat}(a:N[i]?=some x)(b:N[j]?=some x):i=j:=by
 obtain⟨h1,e1⟩:=zaf.mp a;obtain⟨h2,e2⟩:=zaf.mp b;exact (List.getElem_inj hN).mp (e1.trans e2.symm)
def SO (I:Inv X pins σ H s)(hN:X.N.Nodup)(hi:X.N[i]?=some x)(hx:Loc X.env.scope x)(r:RelV v u)(h:∀s',Inv X pins (σ.set i (some v)) H s'->(∃a,Heap.SameBut a s.heap s'.heap/\(a=X.env.locals\/X.env.cells.lookup x=some a))->Q () s')(hf:X.fn x=true\/X.env.scope.names.lookup x=some .local:=by first|exact .inl rfl|exact .inr rfl|assumption):wpAny M A (storeName X.env x u) Q E s:=by
 obtain⟨m,hn,hl⟩:=id I.loc;have ph:(X.env.scope.kind==.class||(X.env.scope.kind==.module&&X.env.locals != X.env.globals))=false:=by rw[I.ok.kind];rfl
 have hiσ:i<σ.length:=by rw[I.len];exact (zaf.mp hi).1
 have tM:=I.tM;have tracked:∀ {a:Addr} {h':Heap},(∃o,s.heap.get? a=some o/\H a=none)->Heap.SameBut a s.heap h'->HE X.prog X.w H h':=fun {a h'} ha hs b ob e=>by
  obtain⟨_,_,fc⟩:=ha;refine (I.Aw b ob e).Sb (λ c w' hc q=>(hs.2 c ?_).trans q) (λ _ q=>q) λ _ _ q=>q;rintro rfl;rcases hc with rfl|hc
  ·rw[fc] at e;cases e
  ·rw[fc] at hc;cases hc
 rcases hx with hk|hk
 ·refine wpAny_storeName_local hk hn (λ h' aS hs=>?_) ph;obtain⟨oL,_,_,w9,_⟩:=id hn;refine h _ ⟨I.ok,I.os,I.bare,⟨λ b o e n hb hx=>?_,λ b o e n hb hx=>?_,I.base.free,λ b o e hx=>?_,I.base.Sd,I.base.Oy,I.base.Se⟩,⟨_,aS,λ j y v' e1 e2 e3=>?_⟩,λ y c e=>?_,I.free,I.Ga,λ p hp=>?_,tracked ⟨oL,w9,I.free⟩ hs,by simpa using I.len⟩ ⟨_,hs,.inl rfl⟩
  ·exact (hs.2 b (zar (zan (zaj e) I.ok.above))).trans (I.base.keep b o e n hb hx)
  ·obtain⟨sl,e1⟩:=I.base.slot b o e n hb hx;exact⟨sl,(hs.2 b (zar (zan (zaj e) I.ok.above))).trans e1⟩
  ·obtain⟨o',e1⟩:=I.base.there b o e hx;exact⟨o',(hs.2 b (zar (zan (zaj e) I.ok.above))).trans e1⟩
  ·by_cases hj:j=i
   ·subst hj;rw[hi] at e1;cases e1;rw[zb5 hiσ] at e2;cases e2;exact⟨u,r,.inl ⟨hk,by simp⟩⟩
   ·rw[zbu (zbm hj)] at e2;obtain⟨u',r',q⟩:=hl j y v' e1 e2 e3;refine⟨u',r',?_⟩;rcases q with ⟨k,e⟩|⟨k,c,e,z⟩
    ·refine .inl ⟨k,?_⟩;have:y≠x:=λ e=>hj (Vn hN e1 (e▸hi));simp[this,e]
    ·exact .inr ⟨k,c,e,z.sameBut hs (tM y c e)⟩
  ·obtain⟨w',z⟩:=I.cell y c e;exact⟨w',z.sameBut hs (tM y c e)⟩
  ·obtain⟨e,n,ne,nf,d⟩:=I.pin p hp;exact⟨(hs.2 p.1 ne).trans e,n,ne,nf,d⟩
 ·have pi:X.fn x=true:=by
   rcases hf with z|z
   ·exact z
   ·rw[z] at hk;cases hk
  obtain⟨c,hc⟩:=I.ok.has x (.inl hk);obtain⟨w',z⟩:=I.cell x c hc;refine wpAny_storeName_cell I.ok.kind hk hc z (λ h' bw hs=>?_);obtain⟨oc,u9,pj⟩:=id z;refine h {s with heap:=h' } ⟨I.ok,I.os,I.bare,⟨λ b o e n hb hx=>?_,λ b o e n hb hx=>?_,I.base.free,λ b o e hx=>?_,I.base.Sd,I.base.Oy,I.base.Se⟩,⟨m,hn.sameBut hs (zbm (tM x c hc)),λ j y v' e1 e2 e3=>?_⟩,λ y c' e=>?_,I.free,I.Ga,λ p hp=>?_,tracked ⟨oc,u9,I.Ga x c hc⟩ hs,by simpa using I.len⟩ ⟨c,hs,.inr hc⟩
  ·exact (hs.2 b (zar (zan (zaj e) (I.ok.yN x c pi hc)))).trans (I.base.keep b o e n hb hx)
  ·obtain⟨sl,e1⟩:=I.base.slot b o e n hb hx;exact⟨sl,(hs.2 b (zar (zan (zaj e) (I.ok.yN x c pi hc)))).trans e1⟩
  ·obtain⟨o',e1⟩:=I.base.there b o e hx;exact⟨o',(hs.2 b (zar (zan (zaj e) (I.ok.yN x c pi hc)))).trans e1⟩
  ·by_cases hj:j=i
   ·subst hj;rw[hi] at e1;cases e1;rw[zb5 hiσ] at e2;cases e2;exact⟨u,r,.inr ⟨.inl hk,c,hc,bw⟩⟩
   ·rw[zbu (zbm hj)] at e2;obtain⟨u',r',q⟩:=hl j y v' e1 e2 e3;refine⟨u',r',?_⟩;rcases q with q|⟨k,c',e,z'⟩
    ·exact .inl q
    ·refine .inr ⟨k,c',e,z'.sameBut hs ?_⟩;rintro rfl;exact hj (Vn hN e1 (I.ok.inj _ _ _ e hc▸hi))
  ·by_cases ng:c'=c
   ·subst ng;exact⟨_,bw⟩
   ·obtain⟨w2,z2⟩:=I.cell y c' e;exact⟨w2,z2.sameBut hs ng⟩
  ·obtain⟨e,n,ne,nf,d⟩:=I.pin p hp;refine⟨(hs.2 p.1 ?_).trans e,n,ne,nf,d⟩;intro q;rw[q,u9] at e;have q':oc=p.2:=zao e;exact d w' (by rw[<-q'];exact pj)
def Vo (I:Inv X pins σ H s)(hN:X.N.Nodup)(hi:X.N[i]?=some x)(hx:Loc X.env.scope x)(r:RelV v u)(h:∀s',Inv X pins (σ.set i (some v)) H s'->Q () s')(hf:X.fn x=true\/X.env.scope.names.lookup x=some .local:=by first|exact .inl rfl|exact .inr rfl|assumption):wpAny M A (storeName X.env x u) Q E s:=
 SO I hN hi hx r (λ s' I' _=>h s' I') hf
def Inv.yO (I:Inv X pins σ H s)(ho:s'.os=s.os)(u:Un (eV X.stack) ch H H' s.heap s'.heap)(Aw:HE X.prog X.w H' s'.heap)(hg:AllBare s'.gens)(ba:∀b∈ch,(b∈X.ex\/X.s₀.heap.objs.size<=b)/\b≠X.env.locals/\(∀x c,X.env.cells.lookup x=some c->c≠b)/\∀p∈X.pn++pins,p.1≠b):Inv X pins σ H' s':=by
 obtain⟨h',g',d',t',o'⟩:=s';have e:o'=s.os:=ho;subst e;exact I.call (g':=g') (t':=t') (d':=d') u Aw hg ba
end
noncomputable abbrev XK:=Value->Option Addr->Hp->Prop
noncomputable abbrev St:=List (Option V)
variable {σ:St}
noncomputable abbrev VK:=V->Hp->Prop
noncomputable abbrev TE:=St->Hp->VK->Prop
variable {ta te:TE}
noncomputable abbrev TT:=St->Hp->(Bool->Hp->Prop)->Prop
noncomputable abbrev TA:=St->Hp->(List V->Hp->Prop)->Prop
structure Ends where
 nx:St->Hp->Prop
 rt:VK
 bk:St->Hp->Prop:=λ _ _=>False
 ct:St->Hp->Prop:=λ _ _=>False
noncomputable abbrev TS:=Ends->St->Hp->Prop
abbrev EP (X:Cx)(pins:List (Addr×Obj))(σ:St)(Q:VK)(u:Value)(s':Shared):Prop:=∃v H',Inv X pins σ H' s'/\RelV v u/\Q v H'
abbrev TP (X:Cx)(pins:List (Addr×Obj))(σ:St)(Q:Bool->Hp->Prop)(b:Bool)(s':Shared):Prop:=∃H',Inv X pins σ H' s'/\Q b H'
abbrev AP (X:Cx)(pins:List (Addr×Obj))(σ:St)(Q:List V->Hp->Prop)(us:List Value)(s':Shared):Prop:=∃vs H',Inv X pins σ H' s'/\Vals vs us/\Q vs H'
abbrev SP (X:Cx)(pins:List (Addr×Obj))(D:Ends)(f:Flow)(s':Shared):Prop:=
 match f with
 | .next=>∃σ' H',Inv X pins σ' H' s'/\D.nx σ' H'
 | .brk=>∃σ' H',Inv X pins σ' H' s'/\D.bk σ' H'
 | .cont=>∃σ' H',Inv X pins σ' H' s'/\D.ct σ' H'
 | .ret u=>∃v σ' H',Inv X pins σ' H' s'/\RelV v u/\D.rt v H'
abbrev PE (X:Cx)(e:Expr)(t:TE):Prop:=
 ∀(pins:List (Addr×Obj)) (s:Shared) (σ:St) (H:Hp) (Q:VK),Inv X pins σ H s->t σ H Q->wpAny (model X.prog X.w) X.A (eval e X.env) (EP X pins σ Q) X.xe s
abbrev PT (X:Cx)(e:Expr)(t:TT):Prop:=
 ∀(pins:List (Addr×Obj)) (s:Shared) (σ:St) (H:Hp) (Q:Bool->Hp->Prop),Inv X pins σ H s->t σ H Q->wpAny (model X.prog X.w) X.A (isTrue e X.env (eval e X.env)) (TP X pins σ Q) X.xe s
abbrev PW (X:Cx)(e:Expr)(t:TT):Prop:=
 ∀(whole:Sem Value) (pins:List (Addr×Obj)) (s:Shared) (σ:St) (H:Hp) (Q:Bool->Hp->Prop),Inv X pins σ H s->t σ H Q->wpAny (model X.prog X.w) X.A (isTrue e X.env whole) (TP X pins σ Q) X.xe s
def PW.pt (h:PW X e t):PT X e t:=h _
abbrev PA (X:Cx)(es:List Expr)(t:TA):Prop:=
 ∀(pos:Pos) (pins:List (Addr×Obj)) (s:Shared) (σ:St) (H:Hp) (Q:List V->Hp->Prop),Inv X pins σ H s->t σ H Q->wpAny (model X.prog X.w) X.A (spliced (backTo pos (starEach es X.env))) (AP X pins σ Q) X.xe s
abbrev PS (X:Cx)(st:Stmt)(t:TS):Prop:=
 ∀(pins:List (Addr×Obj)) (s:Shared) (σ:St) (H:Hp) (D:Ends),Inv X pins σ H s->t D σ H->wpAny (model X.prog X.w) X.A (exec st X.env) (SP X pins D) X.xe s
abbrev YM (X:Cx)(st:List Stmt)(t:TS):Prop:=
 ∀(pins:List (Addr×Obj)) (s:Shared) (σ:St) (H:Hp) (D:Ends),Inv X pins σ H s->t D σ H->wpAny (model X.prog X.w) X.A (execs st X.env) (SP X pins D) X.xe s
def B9 {α:Type}{t:Sem α}{Q Q'}(h:wpAny M A t Q E s)(hQ:∀a s,Q a s->Q' a s):wpAny M A t Q' E s:=wpAny_mono h hQ λ _ _ x=>x
section
def bin (ha:PE X a ta)(hb:PE X b tb){R:V->V->Hp->Prop}(I:Inv X pins σ H s)(h:ta σ H λ x H1=>tb σ H1 λ y H2=>R x y H2){α:Type}{Q}{f:Value->Value->Sem α}(hf:∀v u s2 x y H2,Inv X pins σ H2 s2->RelV x v->RelV y u->R x y H2->wpAny (model X.prog X.w) X.A (f v u) Q X.xe s2):
 wpAny (model X.prog X.w) X.A (eval a X.env) (λ v s₁=>wpAny (model X.prog X.w) X.A (eval b X.env) (λ u s₂=>wpAny (model X.prog X.w) X.A (f v u) Q X.xe s₂) X.xe s₁) X.xe s:=by
 refine B9 (ha pins s σ H _ I h) λ v s1 zz=>?_;obtain⟨x,H1,I1,r1,q1⟩:=zz;refine B9 (hb pins s1 σ H1 _ I1 q1) λ u s2 zz=>?_;obtain⟨y,H2,I2,r2,q2⟩:=zz;exact hf v u s2 x y H2 I2 r1 r2 q2
abbrev Sf (i:Nat):TE:=λ σ H Q=>∃v,σ[i]?=some (some v)/\Q v H
abbrev tC (v:V):TE:=λ _ H Q=>Q v H
def tN (hN:X.N[i]?=some x)(hv:Vis X.env.scope x)(hd:(x==("__debug__" : Str))=false:=by decide)(aQ:(x==("__classdict__" : Str))=false:=by decide):PE X (.Name x pos) (Sf i):=by
 intro pins s σ H Q I h;obtain⟨v,e,h⟩:=h;obtain⟨m,hn,hl⟩:=I.loc;obtain⟨u,r,l⟩:=hl i x v hN e hv;have fin:EP X pins σ Q u s:=⟨v,H,I,r,h⟩;rcases l with ⟨hk,hm⟩|⟨hk,c,hc,ff⟩
 ·exact wpAny_Name (wpAny_loadName_local I.ok.kind hk hn hm fin) hd
 ·rcases hk with hk|hk
  ·exact wpAny_Name (wpAny_loadName_cell I.ok.kind hk hc ff fin) hd
  ·exact wpAny_Name (wpAny_loadName_free I.ok.kind hk hc ff fin aQ) hd
def tO {i j pos}:PE X (.Constant (.int i) j pos) (tC (.int i)):=λ _ _ _ H _ I h=>wpAny_Constant_int ⟨.int i,H,I.tok _,⟨_,rfl⟩,h⟩
def yP {b j pos}:PE X (.Constant (.bool b) j pos) (tC (.bl b)):=λ _ _ _ H _ I h=>Constant_bool ⟨.bl b,H,I,rfl,h⟩
def tP {j pos}:PE X (.Constant .none j pos) (tC .Av):=λ _ _ _ H _ I h=>Constant_none ⟨.Av,H,I,rfl,h⟩
abbrev Gl (X:Cx)(x:Str):Prop:=X.env.kindOf x=some .globalImplicit
def U8 (I:Inv X pins σ H s)(hg:Gl X x)(hm:X.mg x=some u)(h:Q u s)(hd:(x==("__debug__" : Str))=false:=by decide):wpAny (model X.prog X.w) X.A (eval (.Name x pos) X.env) Q E s:=
 Calls.Name_function_global I.ok.kind hg (Calls.loadGlobal_global (by rw[I.ok.glob];exact I.mod.glob.keeps I.bk) hm h) hd
def Ei (I:Inv X pins σ H s)(hg:Gl X x)(hm:X.mg x=none)(hv:bootBuiltins x=some u)(h:Q u s)(hn:x ≠ "__name__" := by decide)(hd:(x==("__debug__" : Str))=false:=by decide):wpAny (model X.prog X.w) X.A (eval (.Name x pos) X.env) Q E s:=by
 obtain⟨mb,h1,h2⟩:=I.mod.blt;exact Calls.Name_function_global I.ok.kind hg (Calls.loadGlobal_builtin (by rw[I.ok.glob];exact I.mod.glob.keeps I.bk) hm (by rw[I.ok.blt];exact h1.keeps I.bk) ((h2 x hn).trans hv) h) hd
def mJ (hg:Gl X x)(hm:X.mg x=none)(hv:bootBuiltins x=some u)(r:RelV v u)(hn:x ≠ "__name__" := by decide)(hd:(x==("__debug__" : Str))=false:=by decide):PE X (.Name x pos) (tC v):=
 λ _ _ _ H _ I h=>Ei I hg hm hv ⟨v,H,I,r,h⟩ hn hd
variable {a b:Expr}{tb:TE}
abbrev PC (X:Cx)(op:CmpOp)(a b:Expr)(t:TE):Prop:=
 ∀(pins:List (Addr×Obj)) (s:Shared) (σ:St) (H:Hp) (Q:VK),Inv X pins σ H s->t σ H Q->
  wpAny (model X.prog X.w) X.A (eval a X.env) (λ v s₁=>wpAny (model X.prog X.w) X.A (eval b X.env) (λ u s₂=>wpAny (model X.prog X.w) X.A (compareOp op v u) (EP X pins σ Q) X.xe s₂) X.xe s₁) X.xe s
def Vp (b:Expr)(h:op≠.In)(h2:op≠.NotIn):behindInMarks op b=false:=by
 have e1:(op==CmpOp.In)=false:=by cases op<;>first|rfl|exact absurd rfl h
 have e2:(op==CmpOp.NotIn)=false:=by cases op<;>first|rfl|exact absurd rfl h2
 cases b<;>simp[behindInMarks,e1,e2]
abbrev abr (ta:TE):TE:=λ σ H Q=>ta σ H λ x H1=>Q (.bl (decide (x=.Av))) H1
abbrev yQ (ta:TE):TE:=λ σ H Q=>ta σ H λ x H1=>Q (.bl (!decide (x=.Av))) H1
def RelV.Vq (r:RelV x v):(v==Value.none)=decide (x=.Av):=by
 cases x with
 |Av|bl _=>cases r;rfl
 |int _|str _|tI _|yK _=>obtain⟨t,rfl⟩:=r;rfl
 |ref _|ty _=>cases r;rfl
def fF {j pos'}(ha:PE X a ta):PC X .Is a (.Constant .none j pos') (abr ta):=by
 intro pins s σ H Q I h;refine B9 (ha pins s σ H _ I h) λ v s1 zz=>?_;obtain⟨x,H1,I1,r1,q1⟩:=zz;exact Constant_none (is_none_gen ⟨.bl _,H1,I1,by rw[r1.Vq];rfl,q1⟩)
def YN {j pos'}(ha:PE X a ta):PC X .IsNot a (.Constant .none j pos') (yQ ta):=by
 intro pins s σ H Q I h;refine B9 (ha pins s σ H _ I h) λ v s1 zz=>?_;obtain⟨x,H1,I1,r1,q1⟩:=zz;exact Constant_none (isnot_none_gen ⟨.bl _,H1,I1,by rw[r1.Vq];rfl,q1⟩)
abbrev tB (t:TE):TT:=λ σ H Q=>t σ H λ x H1=>∃c,x=.bl c/\Q c H1
def fG (h:PC X op a b t)(h1:behindInMarks op b=false:=by first | exact Vp _ (by decide) (by decide) | rfl):PE X (.Compare a [op] [b] pos) t:=λ pins s σ H Q I hw=>wpAny_Compare1 (h pins s σ H Q I hw) h1
def fH (h:PC X op a b t)(h1:behindInMarks op b=false:=by first | exact Vp _ (by decide) (by decide) | rfl):PT X (.Compare a [op] [b] pos) (tB t):=by
 intro pins s σ H Q I hw;refine wpAny_isTrue_Compare1 (B9 (h pins s σ H _ I hw) λ v s1 h1=>B9 h1 λ u s2 h2=>B9 h2 λ c s3 zz=>?_) h1;obtain⟨x,H1,I1,r1,q1⟩:=zz;obtain⟨d,rfl,q⟩:=q1;cases r1;exact wpAny_truthy_bool ⟨H1,I1,q⟩
variable {tA nh:TT}{rest:List Expr}
abbrev abt (t u:TT):TT:=λ σ H Q=>t σ H λ c H1=>if c=true then u σ H1 Q else Q false H1
abbrev tOr (t u:TT):TT:=λ σ H Q=>t σ H λ c H1=>if c=true then Q true H1 else u σ H1 Q
abbrev abu (t:TT):TT:=λ σ H Q=>t σ H λ c H1=>Q (!c) H1
def pw_and1 (ha:PT X a tA):PW X (.BoolOp .And [a] pos) tA:=by
 intro wh pins s σ H Q I h;refine isTrue_and (B9 (ha pins s σ H Q I h) λ c s1 e=>?_);cases c with
 |true=>exact isTrue_and_nil e
 |false=>exact e
def pw_or1 (ha:PT X a tA):PW X (.BoolOp .Or [a] pos) tA:=by
 intro wh pins s σ H Q I h;refine isTrue_or (B9 (ha pins s σ H Q I h) λ c s1 e=>?_);cases c with
 |false=>exact isTrue_or_nil e
 |true=>exact e
def pw_and (ha:PT X a tA)(hb:PW X (.BoolOp .And (b::rest) pos) nh):PW X (.BoolOp .And (a::b::rest) pos) (abt tA nh):=by
 intro wh pins s σ H Q I h;refine isTrue_and (B9 (ha pins s σ H _ I h) λ c s1 zz=>?_);obtain⟨H1,I1,q1⟩:=zz;cases c with
 |true=>exact hb wh pins s1 σ H1 Q I1 q1
 |false=>exact⟨H1,I1,q1⟩
def pw_or (ha:PT X a tA)(hb:PW X (.BoolOp .Or (b::rest) pos) nh):PW X (.BoolOp .Or (a::b::rest) pos) (tOr tA nh):=by
 intro wh pins s σ H Q I h;refine isTrue_or (B9 (ha pins s σ H _ I h) λ c s1 zz=>?_);obtain⟨H1,I1,q1⟩:=zz;cases c with
 |true=>exact⟨H1,I1,q1⟩
 |false=>exact hb wh pins s1 σ H1 Q I1 q1
def tQ (ha:PT X a tA):PT X (.UnaryOp .Not a pos) (abu tA):=by
 intro pins s σ H Q I h;exact isTrue_not (ha pins s σ H (λ c H1=>Q (!c) H1) I h)
abbrev yR (ta tb:TE):TE:=λ σ H Q=>ta σ H λ x H1=>∃c,x=.bl c/\if c=true then tb σ H1 Q else Q (.bl false) H1
abbrev abv (ta tb:TE):TE:=λ σ H Q=>ta σ H λ x H1=>∃c,x=.bl c/\if c=true then Q (.bl true) H1 else tb σ H1 Q
abbrev yS (ta:TE):TE:=λ σ H Q=>ta σ H λ x H1=>∃c,x=.bl c/\Q (.bl (!c)) H1
def tR {op}(h:PE X a t):PE X (.BoolOp op [a] pos) t:=λ pins s σ H Q I hw=>BoolOp_one (h pins s σ H Q I hw)
def tS (ha:PE X a ta)(hb:PE X (.BoolOp .And (b::rest) pos) tb):PE X (.BoolOp .And (a::b::rest) pos) (yR ta tb):=by
 intro pins s σ H Q I h;refine BoolOp_and (B9 (ha pins s σ H _ I h) λ v s1 zz=>?_);obtain⟨x,H1,I1,r1,q1⟩:=zz;obtain⟨c,rfl,q1⟩:=q1;cases r1;refine wpAny_truthy_bool ?_;cases c with
 |true=>exact hb pins s1 σ H1 Q I1 q1
 |false=>exact⟨.bl false,H1,I1,rfl,q1⟩
def yT (ha:PE X a ta)(hb:PE X (.BoolOp .Or (b::rest) pos) tb):PE X (.BoolOp .Or (a::b::rest) pos) (abv ta tb):=by
 intro pins s σ H Q I h;refine BoolOp_or (B9 (ha pins s σ H _ I h) λ v s1 zz=>?_);obtain⟨x,H1,I1,r1,q1⟩:=zz;obtain⟨c,rfl,q1⟩:=q1;cases r1;refine wpAny_truthy_bool ?_;cases c with
 |false=>exact hb pins s1 σ H1 Q I1 q1
 |true=>exact⟨.bl true,H1,I1,rfl,q1⟩
def tT (ha:PE X a ta):PE X (.UnaryOp .Not a pos) (yS ta):=by
 intro pins s σ H Q I h;refine UnaryOp_ (B9 (ha pins s σ H _ I h) λ v s1 zz=>?_);obtain⟨x,H1,I1,r1,q1⟩:=zz;obtain⟨c,rfl,q1⟩:=q1;cases r1;exact not_of (wpAny_truthy_bool ⟨.bl (!c),H1,I1,rfl,q1⟩)
end
abbrev DU (K:za1)(H:Hp)(a:Addr)(xs:List V):Prop:=
 Rd H a (.lst xs) \/
  ∃(o:Obj) (aa:Array Value) (n:Nat),K.lookup a=some o/\o.cls=.type "list" /\ o.dict=none/\o.data=.seq aa n/\aa.size<=sizeLine/\Vals xs aa.toList
abbrev FE (K:za1)(H:Hp)(a:Addr)(xs:List V):Prop:=
 Rd H a (.tup xs) \/
  ∃(o:Obj) (aa:Array Value) (n:Nat),K.lookup a=some o/\o.cls=.type "tuple" /\ o.data=.seq aa n/\aa.size<=sizeLine/\Vals xs aa.toList
abbrev abw:Value->Option V
 | .none=>some .Av
 | .bool b=>some (.bl b)
 | .int i _=>some (.int i)
 | .str x _=>some (.str x)
 | .bytes b _=>some (.tI b)
 | .float b _=>some (.yK b)
 | .ref a=>some (.ref a)
 | .type n=>some (.ty n)
 |_=>none
def RelV.abs (r:RelV x u):abw u=some x:=by
 cases x with
 |Av|bl _=>cases r;rfl
 |int _|str _|tI _|yK _=>obtain⟨t,rfl⟩:=r;rfl
 |ref _|ty _=>cases r;rfl
def RelV.inj (r:RelV x u)(q:RelV y u):x=y:=zao (r.abs.symm.trans q.abs)
def Vals.inj:∀ {xs ys:List V}{us:List Value},Vals xs us->Vals ys us->xs=ys
 |_,_,_,.nil,.nil=>rfl
 |_,_,_,.cons r t,.cons r' t'=>by rw[r.inj r',Vals.inj t t']
section
variable {a:Addr}{xs ys:List V}
def DU.of {K}(h:H a=some (.lst xs)):DU K H a xs:=.inl (.inl h)
def FE.of {K}(h:H a=some (.tup xs)):FE K H a xs:=.inl (.inl h)
def Inv.list (I:Inv X pins σ H s)(h:DU X.K H a xs):∃aa:List Value,Vals xs aa/\PlainL s.heap a aa.toArray/\xs.length<=sizeLine:=by
 rcases h with h|⟨o,aa,n,hk,hc,hd,hs,hz,r⟩
 ·obtain⟨z,aa,n,r,e⟩:=h.ok I.Aw;exact⟨aa,r,⟨_,n,e,rfl,rfl,rfl⟩,z⟩
 ·refine⟨aa.toList,r,⟨o,n,I.NU a o hk,hc,hd,by simpa using hs⟩,?_⟩;have e:=r.length;simp only[zde] at e;omega
def Inv.tuple (I:Inv X pins σ H s)(h:FE X.K H a xs):∃aa:List Value,Vals xs aa/\IsTup s.heap a aa.toArray/\xs.length<=sizeLine:=by
 rcases h with h|⟨o,aa,n,hk,hc,hs,hz,r⟩
 ·obtain⟨z,aa,r,p⟩:=h.ok I.Aw;exact⟨aa,r,p,z⟩
 ·refine⟨aa.toList,r,⟨o,I.NU a o hk,hc,n,by simpa using hs⟩,?_⟩;have e:=r.length;simp only[zde] at e;omega
def Inv.Ii (I:Inv X pins σ H s)(h:DU X.K H a xs)(h':DU X.K H a ys):xs=ys:=by
 obtain⟨aa,r,⟨o,n,e,_,_,d⟩,_⟩:=I.list h;obtain⟨its',r',⟨o',n',e',_,_,d'⟩,_⟩:=I.list h';rw[e] at e';cases e';rw[d] at d';injection d' with d1 _
 have:aa=its':=by simpa using congrArg Array.toList d1
 subst this;exact r.inj r'
def Inv.Gb (I:Inv X pins σ H s)(h:FE X.K H a xs)(h':FE X.K H a ys):xs=ys:=by
 obtain⟨aa,r,⟨o,e,_,n,d⟩,_⟩:=I.tuple h;obtain⟨its',r',⟨o',e',_,n',d'⟩,_⟩:=I.tuple h';rw[e] at e';cases e';rw[d] at d';injection d' with d1 _
 have:aa=its':=by simpa using congrArg Array.toList d1
 subst this;exact r.inj r'
end
noncomputable abbrev Cx.Sg (X:Cx)(E:Value->Shared->Prop):Cx:={X with xe:=E}
noncomputable abbrev Cx.yU (X:Cx):Cx:=X.Sg λ _ _=>False
def Cx.Ok.Sg (ok:X.Ok)(E:Value->Shared->Prop):(X.Sg E).Ok:=
 ⟨ok.mod,ok.kind,ok.glob,ok.blt,ok.above,ok.inj,ok.has,ok.yN,ok.hd,ok.frames,ok.stk,ok.exf,ok.bs,ok.mI,ok.fD,ok.fE,ok.N6,ok.tL⟩
def Cx.Ok.Ij (ok:(X.Sg E).Ok):X.Ok:=
 ⟨ok.mod,ok.kind,ok.glob,ok.blt,ok.above,ok.inj,ok.has,ok.yN,ok.hd,ok.frames,ok.stk,ok.exf,ok.bs,ok.mI,ok.fD,ok.fE,ok.N6,ok.tL⟩
def Inv.Sg (I:Inv X pins σ H s)(E:Value->Shared->Prop):Inv (X.Sg E) pins σ H s:=⟨I.ok.Sg E,I.os,I.bare,I.base,I.loc,I.cell,I.free,I.Ga,I.pin,I.Aw,I.len⟩
def Inv.Ij (I:Inv (X.Sg E) pins σ H s):Inv X pins σ H s:=⟨I.ok.Ij,I.os,I.bare,I.base,I.loc,I.cell,I.free,I.Ga,I.pin,I.Aw,I.len⟩
def SP.Ij (h:SP (X.Sg E) pins D f s'):SP X pins D f s':=by
 cases f with
 |next|brk|cont=>obtain⟨σ',H',I,q⟩:=h;exact⟨σ',H',I.Ij,q⟩
 |ret u=>obtain⟨v,σ',H',I,r,q⟩:=h;exact⟨v,σ',H',I.Ij,r,q⟩
def YM.yU {st}(h:YM X.yU st t):YM X st t:=λ pins s σ H D I hw =>
 wpAny_mono (h pins s σ H D (I.Sg _) hw) (λ _ _ q=>q.Ij) λ _ _ z=>zce z
section
variable {st:Stmt}{rest:List Stmt}{t u:TS}
abbrev yV:TS:=λ D σ H=>D.nx σ H
abbrev abx (t u:TS):TS:=λ D σ H=>t {D with nx:=u D} σ H
def mK:YM X [] yV:=λ _ _ σ H _ I h=>wpAny_execs_nil ⟨σ,H,I,h⟩
def fI (h1:PS X st t)(h2:YM X rest u):YM X (st::rest) (abx t u):=by
 intro pins s σ H D I h;refine wpAny_execs_cons (B9 (h1 pins s σ H {D with nx:=u D} I h) λ f s1 q=>?_);cases f with
 |next =>
  obtain⟨σ',H',I',q⟩:=q;exact h2 pins s1 σ' H' D I' q
 |ret v|brk|cont=>exact q
def mL (h1:PS X st t):YM X [st] t:=by
 intro pins s σ H D I h;refine wpAny_execs_cons (B9 (h1 pins s σ H D I h) λ f s1 q=>?_);cases f with
 |next=>exact wpAny_execs_nil q
 |ret v|brk|cont=>exact q
def Inv.quiet (I:Inv X pins σ H s):interactive X.env=false:=by simp[interactive,I.ok.kind]
abbrev yW (te:TE):TS:=λ D σ H=>te σ H λ _ H1=>D.nx σ H1
def FF (he:PE X e te)(hs: ~~~(swapsWith e none pos.line X.env=pure false)):PS X (.Expr e pos) (yW te):=by
 intro pins s σ H D I h;exact wpAny_Expr_any (B9 (he pins s σ H _ I h) λ v s1 ⟨x,H1,I1,r1,q1⟩=>⟨σ,H1,I1,q1⟩) I.quiet hs
abbrev aby (te:TE):TS:=λ D σ H=>te σ H D.rt
def U9 (he:PE X e te):PS X (.Return (some e) pos) (aby te):=by
 intro pins s σ H D I h;exact wpAny_Return_some (B9 (he pins s σ H _ I h) λ v s1 ⟨x,H1,I1,r1,q1⟩=>⟨x,σ,H1,I1,r1,q1⟩)
abbrev abz (c:TT)(t u:TS):TS:=λ D σ H=>c σ H λ b H1=>if b=true then t D σ H1 else u D σ H1
def yX (hc:PT X c tc)(ha:YM X a t)(hb:YM X b u):PS X (.If c a b pos) (abz tc t u):=by
 intro pins s σ H D I h;refine wpAny_If (B9 (hc pins s σ H _ I h) λ d s1 zz=>?_);obtain⟨H1,I1,q1⟩:=zz;cases d with
 |true=>exact ha pins s1 σ H1 D I1 q1
 |false=>exact hb pins s1 σ H1 D I1 q1
end
noncomputable abbrev TG:=V->St->Hp->(St->Hp->Prop)->Prop
noncomputable abbrev eW:=List V->St->Hp->(St->Hp->Prop)->Prop
abbrev PG (X:Cx)(target:Expr)(t:TG):Prop:=
 ∀(pins:List (Addr×Obj)) (s:Shared) (σ:St) (H:Hp) (v:V) (u:Value) (Q:St->Hp->Prop),Inv X pins σ H s->RelV v u->t v σ H Q->
  wpAny (model X.prog X.w) X.A (assign target X.env u) (λ _ s'=>∃σ' H',Inv X pins σ' H' s'/\Q σ' H') X.xe s
abbrev xX (X:Cx)(ts:List Expr)(t:eW):Prop:=
 ∀(pins:List (Addr×Obj)) (s:Shared) (σ:St) (H:Hp) (vs:List V) (us:List Value) (Q:St->Hp->Prop),Inv X pins σ H s->Vals vs us->t vs σ H Q->
  wpAny (model X.prog X.w) X.A (assignInOrder ((assignEach ts X.env).map (·.2)) us) (λ _ s'=>∃σ' H',Inv X pins σ' H' s'/\Q σ' H') X.xe s
noncomputable abbrev tU:=V->V->V->Hp->(Hp->Prop)->Prop
abbrev yY (X:Cx)(t:tU):Prop:=
 ∀(pins:List (Addr×Obj)) (s:Shared) (σ:St) (H:Hp) (o i v:V) (ov iv u:Value) (Q:Hp->Prop),Inv X pins σ H s->RelV o ov->RelV i iv->RelV v u->t o i v H Q->
  wpAny (model X.prog X.w) X.A (setItem ov iv u) (λ _ s'=>∃H',Inv X pins σ H' s'/\Q H') X.xe s
abbrev SQ (i:Nat):TG:=λ v σ H Q=>Q (σ.set i (some v)) H
def Ua (hN:X.N.Nodup)(hi:X.N[i]?=some x)(hx:Loc X.env.scope x)(hf:X.fn x=true\/X.env.scope.names.lookup x=some .local:=by first | exact .inl rfl | exact .inr rfl | assumption):PG X (.Name x pos) (SQ i):=by
 intro pins s σ H v u Q I r h;exact wpAny_assign_Name (Vo I hN hi hx r (λ s' I'=>⟨_,H,I',h⟩) hf)
abbrev tV:eW:=λ vs σ H Q=>vs=[]/\Q σ H
abbrev fJ (t:TG)(u:eW):eW:=λ vs σ H Q=>∃v r,vs=v::r/\t v σ H λ σ' H'=>u r σ' H' Q
def YO:xX X [] tV:=by
 intro pins s σ H vs us Q I r h;obtain⟨e,h⟩:=h;subst e;cases r;exact assignInOrder_nil ⟨σ,H,I,h⟩
def Vr (h1:PG X e t)(h2:xX X es u)(hs: ~~~((assignEach (e::es) X.env).map (·.2)=assign e X.env::(assignEach es X.env).map (·.2))):xX X (e::es) (fJ t u):=by
 intro pins s σ H vs us Q I r h;obtain⟨v,vr,e1,h⟩:=h;subst e1;cases r with
 |cons r rr =>
  rw[hs];refine assignInOrder_cons (B9 (h1 pins s σ H _ _ _ I r h) λ _ s1 zz=>?_);obtain⟨σ1,H1,I1,q1⟩:=zz;exact h2 pins s1 σ1 H1 _ _ Q I1 rr q1
abbrev tW (K:za1)(n:Nat)(t:eW):TG:=λ v σ H Q=>∃a xs,v=.ref a/\FE K H a xs/\xs.length=n/\t xs σ H Q
def fK (hc:X.calm=true)(h:xX X es t)(hn: ~~~((assignEach es X.env).length=n))(ax: ~~~((assignEach es X.env).findIdx? (·.1)=none)):PG X (.Tuple es k pos) (tW X.K n t):=by
 intro pins s σ H v u Q I r hw;obtain⟨a,xs,e1,hq,hl,hw⟩:=hw;subst e1;cases r;obtain⟨aa,rv,ht,hz⟩:=I.tuple hq;refine assign_Tuple_tuple (I.ok.hd hc) ht (by simp[hn,<-hl,rv.length]) ax λ h' hx=>?_;have I1:Inv X pins σ H {s with heap:=h' }:=I.kept (t':=s.toks) λ b o e=>hx b o (zar (zaj e)) e;exact h pins _ σ H xs _ Q I1 (by simpa using rv) hw
abbrev abA (to ti:TE)(t:tU):TG:=λ v σ H Q=>to σ H λ o H1=>ti σ H1 λ i H2=>t o i v H2 λ H3=>Q σ H3
def tX (ho:PE X o to)(hi:PE X i ti)(hs:yY X t)(ha:∀v,assign (.Subscript o i pos) X.env v=(do
  let ov <-holding [v] (eval o X.env);let iv <-holding [v,ov] (eval i X.env)
  standAt pos
  holding [v,ov,iv] (setItem ov iv v)
  release [v,ov,iv] []):=by intro _;rfl):PG X (.Subscript o i pos) (abA to ti t):=by
 intro pins s σ H v u Q I r h;rw[ha];refine wpAny_bind (wpAny_holding (B9 (ho pins s σ H _ I h) λ ov s1 zz=>?_));obtain⟨x,H1,I1,r1,q1⟩:=zz;refine wpAny_bind (wpAny_holding (B9 (hi pins s1 σ H1 _ I1 q1) λ iv s2 zz=>?_));obtain⟨y,H2,I2,r2,q2⟩:=zz;refine wpAny_bind (wpAny_standAt (wpAny_bind (wpAny_holding (B9 (hs pins s2 σ H2 x y v ov iv u _ I2 r1 r2 r q2) λ _ s3 zz=>?_))));obtain⟨H3,I3,q3⟩:=zz;exact wpAny_release ⟨σ,H3,I3,q3⟩
abbrev yZ (te:TE)(g:TG):TS:=λ D σ H=>te σ H λ x H1=>g x σ H1 D.nx
def fL (he:PE X e te)(hg:PG X tg g)(hs: ~~~(swapsWithSole [tg] e pos.line X.env=pure false))(hw: ~~~(swappedStores [tg] e X.env=pure none))(h1: ~~~((assignEach [tg] X.env).map (·.2)=[assign tg X.env])):PS X (.Assign [tg] e pos) (yZ te g):=by
 intro pins s σ H D I h;refine wpAny_Assign_stores (B9 (he pins s σ H _ I h) λ v s1 zz=>?_) hs hw;obtain⟨x,H1,I1,r1,q1⟩:=zz;rw[h1];exact B9 (hg pins s1 σ H1 x v _ I1 r1 q1) λ _ s2 q=>q
def Xo (hN:X.N.Nodup)(hi:X.N[i]?=some x)(hx:Loc X.env.scope x)(he:PE X e te)(hs: ~~~(swapsWith e (some (.Name x pos')) pos.line X.env=pure false))(hf:X.fn x=true\/X.env.scope.names.lookup x=some .local:=by first | exact .inl rfl | exact .inr rfl | assumption):
 PS X (.Assign [.Name x pos'] e pos) (yZ te (SQ i)):=by
 intro pins s σ H D I h;refine wpAny_Assign_Name (B9 (he pins s σ H _ I h) λ v s1 zz=>?_) hs;obtain⟨y,H1,I1,r1,q1⟩:=zz;exact Vo I1 hN hi hx r1 (λ s2 I2=>⟨_,H1,I2,q1⟩) hf
abbrev tY (c:TT)(tb:TS):TS:=λ D σ H=>∃W:Nat->St->Hp->Prop,(∃m,W m σ H)/\∀m σ H,W m σ H->
 c σ H λ b H1=>if b=true then ∃N:St->Hp->Prop,(∀σ' H',N σ' H'->∃m',m'<m/\W m' σ' H')/\tb {D with nx:=N,ct:=N,bk:=D.nx} σ H1 else D.nx σ H1
def fM (hp:PassesOwn (model X.prog X.w) X.A X.env X.xe)(hc:PT X c tc)(hb:YM X body tb):PS X (.While c body [] pos) (tY tc tb):=by
 intro pins s σ H D I h;obtain⟨W,⟨m0,w0⟩,turn⟩:=h;refine wpAny_While (codeAny_whileLoop (λ n s'=>∃σ' H',Inv X pins σ' H' s'/\W n σ' H') ?_ m0 ⟨σ,H,I,w0⟩);rintro n s1 ⟨σ1,H1,I1,w1⟩;refine wpAny_passesOwn hp (B9 (hc pins s1 σ1 H1 _ I1 (turn n σ1 H1 w1)) λ b s2 zz=>?_);obtain⟨H2,I2,q2⟩:=zz;cases b with
 |true =>
  obtain⟨N,hN,q2⟩:=q2;rw[if_pos rfl];refine wpAny_passesOwn hp (B9 (hb pins s2 σ1 H2 _ I2 q2) λ f s3 q3=>?_);cases f with
  |next =>
   obtain⟨σ3,H3,I3,n3⟩:=q3;obtain⟨m',hm,w3⟩:=hN σ3 H3 n3;exact⟨m',hm,σ3,H3,I3,w3⟩
  |cont =>
   obtain⟨σ3,H3,I3,n3⟩:=q3;obtain⟨m',hm,w3⟩:=hN σ3 H3 n3;exact⟨m',hm,σ3,H3,I3,w3⟩
  |brk|ret v=>exact q3
 |false =>
  rw[if_neg zav];exact wpAny_execs_nil ⟨σ1,H2,I2,q2⟩
structure It where
 go:Nat->Hp->Prop
 mM:Nat->Hp->V->Hp->Prop
 stop:Nat->Hp->Prop
abbrev Oz (X:Cx)(pins:List (Addr×Obj))(H:Hp)(b:Addr):Prop:=
 H b=none/\b≠X.env.locals/\b∉X.fs/\(b∈X.ex\/X.s₀.heap.objs.size<=b)/\(∀x c,X.env.cells.lookup x=some c->c≠b)/\∀p∈X.pn++pins,p.1≠b
def Inv.Xp (I:Inv X pins σ H s)(hb:s.heap.objs.size<=b)(hn:H' b=none):Oz X pins H' b:=by
 refine⟨hn,Nat.ne_of_gt (zan I.lt hb),I.abq hb,.inr (zbv I.sz hb),λ x c e z=>?_,λ p hp z=>?_⟩
 ·obtain⟨v,q⟩:=I.cell x c e;exact absurd (zan q.lt (by rw[z];exact hb)) (Nat.lt_irrefl _)
 ·exact absurd (zan (zaj (I.pin p hp).1) (by rw[z];exact hb)) (Nat.lt_irrefl _)
structure Turn (P:Program)(w:World)(K:za1)(tg:Expr)(J:It)(fp:List Addr)(it:Addr)(tn:Nat->Heap->Prop):Prop where
 mem:it∈fp
 obj:∀i h,tn i h->∀b∈fp,∃o,h.get? b=some o/\∀v,o.data≠.cell v
 keep:∀i h h',tn i h->(∀b∈fp,∀o,h.get? b=some o->h'.get? b=some o)->tn i h'
 item:∀(X:Cx),X.prog=P->X.w=w->X.K=K->X.calm=true->∀(i:Nat) (pins:List (Addr×Obj)) (s:Shared) (σ:St) (H:Hp) (E:Value->Shared->Prop),Inv X pins σ H s->(∀b∈fp,Oz X pins H b)->tn i s.heap->J.go i H->
  wpAny (model P w) X.A (pyNext (.ref it)) (λ r s1=>∃u,r=some u/\
   wpAny (model P w) X.A (letOwnedTupleGo tg (.ref it) u) (λ _ s2=>∃x H',Inv X pins σ H' s2/\RelV x u/\J.mM i H x H'/\tn (i+1) s2.heap/\∀b∈fp,H' b=none) E s1) E s
 done:∀(X:Cx),X.prog=P->X.w=w->X.K=K->X.calm=true->∀(i:Nat) (pins:List (Addr×Obj)) (s:Shared) (σ:St) (H:Hp) (E:Value->Shared->Prop),Inv X pins σ H s->(∀b∈fp,Oz X pins H b)->tn i s.heap->J.stop i H->
  wpAny (model P w) X.A (pyNext (.ref it)) (λ r s1=>r=none/\Inv X pins σ H s1) E s
 self:∀(A:Around) (i:Nat) (s:Shared) (Q:Value->Shared->Prop) (E:Value->Shared->Prop),tn i s.heap->Q (.ref it) s->wpAny (model P w) A (pyIter (.ref it)) Q E s
noncomputable abbrev TI:=St->Hp->(It->Hp->Prop)->Prop
abbrev PIE (X:Cx)(pins:List (Addr×Obj))(σ:St)(tg:Expr)(R:It->Hp->Prop)(ni:Value)(s2:Shared):Prop:=
 ∃(it:Addr) (fp:List Addr) (tn:Nat->Heap->Prop) (J:It) (H':Hp),ni=.ref it/\Inv X pins σ H' s2/\Turn X.prog X.w X.K tg J fp it tn/\tn 0 s2.heap/\(∀b∈fp,Oz X pins H' b)/\R J H'
abbrev PI (X:Cx)(tg iter:Expr)(wi:TI):Prop:=
 ∀(pins:List (Addr×Obj)) (s:Shared) (σ:St) (H:Hp) (R:It->Hp->Prop),Inv X pins σ H s->wi σ H R->
  wpAny (model X.prog X.w) X.A (eval iter X.env) (λ v s1=>wpAny (model X.prog X.w) X.A (pyIter v) (PIE X pins σ tg R) X.xe s1) X.xe s
def Vs (ho:s.heap.get? it=some o)(hc:o.cls=.type n)(hd:o.data=.fields vs)(hn:["enumerate","zip","dict_itemiterator","dict_reverseitemiterator","odict_iterator","itertools.zip_longest","itertools.pairwise"].contains n=false)(hQ:Q () s):wpAny M A (letOwnedTupleGo tg (.ref it) u) Q E s:=by
 unfold letOwnedTupleGo;cases tg<;>first
  |exact wpAny_pure hQ
  |(cases u<;>first
   |exact wpAny_pure hQ
   |(
    refine wpAny_bind (wpAny_load ho ?_);rw[hc,hd];show wpAny M A (if (["enumerate","zip","dict_itemiterator","dict_reverseitemiterator","odict_iterator","itertools.zip_longest","itertools.pairwise"].contains n&&vs[0]?== some (rawInt _))=true then _ else _) Q E s;rw[if_neg (by intro h;rw[hn,Bool.false_and] at h;cases h)];exact wpAny_pure hQ))
abbrev Itl (K:za1)(a:Addr):It:=
 ⟨λ i H=>∃xs x,DU K H a xs/\xs[i]?=some x,λ i H x H'=>H'=H/\∀xs,DU K H a xs->xs[i]?=some x,λ i H=>∃xs,DU K H a xs/\xs.length<=i⟩
abbrev Itt (K:za1)(a:Addr):It:=
 ⟨λ i H=>∃xs x,FE K H a xs/\xs[i]?=some x,λ i H x H'=>H'=H/\∀xs,FE K H a xs->xs[i]?=some x,λ i H=>∃xs,FE K H a xs/\xs.length<=i⟩
abbrev Itr (lo:Int)(n:Nat):It:=⟨λ i _=>i<n,λ i H x H'=>H'=H/\x=.int (lo+i),λ i _=>n<=i⟩
def bF {K}(a it:Addr):Turn P w K tg (Itl K a) [it] it (λ i h=>h.IsListIter it a i) where
 mem:=by simp
 obj:=λ i h st b hb=>by
  have e:b=it:=by simpa using hb
  subst e;obtain⟨o,e,c,d⟩:=st;exact⟨o,e,λ v z=>by rw[d] at z;cases z⟩
 keep:=λ i h h' st k=>st.at λ o e=>k it (by simp) o e
 item:=by
  intro X hP hw hK hc i pins s σ H E I hf st hg;subst hP hw hK;obtain⟨xs,x,hq,hx⟩:=hg;obtain⟨aa,rv,p,hz⟩:=I.list hq;obtain⟨u,hu,ru⟩:=rv.get hx;obtain⟨f0,f1,f2,f3,f4,f5⟩:=hf it (by simp);refine wpAny_pyNext_list_item st p.isList (x:=u) (by simpa using hu) λ h' bc sb=>?_;have I1:Inv X pins σ H {s with heap:=h' }:=I.turned (t':=s.toks) (λ b o hb e=>(sb.2 b hb).trans e) f0 f1 f3 f4 f5;obtain⟨o,e,c,d⟩:=id bc;exact⟨u,rfl,Vs (s:={s with heap:=h' }) e c d (by decide) ⟨x,H,I1,ru,⟨rfl,λ ys hy=>by rw[I.Ii hy hq];exact hx⟩,bc,λ b hb=>(hf b hb).1⟩⟩
 done:=by
  intro X hP hw hK hc i pins s σ H E I hf st hg;subst hP hw hK;obtain⟨xs,hq,hx⟩:=hg;obtain⟨aa,rv,p,hz⟩:=I.list hq;obtain⟨f0,f1,f2,f3,f4,f5⟩:=hf it (by simp);have hl:=rv.length;exact wpAny_pyNext_list_end (I.ok.hd hc) st p.isList (by simp;omega) λ h' eb=>⟨rfl,I.turned (t':=s.toks) (λ b o hb e=>eb b o hb e) f0 f1 f3 f4 f5⟩
 self:=λ _ _ _ _ _ st h=>wpAny_pyIter_listiter st h
def Xq {K}(a it:Addr):Turn P w K tg (Itt K a) [it] it (λ i h=>h.IsTupleIter it a i) where
 mem:=by simp
 obj:=λ i h st b hb=>by
  have e:b=it:=by simpa using hb
  subst e;obtain⟨o,e,c,d⟩:=st;exact⟨o,e,λ v z=>by rw[d] at z;cases z⟩
 keep:=λ i h h' st k=>st.at λ o e=>k it (by simp) o e
 item:=by
  intro X hP hw hK hc i pins s σ H E I hf st hg;subst hP hw hK;obtain⟨xs,x,hq,hx⟩:=hg;obtain⟨aa,rv,p,hz⟩:=I.tuple hq;obtain⟨u,hu,ru⟩:=rv.get hx;obtain⟨f0,f1,f2,f3,f4,f5⟩:=hf it (by simp);refine wpAny_pyNext_tuple_item st (show s.heap.IsTuple a aa.toArray from p) (x:=u) (by simpa using hu) λ h' bc sb=>?_;have I1:Inv X pins σ H {s with heap:=h' }:=I.turned (t':=s.toks) (λ b o hb e=>(sb.2 b hb).trans e) f0 f1 f3 f4 f5;obtain⟨o,e,c,d⟩:=id bc;exact⟨u,rfl,Vs (s:={s with heap:=h' }) e c d (by decide) ⟨x,H,I1,ru,⟨rfl,λ ys hy=>by rw[I.Gb hy hq];exact hx⟩,bc,λ b hb=>(hf b hb).1⟩⟩
 done:=by
  intro X hP hw hK hc i pins s σ H E I hf st hg;subst hP hw hK;obtain⟨xs,hq,hx⟩:=hg;obtain⟨aa,rv,p,hz⟩:=I.tuple hq;obtain⟨f0,f1,f2,f3,f4,f5⟩:=hf it (by simp);have hl:=rv.length;exact wpAny_pyNext_tuple_end (I.ok.hd hc) st (show s.heap.IsTuple a aa.toArray from p) (by simp;omega) λ h' eb=>⟨rfl,I.turned (t':=s.toks) (λ b o hb e=>eb b o hb e) f0 f1 f3 f4 f5⟩
 self:=λ _ _ _ _ _ st h=>wpAny_pyIter_tupleiter st h
def Xr {K}(it:Addr)(lo:Int)(n:Nat):Turn P w K tg (Itr lo n) [it] it (λ i h=>IsRangeIter h it (lo+(i:Nat)*1) ((n:Int)-(i:Nat)) 1) where
 mem:=by simp
 obj:=λ i h st b hb=>by
  have e:b=it:=by simpa using hb
  subst e;exact⟨_,st,λ v z=>by
   have z':Data.fields _=Data.cell v:=z;cases z'⟩
 keep:=λ i h h' st k=>k it (by simp) _ st
 item:=by
  intro X hP hw hK hc i pins s σ H E I hf st hg;subst hP hw hK;obtain⟨f0,f1,f2,f3,f4,f5⟩:=hf it (by simp);have W:=Walks.range (prog:=X.prog) (w:=X.w) (I.ok.hd hc) it lo 1 n;refine W.item i s _ _ hg st λ v h' tk hv bc kk=>?_;obtain⟨t,rfl⟩:=hv;have I1:Inv X pins σ H {s with heap:=h',toks:=tk}:=I.turned (λ b o hb e=>kk b o (by simpa using hb) e) f0 f1 f3 f4 f5;refine⟨_,rfl,Vs (s:={s with heap:=h',toks:=tk}) (n := "range_iterator") bc rfl rfl (by decide) ⟨.int (lo+i),H,I1,⟨t,?_⟩,⟨rfl,rfl⟩,bc,λ b hb=>(hf b hb).1⟩⟩;rw[Int.mul_one]
 done:=by
  intro X hP hw hK hc i pins s σ H E I hf st hg;subst hP hw hK;obtain⟨f0,f1,f2,f3,f4,f5⟩:=hf it (by simp);exact wpAny_pyNext_range_end (I.ok.hd hc) st (by have:n<=i:=hg;omega) λ h' eb=>⟨rfl,I.turned (t':=s.toks) (λ b o hb e=>eb b o hb e) f0 f1 f3 f4 f5⟩
 self:=λ _ _ _ _ _ st h=>wpAny_pyIter_rangeiter st h
section
variable {tg:Expr}
abbrev zA (K:za1)(tl:TE):TI:=λ σ H R=>tl σ H λ x H1=>∃a,x=.ref a/\(∃xs,DU K H1 a xs)/\R (Itl K a) H1
abbrev abC (K:za1)(tl:TE):TI:=λ σ H R=>tl σ H λ x H1=>∃a,x=.ref a/\(∃xs,FE K H1 a xs)/\R (Itt K a) H1
def mN (hl:PE X l tl):PI X tg l (zA X.K tl):=by
 intro pins s σ H R I h;refine B9 (hl pins s σ H _ I h) λ v s1 zz=>?_;obtain⟨x,H1,I1,r1,q1⟩:=zz;obtain⟨a,e,⟨xs,hq⟩,q⟩:=q1;subst e;cases r1;obtain⟨aa,rv,p,hz⟩:=I1.list hq;refine wpAny_pyIter_list p.isList ?_;refine⟨s1.heap.objs.size,[s1.heap.objs.size],_,_,H1,rfl,I1.kept (t':=s1.toks) λ b o e=>zaa _ e,bF a _,⟨_,zap _ rfl,rfl,rfl⟩,λ b hb=>?_,q⟩;have e:b=s1.heap.objs.size:=by simpa using hb
 subst e;exact I1.Xp (zag _) (I1.Aw.fresh (zag _))
def tZ (hl:PE X l tl):PI X tg l (abC X.K tl):=by
 intro pins s σ H R I h;refine B9 (hl pins s σ H _ I h) λ v s1 zz=>?_;obtain⟨x,H1,I1,r1,q1⟩:=zz;obtain⟨a,e,⟨xs,hq⟩,q⟩:=q1;subst e;cases r1;obtain⟨aa,rv,p,hz⟩:=I1.tuple hq;refine wpAny_pyIter_tuple (show s1.heap.IsTuple a aa.toArray from p) ?_;refine⟨s1.heap.objs.size,[s1.heap.objs.size],_,_,H1,rfl,I1.kept (t':=s1.toks) λ b o e=>zaa _ e,Xq a _,⟨_,zap _ rfl,rfl,rfl⟩,λ b hb=>?_,q⟩;have e:b=s1.heap.objs.size:=by simpa using hb
 subst e;exact I1.Xp (zag _) (I1.Aw.fresh (zag _))
def fN {lo}(I:Inv X pins σ H s)(h1 : -(2^62)<=lo)(h2:lo<2^62)(h3 : -(2^62)<=hi)(h4:hi<2^62)(q:R (Itr lo (hi-lo).toNat) H):wpAny (model X.prog X.w) X.A (pyIter (.ref s.heap.objs.size)) (PIE X pins σ tg R) E {s with heap:=s.heap.push {cls:=.type "range",data:=.fields #[.int lo t,.int hi u,.int 1 v]},toks:=tk}:=by
 refine wpAny_pyIter_range (IsRange.new ..) (small_one h1 h2 h3 h4) ?_;have I1:Inv X pins σ H {s with heap:=s.heap.push {cls:=.type "range",data:=.fields #[.int lo t,.int hi u,.int 1 v]},toks:=tk}:=I.kept λ b o e=>zaa _ e;refine⟨(s.heap.push {cls:=.type "range",data:=.fields #[.int lo t,.int hi u,.int 1 v]}).objs.size,[(s.heap.push {cls:=.type "range",data:=.fields #[.int lo t,.int hi u,.int 1 v]}).objs.size],_,_,H,rfl,
  I1.kept (t':=tk) λ b o e=>zaa _ e,Xr _ lo (hi-lo).toNat,?_,λ b hb=>?_,q⟩
 ·have e1:lo+((0:Nat):Int)*1=lo:=by simp
  have e2:(((hi-lo).toNat:Nat):Int)-((0:Nat):Int)=Builtin.Range.rangeSize lo hi 1:=by rw[rangeSize_one];split<;>omega
  show IsRangeIter _ _ (lo+((0:Nat):Int)*1) ((((hi-lo).toNat:Nat):Int)-((0:Nat):Int)) 1;rw[e1,e2];exact zap _ rfl
 ·have e:b=(s.heap.push {cls:=.type "range",data:=.fields #[.int lo t,.int hi u,.int 1 v]}).objs.size:=by simpa using hb
  subst e;exact I1.Xp (zag _) (I1.Aw.fresh (zag _))
abbrev zB (ta:TA):TI:=λ σ H R=>ta σ H λ vs H1=>∃j:Int,vs=[.int j]/\-(2^62)<=j/\j<2^62/\R (Itr 0 j.toNat) H1
def bG {ta}(hg:Gl X "range")(hm:X.mg "range" = none)(ha:PA X [a] ta)(hs: ~~~(starEach [a] X.env=[(false,eval a X.env)])):PI X tg (.Call (.Name "range" p) [a] [] pos) (zB ta):=by
 intro pins s σ H R I h;refine Call_ (Ei I hg hm boot_range (zbl (B9 (ha pos pins s σ H _ I h) λ us s1 zz=>?_) hs rfl));obtain⟨vs,H1,I1,r1,q1⟩:=zz;obtain⟨j,e,q1,q2,q⟩:=q1;subst e;cases r1 with
 |cons r rr =>
  cases rr;obtain⟨t,rfl⟩:=r;exact call_range_1 (fN I1 (by omega) (by omega) q1 q2 (by simpa using q))
abbrev abD (wi:TI)(g:TG)(tb:TS):TS:=λ D σ H=>wi σ H λ J H1=>∃W:Nat->Nat->St->Hp->Prop,(∃m,W 0 m σ H1)/\∀i m σ H,W i m σ H->
 (J.stop i H/\D.nx σ H)\/(J.go i H/\∃N:St->Hp->Prop,(∀σ' H',N σ' H'->∃m',m'<m/\W (i+1) m' σ' H')/\∀x H',J.mM i H x H'->g x σ H' λ σ2 H2=>tb {D with nx:=N,ct:=N,bk:=D.nx} σ2 H2)
abbrev KA (fp:List Addr)(h:Heap):List (Addr×Obj):=fp.filterMap λ b=>(h.get? b).map λ o=>(b,o)
def GL (hb:b∈fp)(e:h.get? b=some o):(b,o)∈KA fp h:=List.mem_filterMap.mpr ⟨b,hb,by rw[e];rfl⟩
def SR (hp:p∈KA fp h):p.1∈fp/\h.get? p.1=some p.2:=by
 obtain⟨b,hb,e⟩:=List.mem_filterMap.mp hp;cases q:h.get? b with
 |none=>rw[q] at e;cases e
 |some o =>
  rw[q] at e;have e':(b,o)=p:=zao e;subst e';exact⟨hb,q⟩
def Inv.pinned (I:Inv X pins σ H s)(hf:∀b∈fp,Oz X pins H b)(ho:∀b∈fp,∃o,s.heap.get? b=some o/\∀v,o.data≠.cell v):Inv X (pins++KA fp s.heap) σ H s:=
 I.L9 λ p hp=>(zal.mp hp).elim (λ z=>I.pin p (zad _ z)) λ z=>by
  obtain⟨hb,e⟩:=SR z;obtain⟨f0,f1,f2,_⟩:=hf p.1 hb;obtain⟨o,e',d⟩:=ho p.1 hb;rw[e] at e';cases e';exact⟨e,f0,f1,f2,d⟩
def Inv.La (I:Inv X (pins++pl) σ H s):Inv X pins σ H s:=I.L9 λ p hp=>I.pin p (zad _ (zb4 _ hp))
def uA (hp:PassesOwn (model X.prog X.w) X.A X.env X.xe)(hc:X.calm=true)(hi:PI X tg iter wi)(hg:PG X tg g)(hb:YM X body tb)(hs:∀x,foldedSetIterable iter X.env x=pure x:=by intro _;rfl):PS X (.For tg iter body [] pos) (abD wi g tb):=by
 intro pins s σ H D I h;refine wpAny_For (B9 (hi pins s σ H _ I h) λ v s1 h1=>B9 h1 λ ni s2 h2=>?_) hs;obtain⟨it,fp,tn,J,H2,e,I2,T,dm,f2,W,⟨m0,w0⟩,turn⟩:=h2;subst e;have bm:∀ {H':Hp},(∀b∈fp,H' b=none)->∀b∈fp,Oz X pins H' b:=λ hn b hb=>⟨hn b hb,(f2 b hb).2⟩;refine codeAny_forLoop_any (λ n s'=>∃i σ' H',Inv X pins σ' H' s'/\tn i s'.heap/\(∀b∈fp,H' b=none)/\W i n σ' H') ?_ m0 ⟨0,σ,H2,I2,dm,λ b hb=>(f2 b hb).1,w0⟩;rintro n s3 ⟨i,σ3,H3,I3,jq,jr,w3⟩;rcases turn i n σ3 H3 w3 with ⟨stop,qn⟩|⟨go,N,hN,step⟩
 ·refine wpAny_passesOwn hp (B9 (T.done X rfl rfl rfl hc i pins s3 σ3 H3 X.xe I3 (bm jr) jq stop) λ r s4 zz=>?_);obtain⟨hr,I4⟩:=zz;subst hr;exact wpAny_execs_nil ⟨σ3,H3,I4,qn⟩
 ·refine wpAny_passesOwn hp (B9 (T.item X rfl rfl rfl hc i pins s3 σ3 H3 X.xe I3 (bm jr) jq go) λ r s4 zz=>?_);obtain⟨u,hr,h4⟩:=zz;subst hr;refine wpAny_passesOwn hp (B9 h4 λ _ s5 zz=>?_);obtain⟨x,H5,I5,r5,y5,gj,pk⟩:=zz;have pq:=I5.pinned (bm pk) (T.obj _ _ gj);refine wpAny_passesOwn hp (B9 (hg _ s5 σ3 H5 x u _ pq r5 (step x H5 y5)) λ _ s6 zz=>?_);obtain⟨σ6,H6,I6,q6⟩:=zz;refine wpAny_passesOwn hp (B9 (hb _ s6 σ6 H6 _ I6 q6) λ f s7 q7=>?_);have again:∀ {σ7:St} {H7:Hp},Inv X (pins++KA fp s5.heap) σ7 H7 s7->N σ7 H7->∃m,m<n/\∃i σ' H',Inv X pins σ' H' s7/\tn i s7.heap/\(∀b∈fp,H' b=none)/\W i m σ' H':=fun {σ7 H7} I7 n7=>by
   obtain⟨m',hm,w7⟩:=hN σ7 H7 n7;refine⟨m',hm,i+1,σ7,H7,I7.La,T.keep _ _ _ gj λ b hb o e=>(I7.pin (b,o) (zad _ (zad _ (GL hb e)))).1,λ b hb=>?_,w7⟩;obtain⟨o,e,d⟩:=T.obj _ _ gj b hb;exact (I7.pin (b,o) (zad _ (zad _ (GL hb e)))).2.1
  cases f with
  |next|cont=>obtain⟨σ7,H7,I7,n7⟩:=q7;exact again I7 n7
  |brk=>obtain⟨σ7,H7,I7,q7⟩:=q7;exact⟨σ7,H7,I7.La,q7⟩
  |ret v=>obtain⟨x7,σ7,H7,I7,r7,q7⟩:=q7;exact⟨x7,σ7,H7,I7.La,r7,q7⟩
end
noncomputable abbrev R2:=V->V->Hp->VK->Prop
abbrev GN (X:Cx)(f:Value->Value->Sem Value)(r:R2):Prop:=
 ∀(pins:List (Addr×Obj)) (s:Shared) (σ:St) (H:Hp) (x y:V) (v u:Value) (Q:VK),Inv X pins σ H s->RelV x v->RelV y u->r x y H Q->
  wpAny (model X.prog X.w) X.A (f v u) (EP X pins σ Q) X.xe s
abbrev UnR (X:Cx)(f:Value->Sem Value)(r:V->Hp->VK->Prop):Prop:=
 ∀(pins:List (Addr×Obj)) (s:Shared) (σ:St) (H:Hp) (x:V) (v:Value) (Q:VK),Inv X pins σ H s->RelV x v->r x H Q->
  wpAny (model X.prog X.w) X.A (f v) (EP X pins σ Q) X.xe s
abbrev Gd (X:Cx)(f:Value)(r:List V->Hp->VK->Prop):Prop:=
 ∀(pins:List (Addr×Obj)) (s:Shared) (σ:St) (H:Hp) (xs:List V) (us:List Value) (Q:VK),Inv X pins σ H s->Vals xs us->r xs H Q->
  wpAny (model X.prog X.w) X.A (call f us) (EP X pins σ Q) X.xe s
abbrev abF (X:Cx)(r:V->Hp->(Bool->Hp->Prop)->Prop):Prop:=
 ∀(pins:List (Addr×Obj)) (s:Shared) (σ:St) (H:Hp) (x:V) (v:Value) (Q:Bool->Hp->Prop),Inv X pins σ H s->RelV x v->r x H Q->
  wpAny (model X.prog X.w) X.A (truthy v) (TP X pins σ Q) X.xe s
abbrev xY (r:R2)(ta tb:TE):TE:=λ σ H Q=>ta σ H λ x H1=>tb σ H1 λ y H2=>r x y H2 Q
abbrev tUn (r:V->Hp->VK->Prop)(ta:TE):TE:=λ σ H Q=>ta σ H λ x H1=>r x H1 Q
abbrev rI (C:Int->Int->Prop)(g:Int->Int->V):R2:=λ x y H Q=>∃i j,x=.int i/\y=.int j/\C i j/\Q (g i j) H
abbrev eX (g:Int->Int->V):R2:=λ x y H Q=>∃i j,x=.int i/\y=.int j/\Q (g i j) H
abbrev rU (g:Int->V):V->Hp->VK->Prop:=λ x H Q=>∃i,x=.int i/\Q (g i) H
section
variable {a b:Expr}{tb tc:TE}
def uB (ha:PE X a ta)(hb:PE X b tb){R:V->V->Hp->Prop}(I:Inv X pins σ H s)(h:ta σ H λ x H1=>tb σ H1 λ y H2=>R x y H2){f:Value->Value->Sem Value}(hf:∀v u s2 x y H2,Inv X pins σ H2 s2->RelV x v->RelV y u->R x y H2->wpAny (model X.prog X.w) X.A (f v u) Q X.xe s2):
 wpAny (model X.prog X.w) X.A (eval a X.env) (λ v s₁=>wpAny (model X.prog X.w) X.A (eval b X.env) (λ u s₂=>wpAny (model X.prog X.w) X.A (f v u) Q X.xe s₂) X.xe s₁) X.xe s:=by
 refine B9 (ha pins s σ H _ I h) λ v s1 zz=>?_;obtain⟨x,H1,I1,r1,q1⟩:=zz;refine B9 (hb pins s1 σ H1 _ I1 q1) λ u s2 zz=>?_;obtain⟨y,H2,I2,r2,q2⟩:=zz;exact hf v u s2 x y H2 I2 r1 r2 q2
def fO (ho:GN X (binaryOp op) r)(ha:PE X a ta)(hb:PE X b tb):PE X (.BinOp a op b pos) (xY r ta tb):=by
 intro pins s σ H Q I h;exact wpAny_BinOp (uB ha hb I h λ v u s2 x y H2 I2 rx ry q=>ho pins s2 σ H2 x y v u Q I2 rx ry q)
def zC (ho:UnR X (unaryOp op) r)(ha:PE X a ta):PE X (.UnaryOp op a pos) (tUn r ta):=by
 intro pins s σ H Q I h;exact UnaryOp_ (B9 (ha pins s σ H _ I h) λ v s1 ⟨x,H1,I1,r1,q1⟩=>ho pins s1 σ H1 x v Q I1 r1 q1)
def opI {C}{g:Int->Int->Int}(rule:∀(i j:Int) (t u:Tok) (s:Shared) (Q:Value->Shared->Prop) (E:Value->Shared->Prop),C i j->Q (.int (g i j) s.toks) {s with toks:=s.toks+1}->wpAny (model X.prog X.w) X.A (f (.int i t) (.int j u)) Q E s):
 GN X f (rI C λ i j=>.int (g i j)):=by
 intro pins s σ H x y v u Q I rx ry h;obtain⟨i,j,rfl,rfl,hc,q⟩:=h;obtain⟨t,rfl⟩:=rx;obtain⟨t',rfl⟩:=ry;exact rule i j t t' s _ _ hc ⟨.int (g i j),H,I.tok _,⟨_,rfl⟩,q⟩
def zD {g:Int->Int->Int}(rule:∀(i j:Int) (t u:Tok) (s:Shared) (Q:Value->Shared->Prop) (E:Value->Shared->Prop),Q (.int (g i j) s.toks) {s with toks:=s.toks+1}->wpAny (model X.prog X.w) X.A (f (.int i t) (.int j u)) Q E s):
 GN X f (eX λ i j=>.int (g i j)):=by
 intro pins s σ H x y v u Q I rx ry h;obtain⟨i,j,rfl,rfl,q⟩:=h;obtain⟨t,rfl⟩:=rx;obtain⟨t',rfl⟩:=ry;exact rule i j t t' s _ _ ⟨.int (g i j),H,I.tok _,⟨_,rfl⟩,q⟩
def uC {g:Int->Int->Bool}(rule:∀(i j:Int) (t u:Tok) (s:Shared) (Q:Value->Shared->Prop) (E:Value->Shared->Prop),Q (.bool (g i j)) s->wpAny (model X.prog X.w) X.A (f (.int i t) (.int j u)) Q E s):
 GN X f (eX λ i j=>.bl (g i j)):=by
 intro pins s σ H x y v u Q I rx ry h;obtain⟨i,j,rfl,rfl,q⟩:=h;obtain⟨t,rfl⟩:=rx;obtain⟨t',rfl⟩:=ry;exact rule i j t t' s _ _ ⟨.bl (g i j),H,I,rfl,q⟩
abbrev fP (i j:Int):Prop:=0<j/\j<1073741824
abbrev mO (i j:Int):Prop:=0<=j/\j<=1000000/\i.natAbs<2^64
abbrev fQ (i j:Int):Prop:=(-(2^64)<i/\i<2^64)\/(-(2^64)<j/\j<2^64)
def fQ.ok (h:fQ i j):IntMulOk i j:=by
 rcases h with ⟨h1,h2⟩|⟨h1,h2⟩
 ·exact .of_left (intBits_le_64 h1 h2)
 ·exact .of_right (intBits_le_64 h1 h2)
def uD:GN X (binaryOp .Add) (eX λ i j=>.int (i+j)):=zD λ _ _ _ _ _ _ _ q=>add_int q
def uE:GN X (binaryOp .Sub) (eX λ i j=>.int (i-j)):=zD λ _ _ _ _ _ _ _ q=>sub_int q
def mP:GN X (binaryOp .FloorDiv) (rI fP λ i j=>.int (i / j)):=opI λ i j _ _ _ _ _ hc q=>by
 have h1:(0:Int)<j:=hc.1;have h2:j<1073741824:=hc.2;exact floordiv_int (by omega) (by rw[Int.fdiv_eq_ediv_of_nonneg i (by omega)];exact q) (.inl (PyProof.noPylong_small (by omega)))
def uF:GN X (binaryOp .Mod) (rI (λ _ j=>0<j) λ i j=>.int (i%j)):=opI λ i j _ _ _ _ _ hc q=>by
 have h1:(0:Int)<j:=hc;exact mod_int' (by omega) (by rw[Int.fmod_eq_emod_of_nonneg i (by omega)];exact q)
def uG:GN X (binaryOp .Pow) (rI mO λ i j=>.int (i^j.toNat)):=opI λ _ _ _ _ _ _ _ hc q=>pow_int_small hc.1 hc.2.1 hc.2.2 q
def unI {g:Int->Int}(rule:∀(i:Int) (t:Tok) (s:Shared) (Q:Value->Shared->Prop) (E:Value->Shared->Prop),Q (.int (g i) s.toks) {s with toks:=s.toks+1}->wpAny (model X.prog X.w) X.A (f (.int i t)) Q E s):
 UnR X f (rU λ i=>.int (g i)):=by
 intro pins s σ H x v Q I rx h;obtain⟨i,rfl,q⟩:=h;obtain⟨t,rfl⟩:=rx;exact rule i t s _ _ ⟨.int (g i),H,I.tok _,⟨_,rfl⟩,q⟩
def uH:UnR X (unaryOp .USub) (rU λ i=>.int (-i)):=unI λ _ _ _ _ _ q=>neg_int q
end
section
variable {a b:Expr}{tb tc:TE}
def fR:GN X (compareOp .Lt) (eX λ i j=>.bl (decide (i<j))):=uC λ _ _ _ _ _ _ _ q=>lt_int q
def rK:GN X (compareOp .LtE) (eX λ i j=>.bl (decide (i<=j))):=uC λ _ _ _ _ _ _ _ q=>le_int q
def zE:GN X (compareOp .Gt) (eX λ i j=>.bl (decide (j<i))):=uC λ _ _ _ _ _ _ _ q=>gt_int q
def GN.or (h:GN X f r)(h':GN X f r'):GN X f (λ x y H Q=>r x y H Q\/r' x y H Q):=by
 intro pins s σ H x y v u Q I rx ry q;rcases q with q|q
 ·exact h pins s σ H x y v u Q I rx ry q
 ·exact h' pins s σ H x y v u Q I rx ry q
def Ik (b:Expr)(h:op≠.In:=by decide)(h2:op≠.NotIn:=by decide):behindInMarks op b=false:=by
 have e1:(op==CmpOp.In)=false:=by cases op<;>first|rfl|exact absurd rfl h
 have e2:(op==CmpOp.NotIn)=false:=by cases op<;>first|rfl|exact absurd rfl h2
 cases b<;>simp[behindInMarks,e1,e2]
def mQ (ho:GN X (compareOp op) r)(ha:PE X a ta)(hb:PE X b tb)(hm:behindInMarks op b=false):PE X (.Compare a [op] [b] pos) (xY r ta tb):=by
 intro pins s σ H Q I h;exact wpAny_Compare1 (uB ha hb I h λ v u s2 x y H2 I2 rx ry q=>ho pins s2 σ H2 x y v u Q I2 rx ry q) hm
abbrev fS (t:TE):TT:=λ σ H Q=>t σ H λ x H'=>∃k,x=.bl k/\Q k H'
def mR (ho:GN X (compareOp op) r)(ha:PE X a ta)(hb:PE X b tb)(hm:behindInMarks op b=false):PT X (.Compare a [op] [b] pos) (fS (xY r ta tb)):=by
 intro pins s σ H Q I h;refine wpAny_isTrue_Compare1 (B9 (ha pins s σ H _ I h) λ v s1 ⟨x,H1,I1,r1,q1⟩=>B9 (hb pins s1 σ H1 _ I1 q1) λ u s2 ⟨y,H2,I2,r2,q2⟩ =>
  B9 (ho pins s2 σ H2 x y v u _ I2 r1 r2 q2) λ c s3 ⟨z,H3,I3,r3,k,e,q3⟩=>?_) hm
 subst e;cases r3;exact wpAny_truthy_bool ⟨H3,I3,q3⟩
abbrev fT (r r':R2)(ta tb tc:TE):TE:=λ σ H Q=>ta σ H λ x H1=>tb σ H1 λ y H2=>r x y H2 λ z H3=>∃k,z=.bl k/\
 (if k=true then tc σ H3 λ w' H4=>r' y w' H4 Q else Q (.bl false) H3)
def fU (ho:GN X (compareOp op) r)(aJ:GN X (compareOp bn) r')(ha:PE X a ta)(hb:PE X b tb)(hc:PE X c tc)(hm:lastMarks [op,bn] [b,c]=false:=by with_unfolding_all rfl):PE X (.Compare a [op,bn] [b,c] pos) (fT r r' ta tb tc):=by
 intro pins s σ H Q I h;refine Compare_chain (B9 (ha pins s σ H _ I h) λ v s1 ⟨x,H1,I1,r1,q1⟩=>chain_link (B9 (hb pins s1 σ H1 _ I1 q1) λ u s2 ⟨y,H2,I2,r2,q2⟩ =>
  B9 (ho pins s2 σ H2 x y v u _ I2 r1 r2 q2) λ d s3 ⟨z,H3,I3,r3,k,e,q3⟩=>?_)) hm
 subst e;cases r3;refine wpAny_truthy_bool ?_;cases k with
 |false=>exact ite_ff ⟨.bl false,H3,I3,rfl,q3⟩
 |true=>exact ite_tt (chain_last (B9 (hc pins s3 σ H3 _ I3 q3) λ w' s4 ⟨z',H4,I4,r4,q4⟩=>aJ pins s4 σ H4 y z' u w' Q I4 r2 r4 q4))
def fV (ho:GN X (compareOp op) r)(aJ:GN X (compareOp bn) r')(ha:PE X a ta)(hb:PE X b tb)(hc:PE X c tc)(hm:lastMarks [op,bn] [b,c]=false:=by with_unfolding_all rfl):PT X (.Compare a [op,bn] [b,c] pos) (fS (fT r r' ta tb tc)):=by
 intro pins s σ H Q I h;refine isTrue_chain (B9 (ha pins s σ H _ I h) λ v s1 ⟨x,H1,I1,r1,q1⟩=>test_link (B9 (hb pins s1 σ H1 _ I1 q1) λ u s2 ⟨y,H2,I2,r2,q2⟩ =>
  B9 (ho pins s2 σ H2 x y v u _ I2 r1 r2 q2) λ d s3 ⟨z,H3,I3,r3,k,e,q3⟩=>?_)) hm
 subst e;cases r3;refine wpAny_truthy_bool ?_;cases k with
 |false =>
  obtain⟨k',e',q'⟩:=q3;cases e';exact ite_ff ⟨H3,I3,q'⟩
 |true =>
  refine ite_tt (test_last (B9 (hc pins s3 σ H3 _ I3 q3) λ w' s4 ⟨z',H4,I4,r4,q4⟩=>B9 (aJ pins s4 σ H4 y z' u w' _ I4 r2 r4 q4) λ d' s5 zz=>?_));obtain⟨z2,H5,I5,r5,k2,e2,q5⟩:=zz;subst e2;cases r5;exact wpAny_truthy_bool ⟨H5,I5,q5⟩
abbrev zF (K:za1)(x:V)(H:Hp)(k:Bool):Prop:=
 match x with
 | .Av=>k=false
 | .bl b=>k=b
 | .int i=>k=(i != 0)
 | .str y=>y.length<=sizeLine/\k=((y.length:Int) != 0)
 | .tI y=>y.size<=sizeLine/\k=((y.size:Int) != 0)
 | .ref p=>(∃xs,DU K H p xs/\k = !xs.isEmpty)\/(∃xs,FE K H p xs/\k = !xs.isEmpty)\/∃kvs,H p=some (.dK kvs)/\k = !kvs.isEmpty
 |_=>False
def Xs {κ:Type}{kvs:List (κ×V)}{vs}(r:KV kvs vs):(!vs.isEmpty) = !kvs.isEmpty:=by
 cases r<;>rfl
def PY (r:Vals xs aa):(!aa.toArray.isEmpty) = !xs.isEmpty:=by
 cases r<;>simp
def N7:(sizeLine:Nat)<2^63:=by rw[sizeLine_eq];decide
def uI:abF X (λ x H Q=>∃k,zF X.K x H k/\Q k H):=by
 intro pins s σ H x v Q I rx h;obtain⟨k,e,q⟩:=h;have hl:=N7;have hs:sizeLine=16777216:=sizeLine_eq;cases x with
 |Av =>
  cases rx;have e':k=false:=e;subst e';exact truthy_none ⟨H,I,q⟩
 |bl b =>
  cases rx;have e':k=b:=e;subst e';exact wpAny_truthy_bool ⟨H,I,q⟩
 |int i =>
  obtain⟨t,rfl⟩:=rx;have e':k=(i != 0):=e;subst e';exact PySem.P.truthy_int ⟨H,I,q⟩
 |str y =>
  obtain⟨t,rfl⟩:=rx;obtain⟨hy,e'⟩:y.length<=sizeLine/\k=((y.length:Int) != 0):=e;subst e';exact PySem.P.truthy_str (by omega) ⟨H,I.tok _,q⟩
 |tI y =>
  obtain⟨t,rfl⟩:=rx;obtain⟨hy,e'⟩:y.size<=sizeLine/\k=((y.size:Int) != 0):=e;subst e';exact PySem.W.truthy_bytes (by omega) ⟨H,I.tok _,q⟩
 |ref p =>
  cases rx;have e':(∃xs,DU X.K H p xs/\k = !xs.isEmpty)\/(∃xs,FE X.K H p xs/\k = !xs.isEmpty)\/∃kvs,H p=some (.dK kvs)/\k = !kvs.isEmpty:=e;rcases e' with ⟨xs,hx,e'⟩|⟨xs,hx,e'⟩|⟨kvs,hx,e'⟩
  ·subst e';obtain⟨aa,r,pl,hz⟩:=I.list hx;have hlen:=r.length;exact wpAny_truthy_list pl.isList (by simp only[zab];omega) ⟨H,I.tok _,by rw[PY r];exact q⟩
  ·subst e';obtain⟨aa,r,pl,hz⟩:=I.tuple hx;have hlen:=r.length;exact truthy_tuple pl (by simp only[zab];omega) ⟨H,I.tok _,by rw[PY r];exact q⟩
  ·subst e';obtain⟨hz,hS,vs,r,m⟩:kvs.length<=sizeLine/\(p==sysModules)=false/\∃vs,KV kvs vs/\s.heap.DictOf (AN X.prog X.w) p vs:=I.Aw p _ hx;have hlen:kvs.length=vs.length:=zcx r;exact wpAny_truthy_dict hS m (by omega) ⟨H,I.tok _,by rw[Xs r];exact q⟩
 |_=>exact (show False from e).elim
def fW (ha:PE X a ta)(he:∀whole,isTrue a X.env whole=(do let v <-whole;standAt a.pos;holding [v] (truthy v))):
 PT X a (λ σ H Q=>ta σ H λ x H'=>∃k,zF X.K x H' k/\Q k H'):=by
 intro pins s σ H Q I h;exact isTrue_plain (B9 (ha pins s σ H _ I h) λ v s1 ⟨x,H1,I1,r1,q1⟩=>uI pins s1 σ H1 x v Q I1 r1 q1) (he _)
def vals1 (r:Vals [x] us):∃u,us=[u]/\RelV x u:=by
 cases r with
 |cons r1 r2=>cases r2;exact⟨_,rfl,r1⟩
def vals2 (r:Vals [x,y] us):∃u w',us=[u,w']/\RelV x u/\RelV y w':=by
 cases r with
 |cons r1 r2 =>
  cases r2 with
  |cons r3 r4=>cases r4;exact⟨_,_,rfl,r1,r3⟩
def bH (hc:X.calm=true):Gd X (.builtin "min") (λ xs H Q=>∃i j,xs=[.int i,.int j]/\Q (.int (if j<i then j else i)) H):=by
 intro pins s σ H xs us Q I r h;obtain⟨i,j,rfl,q⟩:=h;obtain⟨u,w',rfl,⟨t,rfl⟩,⟨t',rfl⟩⟩:=vals2 r;refine min_two_ints (I.ok.hd hc) λ h' tk k=>⟨_,H,I.kept k,?_,q⟩;by_cases hj:j<i
 ·rw[if_pos hj,if_pos hj];exact⟨_,rfl⟩
 ·rw[if_neg hj,if_neg hj];exact⟨_,rfl⟩
def bI:Gd X (.type "int") (λ xs H Q=>(∃i,xs=[.int i]/\Q (.int i) H)\/∃k,xs=[.bl k]/\Q (.int (if k then 1 else 0)) H):=by
 intro pins s σ H xs us Q I r h;rcases h with ⟨i,rfl,q⟩|⟨k,rfl,q⟩
 ·obtain⟨u,rfl,t,rfl⟩:=vals1 r;exact call_int_int ⟨.int i,H,I,⟨_,rfl⟩,q⟩
 ·obtain⟨u,rfl,r1⟩:=vals1 r;cases r1;exact call_int_bool ⟨.int (if k then 1 else 0),H,I.tok _,⟨_,rfl⟩,q⟩
end
structure Xu (h:Heap)(x dx C:Addr)(mA:Str->Option Value):Prop where
 obj:h.get? x=some (zcn C dx)
 ns:h.Ns1 dx mA
 ne:dx≠x
def bJ {mA}(n:h.Ns1 dx mA):∃od,h.get? dx=some od/\∀name,PySem.W.lookIn name od=some (mA name):=by
 obtain⟨o,es,ep,ho,hd,hk,_,hm⟩:=n;refine⟨o,ho,λ name=>?_⟩;have e:=hm name;unfold nsFind findBy at e;rw[<-Array.find?_toList] at e;unfold PySem.W.lookIn;rw[hd];dsimp only;split
 ·rename_i y q;rw[q] at e;exact congrArg some e
 ·rename_i q;rw[q] at e;have a:es.toList.any (·.refKey)=false:=by
   rw[List.any_eq_false];intro y hy;obtain⟨z,t,pw⟩:=hk y (Array.mem_toList_iff.mp hy);simp[DictEntry.refKey,pw]
  have a':¬ es.toList.any (·.refKey)=true:=by rw[a];exact zav
  rw[if_neg a'];exact congrArg some e
def Xu.look {mA}(I:Xu h x dx C mA):∃od,PySem.W.InstAt h x (zcn C dx) C (some od)/\∀name,PySem.W.lookIn name od=some (mA name):=
 let ⟨od,ho,hl⟩:=bJ I.ns
 ⟨od,⟨I.obj,rfl,rfl,ho⟩,hl⟩
section
variable {prog:Program}{K:za1}{x f:Addr}{mA:Str->Option Value}{name:Str}{v:Value}
def get_map (X:K.In s.heap)(I:Xu s.heap x dx C mA)(hg:zd7 K C name=true)(hh:PySem.W.hasDictIn K C=true)(ha:zb3 K (.ref C) name=some none)(hv:mA name=some v)(js:PySem.W.handedIn v=true)(h:Q v {s with toks:=s.toks+1}):
 wpAny (model prog w) A (getAttr (.ref x) name expr) Q E s:=by
 obtain⟨od,J,hl⟩:=I.look;exact PySem.W.get_value X J (PySem.W.plainGet_of hg).1 (PySem.W.findObj_own hh ha rfl (by rw[hl,hv])) js h
def fX (X:K.In s.heap)(I:Xu s.heap x dx C mA)(hg:zd7 K C name=true)(hf:zb3 K (.ref C) name=some (some (.ref f)))(ht:PySem.W.isFn K (.ref f)=true)(hv:mA name=none)(h:Q (.ref f,[.ref x]) s):
 wpAny (model prog w) A (getMethod (.ref x) name pl) Q E s:=by
 obtain⟨od,J,hl⟩:=I.look;exact PySem.W.method_fn X J (PySem.W.plainGet_of hg).1 (PySem.W.plainGet_of hg).2 hf (beq_iff_eq.mp ht) (by show (PySem.W.lookIn name od).map (·.isSome)=some false;rw[hl,hv];rfl) h
def mS (X:K.In s.heap)(I:Xu s.heap x dx C mA)(hs:zb3 K (.ref C) "__setattr__" = some (some (.builtin "object.__setattr__")))(hp:PySem.W.plainOver K C=true)(ht:PySem.W.takerIn K C name=some none)(hh:PySem.W.hasDictIn K C=true)(hw:PySem.Within mA ns)(hsz:ns.length<=sizeLine)(h:∀h',Xu h' x dx C (λ y=>if y=name then some v else mA y)->Heap.SameBut dx s.heap h'->Q () {s with heap:=h',toks:=s.toks+2}):
 wpAny (model prog w) A (setAttr (.ref x) name v) Q E s:=by
 obtain⟨od,J,hl⟩:=I.look;refine PySem.W.set_plain X J hs (PySem.W.osa_open (s:={s with toks:=s.toks+1}) (r:=none) X J hp ht λ b=>?_);obtain⟨cd,hc,aZ⟩:=PySem.W.any_some hh;have hx:s.heap.get? x=some ⟨.ref C,some dx,.plain,#[]⟩:=I.obj;refine wpAny_bind (wpAny_pure (wpAny_bind (wpAny_bind (wpAny_loadPart hx (wpAny_bind (PySem.W.Looks.here (s:={s with toks:=s.toks+1}) (PySem.W.looks_clsIn X hc) ?_))))));rw[aZ];refine wpAny_pure (a:=some dx) (wpAny_bind (wpAny_pure (wpAny_bind ?_)));refine wpAny_nsSet1 (s:={s with toks:=s.toks+1}) I.ns λ h' a8 aB=>?_;obtain⟨oD,esD,epD,wE,wP,wS⟩:=a8.count (PySem.Within.cons name v hw);refine wpAny_bind (wpAny_lookBehind wE (by rw[wP];exact pastItsLine_dict (zbv wS (by rw[za8];omega))) ?_);exact wpAny_pure (h _ ⟨(aB.2 _ (zbm I.ne)).trans I.obj,a8,I.ne⟩ aB)
def fY (X:K.In s.heap)(hm:PySem.W.makesIn K C=true)(hi:zb3 K (.ref C) "__init__" = some (some (.ref f)))(hf:PySem.W.typeIn K (.ref f)=some (.type "function"))(h:codeAny (model prog w) (A.under (.builtin "type.__call__" ⟨.ref C::vs,kw⟩)) (.call (.ref f) ⟨.ref (s.heap.objs.size+1)::vs,kw⟩) (PySem.W.InitBack (s.heap.objs.size+1) R)
  {s with heap:=(s.heap.push zc5).push (zcn C s.heap.objs.size)}):
 codeAny (model prog w) A (.call (.ref C) ⟨vs,kw⟩) R s:=by
 obtain⟨hh,g,d,t,os⟩:=s;exact PySem.W.make_core (PySem.W.makes_of X hm) (PySem.W.looks_findIn X hi) (λ self=>PySem.W.bind_fn X self hf) (.inl rfl) h
end
abbrev EW (f:Str)(v:V):List (Str×V)->List (Str×V)
 |[]=>[(f,v)]
 |(g,x)::r=>if g=f then (g,v)::r else (g,x)::EW f v r
def NV (f g:Str)(v:V):∀fs:List (Str×V),(EW f v fs).lookup g=if g=f then some v else fs.lookup g
 |[]=>by
  show List.lookup g [(f,v)]=_;by_cases h:g=f
  ·have hb:(g==f)=true:=beq_iff_eq.mpr h;simp only[List.lookup,hb,if_pos h]
  ·have hb:(g==f)=false:=beq_eq_false_iff_ne.mpr h;simp only[List.lookup,hb,if_neg h]
 |(k,x)::r=>by
  have ih:=NV f g v r;rw[show EW f v ((k,x)::r)=(if k=f then (k,v)::r else (k,x)::EW f v r) from rfl];by_cases hk:k=f
  ·rw[if_pos hk];by_cases h:g=k
   ·have hb:(g==k)=true:=beq_iff_eq.mpr h;simp only[List.lookup,hb,if_pos (h.trans hk)]
   ·have hb:(g==k)=false:=beq_eq_false_iff_ne.mpr h;simp only[List.lookup,hb,if_neg (λ e:g=f=>h (e.trans hk.symm))]
  ·rw[if_neg hk];by_cases h:g=k
   ·have hb:(g==k)=true:=beq_iff_eq.mpr h;simp only[List.lookup,hb,if_neg (λ e:g=f=>hk (h.symm.trans e))]
   ·have hb:(g==k)=false:=beq_eq_false_iff_ne.mpr h;simp only[List.lookup,hb];exact ih
def N8 (f:Str)(v:V):∀fs:List (Str×V),f∈(EW f v fs).map (·.1)/\∀g,g∈fs.map (·.1)->g∈(EW f v fs).map (·.1)
 |[]=>⟨by simp[EW],λ g h=>by simp at h⟩
 |(k,x)::r=>by
  obtain⟨i1,i2⟩:=N8 f v r;rw[show EW f v ((k,x)::r)=(if k=f then (k,v)::r else (k,x)::EW f v r) from rfl];by_cases hk:k=f
  ·rw[if_pos hk];subst hk;exact⟨by simp,λ g h=>by simpa using h⟩
  ·rw[if_neg hk];refine⟨?_,λ g h=>?_⟩
   ·rw[za6];exact za4 _ i1
   ·rw[za6] at h ⊢;rcases zac.mp h with e|e
    ·exact zac.mpr (.inl e)
    ·exact za4 _ (i2 g e)
def NW (f:Str)(v:V):∀fs:List (Str×V),(EW f v fs).length<=fs.length+1
 |[]=>by simp[EW]
 |(k,x)::r=>by
  have ih:=NW f v r;rw[show EW f v ((k,x)::r)=(if k=f then (k,v)::r else (k,x)::EW f v r) from rfl];by_cases hk:k=f
  ·rw[if_pos hk,za8,za8];omega
  ·rw[if_neg hk,za8,za8];omega
def I9.some_of (r:I9 (some v) o):∃u,o=some u/\RelV v u:=by
 cases o with
 |none=>exact (show False from r).elim
 |some u=>exact⟨u,rfl,r⟩
def I9.none_of (r:I9 none o):o=none:=by
 cases o with
 |none=>rfl
 |some u=>exact (show False from r).elim
def bK (r:RelV v u):PySem.W.handedIn u=true:=by
 cases v with
 |Av=>cases (show u=Value.none from r);rfl
 |bl b=>cases (show u=Value.bool b from r);rfl
 |int i=>obtain⟨t,e⟩:=(show ∃t,u=Value.int i t from r);cases e;rfl
 |str x=>obtain⟨t,e⟩:=(show ∃t,u=Value.str x t from r);cases e;rfl
 |tI b=>obtain⟨t,e⟩:=(show ∃t,u=Value.bytes b t from r);cases e;rfl
 |yK b=>obtain⟨t,e⟩:=(show ∃t,u=Value.float b t from r);cases e;rfl
 |ref a=>cases (show u=zb8 a from r);rfl
 |ty n=>cases (show u=Value.type n from r);rfl
section
variable {P:Program}{a:Addr}{fs cj:List (Str×V)}
def Ub (Aw:HE P w H h)(e:H a=some (.ins C dx fs)):∃mA,Xu h a dx C mA/\(∀f,I9 (fs.lookup f) (mA f))/\PySem.Within mA (fs.map (·.1))/\fs.length<=1000/\H dx=some (.own a):=by
 obtain⟨d,z,ne,ob,mA,n,r,q⟩:=(show Bo P w H h a (.ins C dx fs) from Aw a _ e);exact⟨mA,⟨ob,n,ne⟩,r,q,z,d⟩
end
structure Ve (K:za1)(C:Addr):Prop where
 pg:zd7 K C Str.empty=true
 hd:PySem.W.hasDictIn K C=true
 po:PySem.W.plainOver K C=true
 sa:zb3 K (.ref C) "__setattr__" = some (some (.builtin "object.__setattr__"))
def Ve.get {K}(c:Ve K C)(f:Str):zd7 K C f=true:=c.pg
abbrev KC (K:za1)(C:Addr)(f:Str):Prop:=zb3 K (.ref C) f=some none
def KC.zG {K}(n:KC K C f):PySem.W.takerIn K C f=some none:=by
 unfold PySem.W.takerIn;rw[show zb3 K (.ref C) f=some none from n];rfl
structure Meth (K:za1)(C:Addr)(m:Str)(f:Addr):Prop where
 at_:zb3 K (.ref C) m=some (some (.ref f))
 fn:PySem.W.isFn K (.ref f)=true
 kp:zbe K (.ref f)=true
section
variable {a:Addr}{fs:List (Str×V)}{f:Str}{v:V}
def Xv (I:Inv X pins σ H s)(e:H a=some (.ins C dx fs))(c:Ve X.K C)(n:KC X.K C f)(l:fs.lookup f=some v)(h:∀u s',Inv X pins σ H s'->RelV v u->Q u s'):wpAny (model X.prog X.w) A (getAttr (.ref a) f b) Q E s:=by
 obtain⟨mA,O,r,_,_,_⟩:=Ub I.Aw e;obtain⟨u,hu,ru⟩:=I9.some_of (v:=v) (o:=mA f) (by rw[<-l];exact r f);exact get_map I.NU O (c.get f) c.hd n hu (bK ru) (h u _ (I.tok _) ru)
def GO (I:Inv X pins σ H s)(e:H a=some (.ins C dx fs))(c:Ve X.K C)(k:Meth X.K C m g)(l:fs.lookup m=none)(h:Q (.ref g,[.ref a]) s):wpAny (model X.prog X.w) A (getMethod (.ref a) m pl) Q E s:=by
 obtain⟨mA,O,r,_,_,_⟩:=Ub I.Aw e;have hn:mA m=none:=I9.none_of (by rw[<-l];exact r m);exact fX I.NU O (c.get m) k.at_ k.fn hn h
def Xw (I:Inv X pins σ H s)(e:H a=some (.ins C dx fs))(c:Ve X.K C)(n:KC X.K C f)(hl:fs.length<1000)(ry:RelV y u)(h:∀s',Inv X pins σ (upd H a (.ins C dx (EW f y fs))) s'->Q () s'):wpAny (model X.prog X.w) A (setAttr (.ref a) f u) Q E s:=by
 obtain⟨mA,O,r,wi,_,ho⟩:=Ub I.Aw e;have hz:(fs.map (·.1)).length<=sizeLine:=by rw[za2,sizeLine_eq];omega
 refine mS I.NU O c.sa c.po n.zG c.hd wi hz λ h' O' sb=>h _ ?_;have hd:∃o,h'.get? dx=some o:=let ⟨o,_,_,e',_⟩:=O'.ns;⟨o,e'⟩;refine I.write (x:=a) (e:=dx) (by rw[e];exact zct) (.inr ho) (λ b q hb z=>(sb.2 b hb).trans z) hd ?_;refine⟨by rw[Ai O.ne];exact ho,?_,O.ne,O'.obj,_,O'.ns,λ g=>?_,λ g hg=>?_⟩
 ·have:=NW f y fs;omega
 ·show I9 ((EW f y fs).lookup g) (if g=f then some u else mA g);rw[NV];by_cases q:g=f
  ·rw[if_pos q,if_pos q];exact ry
  ·rw[if_neg q,if_neg q];exact r g
 ·by_cases q:g=f
  ·rw[q];exact (N8 f y fs).1
  ·refine (N8 f y fs).2 g (wi g λ z=>hg ?_);show (if g=f then some u else mA g)=none;rw[if_neg q];exact z
def Inv.made (I:Inv X pins σ H s):Inv X pins σ (upd (upd H s.heap.objs.size (.own (s.heap.objs.size+1))) (s.heap.objs.size+1) (.ins C s.heap.objs.size []))
 {s with heap:=(s.heap.push zc5).push (zcn C s.heap.objs.size)}:=by
 have e1:(s.heap.push zc5).get? s.heap.objs.size=some zc5:=zap s.heap rfl;have e2:((s.heap.push zc5).push (zcn C s.heap.objs.size)).get? (s.heap.objs.size+1)=some (zcn C s.heap.objs.size):=by
  have:=zap (s.heap.push zc5) (o:=zcn C s.heap.objs.size) rfl;rwa[Heap.size_push] at this
 have e3:(s.heap.push zc5).Ns s.heap.objs.size (λ _=>none):=⟨zc5,#[],_,e1,rfl,(λ e he=>absurd he (by simp)),λ _=>rfl⟩;have I1:=I.laid (a:=s.heap.objs.size) (o:=.own (s.heap.objs.size+1)) (h':=s.heap.push zc5) (t':=s.toks) (λ b u q=>zaa _ q) (zag _) ⟨_,e1⟩;refine I1.laid (a:=s.heap.objs.size+1) (o:=.ins C s.heap.objs.size []) (t':=s.toks) (λ b u q=>zaa _ q) (Nat.le_of_eq (Heap.size_push _ _)) ?_;have ne:s.heap.objs.size≠s.heap.objs.size+1:=zar (Nat.lt_succ_self _);refine⟨by rw[Ai ne,An],zbb _,ne,e2,λ _=>none,(Heap.Ns1.of_empty e3).at λ o q=>zaa _ q,λ _=>zct,λ y hy=>absurd rfl hy⟩
def mT (hb:attributeBase e f env (eval e env)=eval e env)(h:wpAny (model prog w) A (eval e env) (λ o s₁=>wpAny (model prog w) A (getAttr o f true) Q E s₁) E s):wpAny (model prog w) A (eval (.Attribute e f pos) env) Q E s:=
 Attribute_any_ h (by rw[arm_eval_Attribute,hb])
end
abbrev abG (K:za1)(ta:TE)(f:Str):TE:=λ σ H Q=>ta σ H λ x H1=>∃a C dx fs v,x=.ref a/\H1 a=some (.ins C dx fs)/\Ve K C/\KC K C f/\fs.lookup f=some v/\Q v H1
abbrev abH (K:za1)(ta tv:TE)(f:Str):TS:=λ D σ H=>tv σ H λ y H1=>ta σ H1 λ x H2=>∃a C dx fs,x=.ref a/\H2 a=some (.ins C dx fs)/\Ve K C/\KC K C f/\fs.length<1000/\
 D.nx σ (upd H2 a (.ins C dx (EW f y fs)))
section
variable {o value:Expr}{f:Str}{pos' aT:Pos}{tv:TE}
def uJ (he:PE X e ta)(hb:attributeBase e f X.env (eval e X.env)=eval e X.env):PE X (.Attribute e f pos) (abG X.K ta f):=by
 intro pins s σ H Q I h;refine mT hb (B9 (he pins s σ H _ I h) λ u s1 zz=>?_);obtain⟨x,H1,I1,rx,a,C,dx,fs,v,ex,ea,c,n,l,q⟩:=zz;subst ex;obtain rfl:u=zb8 a:=rx;exact Xv I1 ea c n l λ u' s2 I2 ru=>⟨v,H1,I2,ru,q⟩
def uK (ha:PE X o ta)(hv:PE X value tv)(hs:swapsWith value (some (.Attribute o f pos')) pos.line X.env=pure false):PS X (.Assign [.Attribute o f pos'] value pos) (abH X.K ta tv f):=by
 intro pins s σ H D I h;refine plainObj_wpAny_Assign_Attribute (B9 (hv pins s σ H _ I h) λ u s1 ⟨y,H1,I1,ry,q⟩=>B9 (ha pins s1 σ H1 _ I1 q) λ ov s2 zz=>?_) hs;obtain⟨x,H2,I2,rx,a,C,dx,fs,ex,ea,c,n,l,q2⟩:=zz;subst ex;obtain rfl:ov=zb8 a:=rx;exact Xw I2 ea c n l ry λ s3 I3=>⟨σ,_,I3,q2⟩
end
structure Br (k:Nat)(A:Around):Prop where
 hd:A.handled=none
 dp:A.depth+3*k+5<recursionLimit
 un:A.units+16*k+200<cLine
def Br.mono (r:Br k A)(h:j<=k):Br j A:=⟨r.hd,by have:=r.dp;omega,by have:=r.un;omega⟩
def Br.deeper (r:Br (k+1) A)(env:Env):Br k (A.deeper env):=
 ⟨r.hd,by have:=r.dp;show A.depth+1+3*k+5<_;omega,by have:=r.un;show A.units+3+16*k+200<_;omega⟩
def Xx:(A.under (.builtin "type.__call__" ⟨.ref C::us,kw⟩)).depth=A.depth+1:=by
 first|rfl|simp[Around.under,Code.weight,Code.isCreation,Code.isGuard,Code.isCaller,Code.frames,Code.isFrame,guardIds]
def Xy:(A.under (.builtin "type.__call__" ⟨.ref C::us,kw⟩)).units=A.units+1:=by
 first|rfl|simp[Around.under,Code.cUnits,Code.frames,Code.isFrame]
def Br.make (r:Br (k+1) A)(C:Addr)(us:List Value)(kw:List (Str×Value)):Br k (A.under (.builtin "type.__call__" ⟨.ref C::us,kw⟩)):=
 ⟨r.hd,by have:=r.dp;rw[Xx];omega,by have:=r.un;rw[Xy];omega⟩
def Br.depth (r:Br k A):A.depth<recursionLimit:=by have:=r.dp;omega
def Br.units (r:Br k A):A.units+64<cLine:=by have:=r.un;omega
abbrev uL:TA:=λ _ H Q=>Q [] H
abbrev rL (ta:TE)(tr:TA):TA:=λ σ H Q=>ta σ H λ x H1=>tr σ H1 λ xs H2=>Q (x::xs) H2
section
variable {t:TA}
def Ci:PA X [] uL:=λ _ _ _ _ H Q I h=>zcg ⟨[],H,I,.nil,h⟩
def Ba (ha:PE X e te)(hr:PA X es t)(hs: ~~~(starEach (e::es) X.env=(false,eval e X.env)::starEach es X.env)):PA X (e::es) (rL te t):=by
 intro pos pins s σ H Q I h;rw[hs];show wpAny _ _ (spliced ((false,eval e X.env)::backTo pos (starEach es X.env))) _ _ s;refine zc3 (B9 (ha pins s σ H _ I h) λ u s1 zz=>?_);obtain⟨x,H1,I1,r1,q1⟩:=zz;exact B9 (hr pos pins s1 σ H1 _ I1 q1) λ us s2 ⟨xs,H2,I2,r2,q2⟩=>⟨x::xs,H2,I2,.cons r1 r2,q2⟩
abbrev abI (t:TA):TE:=λ σ H Q=>t σ H λ xs H1=>xs.length<=sizeLine/\∀p,H1 p=none->Q (.ref p) (upd H1 p (.tup xs))
abbrev abJ (t:TA):TE:=λ σ H Q=>t σ H λ xs H1=>xs.length<=sizeLine/\∀p,H1 p=none->Q (.ref p) (upd H1 p (.lst xs))
def Xz {x1}(h:PA X es t):PE X (.Tuple es x1 pos) (abI t):=by
 intro pins s σ H Q I hq;refine wpAny_Tuple_spliced (B9 (h pos pins s σ H _ I hq) λ us s1 ⟨xs,H1,I1,r,z,q⟩=>⟨by rw[<-r.length];exact z,?_⟩);have hf:H1 s1.heap.objs.size=none:=I1.Aw.fresh (zag _);refine⟨.ref s1.heap.objs.size,upd H1 s1.heap.objs.size (.tup xs),I1.laid (t':=s1.toks) (λ b u e=>zaa _ e) (zag _) ?_,rfl,q _ hf⟩;exact⟨z,us,r,⟨_,zap _ rfl,rfl,_,rfl⟩⟩
def XA (h:PA X es t):PE X (.List es pos) (abJ t):=by
 intro pins s σ H Q I hq;refine wpAny_List_spliced (B9 (h pos pins s σ H _ I hq) λ us s1 ⟨xs,H1,I1,r,z,q⟩=>⟨by rw[<-r.length];exact z,?_⟩);have hf:H1 s1.heap.objs.size=none:=I1.Aw.fresh (zag _);refine⟨.ref s1.heap.objs.size,upd H1 s1.heap.objs.size (.lst xs),I1.laid (t':=s1.toks) (λ b u e=>zaa _ e) (zag _) ?_,rfl,q _ hf⟩;exact⟨z,us,0,r,zap _ rfl⟩
end
noncomputable abbrev Sp:=List V->Hp->VK->XK->Prop
variable {sp:Sp}
noncomputable abbrev YQ:=List Env->Hp->Shared->XK->Value->Shared->Prop
structure XB (P:Program)(w:World)(K:za1)(mg:Str->Option Value)(base:Heap)(A:Around)(outer:List Env)(s:Shared)(H:Hp):Prop where
 frames:A.frames=some outer
 mod:Mod K mg base
 bs:∀b o,base.get? b=some o->s.heap.get? b=some o/\H b=none
 mI:base.objs.size<=s.heap.objs.size
 N6:s.heap.FunFrames base outer
 tL:∀b∈eV outer,H b=none
 Aw:HE P w H s.heap
 bare:AllBare s.gens
variable {CX:YQ}
abbrev CE (outer:List Env)(P:Program)(w:World)(H:Hp)(s:Shared)(Q:VK)(u:Value)(s':Shared):Prop:=
 ∃v H',s'.os=s.os/\AllBare s'.gens/\Un (eV outer) [] H H' s.heap s'.heap/\HE P w H' s'.heap/\RelV v u/\Q v H'
abbrev CR (CX:YQ)(outer:List Env)(P:Program)(w:World)(H:Hp)(s:Shared)(Q:VK)(E:XK)(r:Result)(s':Shared):Prop:=
 match r with
 | .ok (.ret u)=>CE outer P w H s Q u s'
 | .ok _=>False
 | .error e=>CX outer H s E e s'
structure CL (P:Program)(w:World)(K:za1)(mg:Str->Option Value)(base:Heap)(CX:YQ)(k:Nat)(f:Addr)(fd:FuncData)(ps:List Str)(sp:Sp):Prop where
 len:∀vs H Q E,sp vs H Q E->vs.length=ps.length
 run:∀(A:Around) (outer:List Env) (s:Shared) (H:Hp) (args:Args) (us:List Value) (vs:List V) (Q:VK) (E:XK),Br k A->XB P w K mg base A outer s H->BindsTo s fd args (ps.zip us)->Vals vs us->sp vs H Q E->
  codeAny (model P w) A (.call (.ref f) args) (CR CX outer P w H s Q E) s
def XB.make {K}(e:XB P w K mg base A outer s H)(C:Addr)(us:List Value)(kw:List (Str×Value)):
 XB P w K mg base (A.under (.builtin "type.__call__" ⟨.ref C::us,kw⟩)) outer s H:=⟨by first|exact e.frames|(simpa [Around.under,Code.envs,Code.isFrame,pushEnvs] using e.frames),e.mod,e.bs,e.mI,e.N6,e.tL,e.Aw,e.bare⟩
section
variable {s':Shared}
def Inv.uM (I:Inv X pins σ H s):XB X.prog X.w X.K X.mg X.base X.A X.stack s H:=
 ⟨I.ok.frames,I.ok.mod,I.bs,zbv I.ok.mI I.sz,I.stack,I.YL,I.Aw,I.bare⟩
def Inv.after (I:Inv X pins σ H s)(h:CE X.stack X.prog X.w H s Q u s'):EP X pins σ Q u s':=by
 obtain⟨v,H',os,bare,un,Aw,r,q⟩:=h;obtain⟨hh,g,d,t,wT⟩:=s';obtain rfl:wT=s.os:=os;exact⟨v,H',I.call (h':=hh) (g':=g) (d':=d) (t':=t) (ch:=[]) un Aw bare (λ b z=>absurd z (by simp)),r,q⟩
end
abbrev zH (sp:Sp)(bo:List V)(E:XK)(t:TA):TE:=λ σ H Q=>t σ H λ vs H1=>sp (vs++bo) H1 Q E
abbrev zI (C:Addr)(sp:Sp)(bo:List V)(E:XK)(t:TA):TE:=λ σ H Q=>t σ H λ vs H1=>∀x dx,H1 x=none->H1 dx=none->dx≠x->
 sp (.ref x::(vs++bo)) (upd (upd H1 dx (.own x)) x (.ins C dx [])) (λ v H2=>v=.Av/\Q (.ref x) H2) E
abbrev Binds (K:za1)(fd:FuncData)(ps:List Str)(ds:List Value):Prop:=
 ∀(s:Shared) (us:List Value),K.In s.heap->(us++ds).length=ps.length->BindsTo s fd ⟨us,[]⟩ (ps.zip (us++ds))
def Binds.all {K}(h:∀us:List Value,us.length=ps.length->bindArgs fd ⟨us,[]⟩=pure (ps.zip us)):Binds K fd ps []:=λ s us _ hl=>by
 rw[zba] at hl ⊢;exact .of_eq (h us hl)
abbrev FU (CX:YQ)(X:Cx)(E:XK):Prop:=∀(pins:List (Addr×Obj)) (σ:St) (H:Hp) (s:Shared) (e:Value) (s':Shared),Inv X pins σ H s->CX X.stack H s E e s'->X.xe e s'
section
variable {k:Nat}{f:Addr}{bo:List V}{ds:List Value}{E:XK}{x m:Str}{p:Pos}{o:Expr}{t:TA}
def N9 (F:CL X.prog X.w X.K X.mg X.base CX k f fd ps sp)(hr:Br k X.A)(hb:Binds X.K fd ps ds)(hd:Vals bo ds)(hx:FU CX X E)(I:Inv X pins σ H s)(r:Vals vs us)(h:sp (vs++bo) H Q E):wpAny (model X.prog X.w) X.A (call (.ref f) us) (EP X pins σ Q) X.xe s:=by
 have r2:Vals (vs++bo) (us++ds):=r.append hd;have hl:(us++ds).length=ps.length:=by rw[<-r2.length];exact F.len _ _ _ _ h
 refine wpAny_call (codeAny_mono (F.run X.A X.stack s H ⟨us,[]⟩ (us++ds) (vs++bo) Q E hr I.uM (hb s us I.NU hl) r2 h) λ r s' hq=>?_);cases r with
 |error e=>exact hx pins σ H s e s' I hq
 |ok fl =>
  cases fl with
  |ret u=>exact I.after hq
  |next|brk|cont=>exact zce hq
def YR (F:CL X.prog X.w X.K X.mg X.base CX k f fd ps sp)(hr:Br k X.A)(hg:Gl X x)(hm:X.mg x=some (.ref f))(hk:zbe X.K (.ref f)=true)(hb:Binds X.K fd ps ds)(hd:Vals bo ds)(hx:FU CX X E)(ha:PA X (e::es) t)(aK:(x==("__debug__" : Str))=false:=by decide)(he: ~~~(starEach (e::es) X.env=(false,eval e X.env)::starEach es X.env))(hpl: ~~~((backTo pos (starEach es X.env)).any (·.1)=false)):
 PE X (.Call (.Name x p) (e::es) [] pos) (zH sp bo E t):=by
 intro pins s σ H Q I h;refine wpAny_Call_Name_kw (U8 I hg hm ?_ aK);refine PySem.W.callWith_K (h₀:=X.base) I.ok.mod.Xi hk (B9 (ha pos pins s σ H _ I h) λ us s1 ⟨vs,H1,I1,r,q⟩=>⟨I1.NU,?_⟩) he hpl;exact N9 F hr hb hd hx I1 r q
structure Mk (K:za1)(C f:Addr):Prop where
 makes:PySem.W.makesIn K C=true
 init:zb3 K (.ref C) "__init__" = some (some (.ref f))
 fn:PySem.W.isFn K (.ref f)=true
 kp:zbe K (.ref C)=true
def fZ (M:Mk X.K C f)(F:CL X.prog X.w X.K X.mg X.base CX k f fd ps sp)(hr:Br (k+1) X.A)(hb:Binds X.K fd ps ds)(hd:Vals bo ds)(hx:FU CX X E)(I:Inv X pins σ H s)(r:Vals vs us)(h:∀x dx,H x=none->H dx=none->dx≠x->sp (.ref x::(vs++bo)) (upd (upd H dx (.own x)) x (.ins C dx [])) (λ v H2=>v=.Av/\Q (.ref x) H2) E):
 wpAny (model X.prog X.w) X.A (call (.ref C) us) (EP X pins σ Q) X.xe s:=by
 have hq:=h (s.heap.objs.size+1) s.heap.objs.size (I.Aw.fresh (Nat.le_succ _)) (I.Aw.fresh (zag _)) (zar (Nat.lt_succ_self _));have I2:=Inv.made (C:=C) I;have r2:Vals (V.ref (s.heap.objs.size+1)::(vs++bo)) (zb8 (s.heap.objs.size+1)::(us++ds)):=.cons rfl (r.append hd);have hl:(zb8 (s.heap.objs.size+1)::us++ds).length=ps.length:=by
  have e:=r2.length;rw[F.len _ _ _ _ hq] at e;exact e.symm
 refine wpAny_call (fY (f:=f) I.NU M.makes M.init (beq_iff_eq.mp M.fn) (codeAny_mono (F.run _ X.stack _ _ ⟨zb8 (s.heap.objs.size+1)::us,[]⟩ (zb8 (s.heap.objs.size+1)::(us++ds)) _ _ E (hr.make C us [])
  (I2.uM.make C us []) (hb _ (zb8 (s.heap.objs.size+1)::us) I2.NU hl) r2 hq) λ r s' gl=>?_))
 cases r with
 |error e=>exact hx pins σ _ _ e s' I2 gl
 |ok fl =>
  cases fl with
  |ret u =>
   obtain⟨v,H',I3,rv,ev,q3⟩:=I2.after gl;subst ev;exact⟨rv,⟨V.ref (s.heap.objs.size+1),H',I3,rfl,q3⟩⟩
  |next|brk|cont=>exact zce gl
def mU (M:Mk X.K C f)(F:CL X.prog X.w X.K X.mg X.base CX k f fd ps sp)(hr:Br (k+1) X.A)(hg:Gl X x)(hm:X.mg x=some (.ref C))(hb:Binds X.K fd ps ds)(hd:Vals bo ds)(hx:FU CX X E)(ha:PA X (e::es) t)(aK:(x==("__debug__" : Str))=false:=by decide)(he: ~~~(starEach (e::es) X.env=(false,eval e X.env)::starEach es X.env))(hpl: ~~~((backTo pos (starEach es X.env)).any (·.1)=false)):
 PE X (.Call (.Name x p) (e::es) [] pos) (zI C sp bo E t):=by
 intro pins s σ H Q I h;refine wpAny_Call_Name_kw (U8 I hg hm ?_ aK);refine PySem.W.callWith_K (h₀:=X.base) I.ok.mod.Xi M.kp (B9 (ha pos pins s σ H _ I h) λ us s1 ⟨vs,H1,I1,r,q⟩=>⟨I1.NU,?_⟩) he hpl;exact fZ M F hr hb hd hx I1 r q
end
abbrev PK (X:Cx)(jt:List Keyword)(t:TA):Prop:=
 ∀(pos:Pos) (pins:List (Addr×Obj)) (s:Shared) (σ:St) (H:Hp) (Q:List V->Hp->Prop),Inv X pins σ H s->t σ H Q->wpAny (model X.prog X.w) X.A (evalAll ((backToKw pos (keywordEach jt X.env)).map (·.2))) (AP X pins σ Q) X.xe s
section
variable {k:Nat}{f:Addr}{ks:List Str}{E:XK}{x m:Str}{p a6:Pos}{o:Expr}{jt:List Keyword}{t tk:TA}{nm:Option Str}
def uN:PK X [] uL:=λ _ _ _ _ H Q I h=>wpAny_evalAll_nil ⟨[],H,I,.nil,h⟩
def mV (ha:PE X e te)(hr:PK X jt t):PK X (⟨nm,e,a6⟩::jt) (rL te t):=by
 intro pos pins s σ H Q I h;show wpAny _ _ (evalAll ((do let v <-eval e X.env;standAt pos;pure v)::(backToKw pos (keywordEach jt X.env)).map (·.2))) _ _ s;refine wpAny_evalAll_cons (wpAny_bind (B9 (ha pins s σ H _ I h) λ u s1 ⟨x,H1,I1,r1,q1⟩=>wpAny_bind (wpAny_standAt (wpAny_pure ?_))));exact B9 (hr pos pins s1 σ H1 _ I1 q1) λ us s2 ⟨xs,H2,I2,r2,q2⟩=>⟨x::xs,H2,I2,.cons r1 r2,q2⟩
variable {g:List Value->List Value->List Value}{gV:List V->List V->List V}
end
structure Ab (N P:List Str)(sc:Scope):Prop where
 kind:sc.kind=.function
 co:sc.isCoroutine=false
 gen:sc.isGenerator=false
 nd:N.Nodup
 pre:N.take P.length=P
 par:∀x∈P,sc.names.lookup x=some .local\/sc.names.lookup x=some .cell
 uO:∀y∈sc.names,y.2≠.free
def SS {kindOf}:∀ {binds:List (Str×Value)}{m:Str->Option Value},(∀v,(x,v)∉binds)->bindL kindOf binds m x=m x
 |[],_,_=>rfl
 |(n,v)::r,m,h=>by
  unfold bindL;rw[SS λ w hw=>h w (za4 _ hw)];split
  ·have:x≠n:=by rintro rfl;exact h v za3
   simp[this]
  ·rfl
def SU {kindOf}:∀ {binds:List (Str×Value)}{m:Str->Option Value},(∀v,(x,v)∉binds)->bindC kindOf binds m x=m x
 |[],_,_=>rfl
 |(n,v)::r,m,h=>by
  unfold bindC;rw[SU λ w hw=>h w (za4 _ hw)];split
  ·rfl
  ·have:x≠n:=by rintro rfl;exact h v za3
   simp[this]
def SV {kindOf:Str->Option NameKind}{x:Str}{v:Value}:∀ {P:List Str}{vs:List Value}{i:Nat}{m:Str->Option Value},P.Nodup->P[i]?=some x->vs[i]?=some v->kindOf x=some .local->
 bindL kindOf (P.zip vs) m x=some v
 |[],_,_,_,_,h,_,_|_::_,[],_,_,_,_,h,_=>by simp at h
 |p::P,w::vs,0,m,nd,h1,h2,hk=>by
  simp at h1 h2;subst h1;subst h2;show bindL kindOf ((p,w)::P.zip vs) m p=_;unfold bindL;rw[SS λ v hv=>(zbd.mp nd).1 (List.of_mem_zip hv).1,if_pos hk];simp
 |p::P,w::vs,i+1,m,nd,h1,h2,hk=>by
  show bindL kindOf ((p,w)::P.zip vs) m x=_;unfold bindL;exact SV (i:=i) (zbd.mp nd).2 (by simpa using h1) (by simpa using h2) hk
def SW {kindOf:Str->Option NameKind}{x:Str}{v:Value}:∀ {P:List Str}{vs:List Value}{i:Nat}{m:Str->Option Value},P.Nodup->P[i]?=some x->vs[i]?=some v->kindOf x≠some .local->
 bindC kindOf (P.zip vs) m x=some v
 |[],_,_,_,_,h,_,_|_::_,[],_,_,_,_,h,_=>by simp at h
 |p::P,w::vs,0,m,nd,h1,h2,hk=>by
  simp at h1 h2;subst h1;subst h2;show bindC kindOf ((p,w)::P.zip vs) m p=_;unfold bindC;rw[SU λ v hv=>(zbd.mp nd).1 (List.of_mem_zip hv).1,if_neg hk];simp
 |p::P,w::vs,i+1,m,nd,h1,h2,hk=>by
  show bindC kindOf ((p,w)::P.zip vs) m x=_;unfold bindC;exact SW (i:=i) (zbd.mp nd).2 (by simpa using h1) (by simpa using h2) hk
abbrev start (N:List Str)(vs:List V):St:=vs.map some++zak (N.length-vs.length) none
abbrev Vt (CX:YQ)(P:Program)(w:World)(K:za1)(mg:Str->Option Value)(base:Heap)(N:List Str)(qual:Str)(scope:Scope)(f:Addr)(cd:Value)(A:Around)(outer:List Env)(s:Shared)(H:Hp)(E:XK):Cx where
 prog:=P
 w:=w
 K:=K
 mg:=mg
 base:=base
 A:=A.deeper (envOfC qual scope s.heap.objs.size f cd)
 N:=N
 s₀:=s
 H₀:=H
 env:=envOfC qual scope s.heap.objs.size f cd
 outer:=outer
 stack:=envOfC qual scope s.heap.objs.size f cd::outer
 ex:=[]
 calm:=true
 fn:=λ _=>true
 pn:=[]
 xe:=λ e s'=>wpAny (model P w) (A.deeper (envOfC qual scope s.heap.objs.size f cd)) (leaving (envOfC qual scope s.heap.objs.size f cd) e) (λ _ ju=>CX outer H s E e ju) (λ e' ju=>CX outer H s E e' ju) s'
def Vu {sc:Scope}(h:sc.names.lookup x=some .cell):∃c,(cellsFrom n sc.names []).lookup x=some c:=by
 have q:=PySem.W.cellsFrom_some sc.names n [] (.inl h);exact zbx.mp q
def bL {K}{E}(S:Ab N ps scope)(hd:A.handled=none)(e0:XB P w K mg base A outer s H)(hl:vs.length=ps.length)(r:Vals vs us)(x:InCallC s s.heap.objs.size (bindL (envOfC qual scope s.heap.objs.size f cd).kindOf (ps.zip us) λ _=>none) (cellsFrom (s.heap.objs.size+1) scope.names []) (bindC (envOfC qual scope s.heap.objs.size f cd).kindOf (ps.zip us) λ _=>none) s1):
 Inv (Vt CX P w K mg base N qual scope f cd A outer s H E) [] (start N vs) H s1:=by
 have hpl:ps.length<=N.length:=by have:=congrArg List.length S.pre;rw[zbh] at this;omega
 obtain⟨h1,tk,rfl,hk⟩:=x.done;have jv:∀b:Addr,b∉(Vt CX P w K mg base N qual scope f cd A outer s H E).ex:=λ b z=>absurd (show b∈([]:List Addr) from z) (by simp);refine⟨⟨e0.mod,S.kind,rfl,rfl,zag _,λ y z c h1 h2=>?_,λ y hy=>?_,λ y c _ h=>?_,λ _=>hd,Around.frames_deeper e0.frames,.inr ⟨rfl,rfl⟩,λ b z=>absurd z (jv b),e0.bs,e0.mI,λ b _ _=>jv b,λ b z=>absurd z (jv b),e0.N6,e0.tL⟩,
  rfl,e0.bare,Un.kept hk,⟨_,x.toInCall.ns,λ i y v h1 h2 h3=>?_⟩,λ y c h=>⟨_,x.cell y c h⟩,e0.Aw.fresh (zag _),λ y c h=>?_,λ p hp=>absurd (show p∈([]:List (Addr×Obj)) from hp) (by simp),e0.Aw.kept hk,?_⟩
 ·exact name_of_addr x.apart (zda h1) (zda h2)
 ·have hy:scope.names.lookup y=some .cell\/scope.names.lookup y=some .free:=hy;rcases hy with hy|hy
  ·exact Vu hy
  ·exact absurd rfl (S.uO _ (zda hy))
 ·exact zbq (x.above y c (zda h))
 ·have hi:i<vs.length:=by
   unfold start at h2;by_cases hi:i<vs.length
   ·exact hi
   ·rw[zd5 (by simpa using hi)] at h2;rw[zcq] at h2;split at h2<;>cases h2
  have ha:vs[i]?=some v:=by
   unfold start at h2;rw[zcb (by simpa using hi),zax] at h2;cases e:vs[i]? with
   |none=>rw[e] at h2;cases h2
   |some a=>rw[e] at h2;cases h2;rfl
  obtain⟨u,hu,rv⟩:=r.get ha;have hp:ps[i]?=some y:=by
   rw[<-S.pre,List.getElem?_take_of_lt (by omega)];exact h1
  have va:ps.Nodup:=by rw[<-S.pre];exact S.nd.sublist (List.take_sublist _ _)
  refine⟨u,rv,?_⟩;rcases S.par y (zas hp) with k|k
  ·exact .inl ⟨k,SV va hp hu k⟩
  ·obtain⟨c,e⟩:=Vu (n:=s.heap.objs.size+1) k;refine .inr ⟨.inl k,c,e,?_⟩;have q:=x.cell y c e;rw[SW va hp hu (by show scope.names.lookup y≠_;rw[k];decide)] at q;exact q
 ·exact e0.Aw.fresh (zbq (x.above y c (zda h)))
 ·unfold start;show _=N.length;rw[zai,za2,List.length_replicate];omega
def Vv {K}{kV}(lk:K.lookup f=some ⟨oc,od,.func (zb7 name qual params body scope dV kV doc pm an AZ ct),Vw⟩)(aQ:zc6 K AZ qual=true)(S:Ab N ps scope)(len:∀vs H Q E,sp vs H Q E->vs.length=ps.length)(ck:∀(A:Around) (outer:List Env) (s:Shared) (H:Hp) (vs:List V) (Q:VK) (E:XK),Br k (A.deeper (envOfC qual scope s.heap.objs.size f AZ))->sp vs H Q E->
  ∃t,YM (Vt CX P w K mg base N qual scope f AZ A outer s H E) body t/\t {nx:=λ _ H'=>Q .Av H',rt:=Q} (start N vs) H):
 CL P w K mg base CX (k+1) f (zb7 name qual params body scope dV kV doc pm an AZ ct) ps sp:=by
 refine⟨len,λ A outer s H args us vs Q E hr e0 hb r b7=>?_⟩;have hl:=len _ _ _ _ b7;have KX:K.In s.heap:=e0.mod.Xi.keeps λ b o e=>(e0.bs b o e).1;have lim:s.heap.NoLimit:=e0.mod.nolimit.keeps λ b o e=>(e0.bs b o e).1;have jw:∀y∈ps.zip us,scope.names.lookup y.1=some .local\/(scope.names.lookup y.1=some .cell/\((cellsFrom (s.heap.objs.size+1) scope.names []).lookup y.1).isSome=true):=λ⟨n,v⟩ hy=>by
  rcases S.par n (List.of_mem_zip hy).1 with q|q
  ·exact .inl q
  ·exact .inr ⟨q,PySem.W.cellsFrom_some _ _ _ (.inl q)⟩
 refine codeAny_call_function hr.depth (KX _ _ lk) rfl S.co S.gen rfl (PySem.W.codeRec_of KX aQ) (hb _ _ _ _ ?_);refine wpAny_newFunctionEnv_cells S.kind jw λ env he s1 x=>?_;subst he;refine⟨lim.keeps x.toInCall.keep,codeAny_func ?_⟩;obtain⟨t,ht,hq⟩:=ck A outer s H vs Q E (hr.deeper _) b7;have I:Inv (Vt CX P w K mg base N qual scope f AZ A outer s H E) [] (start N vs) H s1:=bL S hr.hd e0 hl r x;refine wpAny_mono (ht [] s1 (start N vs) H _ I hq) (λ fl s' hs=>?_) λ e s' hs=>hs;have fin:∀ {σ':St} {H':Hp} {v:V} {u:Value},Inv (Vt CX P w K mg base N qual scope f AZ A outer s H E) [] σ' H' s'->RelV v u->Q v H'->CE outer P w H s Q u s':=
  fun {σ' H' v u} J rv q=>⟨v,H',J.os,J.bare,J.base,J.Aw,rv,q⟩
 cases fl with
 |ret u =>
  obtain⟨v,σ',H',J,rv,q⟩:=hs;exact fin J rv q
 |next =>
  obtain⟨σ',H',J,q⟩:=hs;exact fin (v:=V.Av) (u:=Value.none) J rfl q
 |brk =>
  obtain⟨_,_,_,q⟩:=hs;exact zce q
 |cont =>
  obtain⟨_,_,_,q⟩:=hs;exact zce q
section
variable {x:Str}{p:Pos}{t:TA}{id T:String}{r:List V->Hp->VK->Prop}
abbrev tCB (r:List V->Hp->VK->Prop)(t:TA):TE:=λ σ H Q=>t σ H λ vs H1=>r vs H1 Q
def Vx (hc:Gd X (.builtin id) r)(hg:Gl X x)(hm:X.mg x=none)(hv:bootBuiltins x=some (.builtin id))(ha:PA X (e::es) t)(hn:x ≠ "__name__" := by decide)(aK:(x==("__debug__" : Str))=false:=by decide)(he: ~~~(starEach (e::es) X.env=(false,eval e X.env)::starEach es X.env))(hpl: ~~~((backTo pos (starEach es X.env)).any (·.1)=false)):PE X (.Call (.Name x p) (e::es) [] pos) (tCB r t):=by
 intro pins s σ H Q I h;refine wpAny_Call_Name_kw (Ei I hg hm hv ?_ hn aK);exact PyProof.Rows.callWith_builtin1 (B9 (ha pos pins s σ H _ I h) λ us s1 ⟨vs,H1,I1,r1,q1⟩=>hc pins s1 σ H1 vs us Q I1 r1 q1) he hpl
def Na (hc:Gd X (.type T) r)(hg:Gl X x)(hm:X.mg x=none)(hv:bootBuiltins x=some (.type T))(ha:PA X (e::es) t)(hn:x ≠ "__name__" := by decide)(aK:(x==("__debug__" : Str))=false:=by decide)(he: ~~~(starEach (e::es) X.env=(false,eval e X.env)::starEach es X.env))(hpl: ~~~((backTo pos (starEach es X.env)).any (·.1)=false)):PE X (.Call (.Name x p) (e::es) [] pos) (tCB r t):=by
 intro pins s σ H Q I h;refine wpAny_Call_Name_kw (Ei I hg hm hv ?_ hn aK);exact zbl (B9 (ha pos pins s σ H _ I h) λ us s1 ⟨vs,H1,I1,r1,q1⟩=>hc pins s1 σ H1 vs us Q I1 r1 q1) he hpl
end
end L2
namespace HT
open PySem PyProof.Rows
abbrev lexLt:List Int->List Int->Bool
 |[],[]=>false
 |[],_::_=>true
 |_::_,[]=>false
 |x::xs,y::ys=>if x=y then lexLt xs ys else decide (x<y)
def GP (x y:Int)(xs ys:List Int):lexLt (x::xs) (y::ys)=if x=y then lexLt xs ys else decide (x<y):=rfl
def FV:lexLt [] []=false:=rfl
def PZ (y:Int)(ys:List Int):lexLt [] (y::ys)=true:=rfl
def Q1 (x:Int)(xs:List Int):lexLt (x::xs) []=false:=rfl
def gB (A:Around)(s:Shared)(a:Int)(t:Tok)(c:Int)(u:Tok):∃e,SeqAt.EqAt A s (.int a t) (.int c u) e/\(e=true↔a=c):=
 ⟨(a==c),SeqAt.EqAt.int_int a t c u,by simp⟩
def gC (A:Around)(s:Shared)(a:Int)(t:Tok)(c:Int)(u:Tok)(prog:Program)(w:World)(E:Value->Shared->Prop)(Q:Value->Shared->Prop)(h:Q (.bool (decide (a<c))) s):
 wpAny (model prog w) A (richCompare .Lt (.int a t) (.int c u)) Q E s:=
 (PyProof.Rows.lt_int h:wpAny (model prog w) A (compareOp .Lt (.int a t) (.int c u)) Q E s)
section
open PySem.SeqAt
open PySem.AutoSeq1 (wpAny_loadPart')
open PySem.MeetsSeq PySem.MeetsSeq2 PySem.MeetsSeq3
def Sh (l b:Addr)(items ap:Array Value)(n n2:Nat)(dd pz:Option Addr)(sl jx:Array (Option Value))(ns ms:List Int)(hi:IntsAre items.toList ns)(hj:IntsAre ap.toList ms):
 Meets (Builtin.«tuple.__lt__» ⟨[.ref l,.ref b],[]⟩)
  (λ _ R s=>s.heap.get? l=some {cls:=.type "tuple",dict:=dd,data:=.seq items n,slots:=sl}/\s.heap.get? b=some {cls:=.type "tuple",dict:=pz,data:=.seq ap n2,slots:=jx}/\
   R (.ok (.ret (.bool (lexLt ns ms)))) s):=
 .of_wp λ prog w A R s h=>by
  obtain⟨hp,g,d,tk,os⟩:=s;obtain⟨hl,hb,h⟩:=h;have f2:=AutoSeq1.sub_tuple_tuple;have z1:items.size=ns.length:=by rw[<-hi.length];simp
  have z2:ap.size=ms.length:=by rw[<-hj.length];simp
  wp_walk using wpAny_loadPart' hl,wpAny_loadPart' hb,wpAny_forIn_list _ (λ rest b s'=>b.1=none/\s'=⟨hp,g,d,tk,os⟩/\∃(vs ws:List Value) (dn jd:List Int),rest=vs.zip ws/\
   IntsAre vs dn/\IntsAre ws jd/\dn.length+ap.size=jd.length+items.size/\R (.ok (.ret (.bool (lexLt dn jd)))) ⟨hp,g,d,tk,os⟩) _
  case turn =>
   rintro ⟨y,x⟩ rest b s' ⟨ay,rfl,vs,ws,dn,jd,hz,p6,nj,hlen,hR⟩;cases p6 with
   |nil=>rw[List.zip_nil_left] at hz;cases hz
   |cons a t p7 =>
    cases nj with
    |nil=>rw[List.zip_nil_right] at hz;cases hz
    |cons c u p8 =>
     rw[List.zip_cons_cons] at hz;injection hz with xa fg
     injection xa with hy hx
     subst hy hx;rw[GP] at hR;simp only[za8] at hlen;obtain⟨e,he,jy⟩:=gB A.in1 ⟨hp,g,d,tk,os⟩ a t c u;refine wpAny_bind (he prog w _ _ ?_);cases e with
     |true =>
      rw[if_pos (jy.mp rfl)] at hR
      wp_walk
      exact⟨rfl,rfl,_,_,_,_,fg,p7,p8,by omega,hR⟩
     |false =>
      rw[if_neg (λ q=>absurd (jy.mpr q) zav)] at hR;have xb:=gC A.in1 ⟨hp,g,d,tk,os⟩ a t c u prog w
      wp_walk using xb
      exact⟨_,rfl,by simpa using hR⟩
  case fin =>
   rintro ⟨b1,b2⟩ s' ⟨ay,rfl,vs,ws,dn,jd,hz,p6,nj,hlen,hR⟩;simp only at ay;subst ay;have hv:lexLt dn jd=decide (items.size<ap.size):=by
    cases p6 with
    |nil =>
     cases nj with
     |nil =>
      simp only[List.length_nil] at hlen;rw[FV];exact (decide_eq_false (by omega)).symm
     |cons c u hw =>
      simp only[List.length_nil,za8] at hlen;rw[PZ];exact (decide_eq_true (by omega)).symm
    |cons a t hv =>
     cases nj with
     |nil =>
      simp only[List.length_nil,za8] at hlen;rw[Q1];exact (decide_eq_false (by omega)).symm
     |cons c u hw =>
      rw[List.zip_cons_cons] at hz;cases hz
   rw[hv] at hR
   wp_walk
   exact⟨_,rfl,by simpa [Builtin.Tuple.tupleCompareSizes] using hR⟩
  case h =>
   exact⟨rfl,rfl,items.toList,ap.toList,ns,ms,rfl,hi,hj,by omega,h⟩
end
section
variable {prog:Program}{w:World}{A:Around}{E:Value->Shared->Prop}{s:Shared}
def Q2 (hl:IsTup s.heap l items)(hb:IsTup s.heap b ap)(hi:IntsAre items.toList ns)(hj:IntsAre ap.toList ms)(hu:A.units<cLine)(h:Q (.bool (lexLt ns ms)) s):wpAny (model prog w) A (compareOp .Lt (.ref l) (.ref b)) Q E s:=by
 obtain⟨⟨cls,dd,data,sl⟩,ho,hc,n,hd⟩:=id hl;obtain⟨⟨xc,pz,data2,jx⟩,vb,vc,n2,hd2⟩:=id hb;simp only at hc hd vc hd2;subst hc hd vc hd2;exact richCompare_meets_room (op:=.Lt) ⟨_,ho,rfl⟩ ⟨_,vb,rfl⟩ PySem.F.slot_tuple_lt PySem.F.entry_tuple_lt (PySem.F.args_tuple_lt_2 _ _) (Sh l b items ap n n2 dd pz sl jx ns ms hi hj)
  ⟨ho,vb,show Value.bool (lexLt ns ms)≠Value.notImplemented/\Q (.bool (lexLt ns ms)) s from ⟨(λ x=>nomatch x),h⟩⟩ hu
abbrev Q3 (n d:Nat):Option Int->Nat
 |none=>d
 |some v=>if v<0 then (v+(n:Int)).toNat else min v.toNat n
def Vy (n d:Nat):Q3 n d none=d:=rfl
def P9 (n d k:Nat):Q3 n d (some (k:Int))=min k n:=by
 show (if (k:Int)<0 then ((k:Int)+(n:Int)).toNat else min (k:Int).toNat n)=min k n;rw[if_neg (by omega),zbj]
end
end HT
namespace L2
open PySem PySem.Spec PyProof.Rows
noncomputable abbrev TO:=St->Hp->(Option Int->Hp->Prop)->Prop
abbrev PO (X:Cx)(e:Option Expr)(t:TO):Prop:=
 ∀(pins:List (Addr×Obj)) (s:Shared) (σ:St) (H:Hp) (Q:Option Int->Hp->Prop),Inv X pins σ H s->t σ H Q->
  wpAny (model X.prog X.w) X.A (evalPart e X.env) (λ u s'=>∃o H',Inv X pins σ H' s'/\IsPart u o/\Q o H') X.xe s
abbrev mW:TO:=λ _ H Q=>Q none H
abbrev zJ (t:TE):TO:=λ σ H Q=>t σ H λ x H1=>∃i,x=.int i/\Q (some i) H1
def intsAre_of:∀ {us:List Value},Vals (ns.map V.int) us->IntsAre us ns:=by
 induction ns with
 |nil=>intro us r;rw[zcy] at r;cases r;exact .nil
 |cons n ns ih =>
  intro us r;rw[za6] at r;cases r with
  |cons r1 r2 =>
   obtain⟨t,e⟩:=r1;subst e;exact .cons n t (ih r2)
section
variable {X:Cx}{e:Expr}{te:TE}{lo hi:Option Expr}{tl th:TO}{pos p2:Pos}
def mX:PO X none mW:=by
 intro pins s σ H Q I h;rw[evalPart_none];exact wpAny_pure ⟨none,H,I,.none,h⟩
def mY (h:PE X e te):PO X (some e) (zJ te):=by
 intro pins s σ H Q I hw;rw[evalPart_some];refine B9 (h pins s σ H _ I hw) λ u s1 zz=>?_;obtain⟨x,H1,I1,r1,q1⟩:=zz;obtain⟨i,rfl,q⟩:=q1;obtain⟨t,rfl⟩:=r1;exact⟨some i,H1,I1,.int i t,q⟩
abbrev SlR (X:Cx)(r:V->Option Int->Option Int->Hp->VK->Prop):Prop:=
 ∀(pins:List (Addr×Obj)) (s:Shared) (σ:St) (H:Hp) (x:V) (v vl vu:Value) (lo hi:Option Int) (sl:Addr) (Q:VK),Inv X pins σ H s->RelV x v->s.heap.IsSliceOf sl vl vu .none->IsPart vl lo->IsPart vu hi->r x lo hi H Q->
  ∃T id,typeLookup (.type T) "__getitem__" = pure (some (.builtin id))/\s.TypeIs v T/\wpAny (model X.prog X.w) X.A (getItem v (.ref sl)) (EP X pins σ Q) X.xe s
abbrev tSl (r:V->Option Int->Option Int->Hp->VK->Prop)(te:TE)(tl th:TO):TE:=λ σ H Q=>te σ H λ x H1=>tl σ H1 λ l H2=>th σ H2 λ u H3=>r x l u H3 Q
def gD (hr:SlR X r)(he:PE X e te)(hl:PO X lo tl)(hu:PO X hi th):PE X (.Subscript e (.Slice lo hi none p2) pos) (tSl r te tl th):=by
 intro pins s σ H Q I h;refine Subscript_ (B9 (he pins s σ H _ I h) λ v s1 zz=>?_);obtain⟨x,H1,I1,r1,q1⟩:=zz;refine wpAny_Slice (B9 (hl pins s1 σ H1 _ I1 q1) λ vl s2 ⟨l,H2,I2,pl,q2⟩=>B9 (hu pins s2 σ H2 _ I2 q2) λ vu s3 zz=>?_);obtain⟨u,H3,I3,pu,q3⟩:=zz;rw[evalPart_none];refine wpAny_pure ?_;have I4:Inv X pins σ H3 {s3 with heap:=s3.heap.push {cls:=.type "slice",data:=.fields #[vl,vu,.none]} }:=I3.kept (t':=s3.toks) λ b ob q=>zaa _ q;obtain⟨T,id,hT,ht,hg⟩:=hr pins {s3 with heap:=s3.heap.push {cls:=.type "slice",data:=.fields #[vl,vu,.none]} } σ H3 x v vl vu l u s3.heap.objs.size Q I4 r1 (Heap.IsSliceOf.new ..) pl pu q3;show wpAny (model X.prog X.w) X.A (subscriptTail e (.Slice lo hi none p2) v (.ref s3.heap.objs.size)) (EP X pins σ Q) X.xe {s3 with heap:=s3.heap.push {cls:=.type "slice",data:=.fields #[vl,vu,.none]} };exact tail_any (ops:=[.ref s3.heap.objs.size,v]) ht hT hg (by with_unfolding_all rfl)
abbrev gE (xs:List V)(lo hi:Option Int):List V:=(xs.drop (HT.Q3 xs.length 0 lo)).take (HT.Q3 xs.length xs.length hi-HT.Q3 xs.length 0 lo)
def Vz (xs:List V)(lo hi:Option Int):(gE xs lo hi).length<=xs.length:=by
 unfold gE;rw[zbh,zck];omega
abbrev zK (K:za1):R2:=λ x y H Q=>∃a b ns ms,x=.ref a/\y=.ref b/\FE K H a (ns.map V.int)/\FE K H b (ms.map V.int)/\Q (.bl (HT.lexLt ns ms)) H
def gF (hu:X.A.units<cLine):GN X (compareOp .Lt) (zK X.K):=by
 intro pins s σ H x y v u Q I rx ry h;obtain⟨a,b,ns,ms,rfl,rfl,ha,hb,q⟩:=h;cases rx;cases ry;obtain⟨aa,r1,p1,_⟩:=I.tuple ha;obtain⟨aL,r2,p2,_⟩:=I.tuple hb;have i1:IntsAre aa.toArray.toList ns:=intsAre_of r1;have i2:IntsAre aL.toArray.toList ms:=intsAre_of r2;exact HT.Q2 p1 p2 i1 i2 hu ⟨.bl (HT.lexLt ns ms),H,I,rfl,q⟩
end
abbrev YS (n:Nat)(i:Int):Option Nat:=if 0<=i then (if i<n then some i.toNat else none) else if -(n:Int)<=i then some (i+n).toNat else none
abbrev Xj {α:Type}(xs:List α)(i:Int):Option α:=(YS xs.length i).bind λ j=>xs[j]?
def YT (h:YS n i=some j):seqIndex? i n=some j/\j<n/\-(n:Int)<=i/\i<n:=by
 unfold YS at h;by_cases h0:0<=i
 ·rw[if_pos h0] at h;by_cases h1:i<n
  ·rw[if_pos h1] at h;have e:i.toNat=j:=zao h;exact⟨by rw[seqIndex_of h0 h1,e],by omega,by omega,h1⟩
  ·rw[if_neg h1] at h;cases h
 ·rw[if_neg h0] at h;by_cases h1 : -(n:Int)<=i
  ·rw[if_pos h1] at h;have e:(i+n).toNat=j:=zao h;exact⟨by rw[seqIndex_neg (by omega) h1,e],by omega,h1,by omega⟩
  ·rw[if_neg h1] at h;cases h
def YU {α:Type}{xs}{v:α}(h:Xj xs i=some v):∃j,seqIndex? i xs.length=some j/\xs[j]?=some v/\j<xs.length/\-(xs.length:Int)<=i/\i<xs.length:=by
 unfold Xj at h;cases e:YS xs.length i with
 |none=>rw[e] at h;cases h
 |some j =>
  rw[e] at h;obtain⟨h1,h2,h3,h4⟩:=YT e;exact⟨j,h1,h,h2,h3,h4⟩
abbrev Pa (b:Expr):Prop:=∀o i,subscripted b false o i=operate [o,i] (getItem o i)
abbrev mZ (X:Cx)(r:R2):Prop:=
 ∀(value slice:Expr) (pins:List (Addr×Obj)) (s:Shared) (σ:St) (H:Hp) (x y:V) (v u:Value) (Q:VK),Inv X pins σ H s->RelV x v->RelV y u->r x y H Q->
  subscripted slice false v u=operate [v,u] (getItem v u)->wpAny (model X.prog X.w) X.A (subscriptTail value slice v u) (EP X pins σ Q) X.xe s
abbrev MtR (X:Cx)(id:String)(r:V->List V->Hp->VK->Prop):Prop:=
 ∀(pins:List (Addr×Obj)) (s:Shared) (σ:St) (H:Hp) (x:V) (xs:List V) (v:Value) (us:List Value) (Q:VK),Inv X pins σ H s->RelV x v->Vals xs us->r x xs H Q->
  wpAny (model X.prog X.w) X.A (call (.builtin id) (v::us)) (EP X pins σ Q) X.xe s
section
variable {X:Cx}{a b:Expr}{ta tb:TE}{pos:Pos}
def mZ.or (h:mZ X r)(h':mZ X r'):mZ X (λ x y H Q=>r x y H Q\/r' x y H Q):=by
 intro value slice pins s σ H x y v u Q I rx ry q hs;rcases q with q|q
 ·exact h value slice pins s σ H x y v u Q I rx ry q hs
 ·exact h' value slice pins s σ H x y v u Q I rx ry q hs
def rM (hr:mZ X r)(ha:PE X a ta)(hb:PE X b tb)(hs:Pa b):PE X (.Subscript a b pos) (xY r ta tb):=by
 intro pins s σ H Q I h;exact Subscript_ (uB ha hb I h λ v u s2 x y H2 I2 rx ry q=>hr a b pins s2 σ H2 x y v u Q I2 rx ry q (hs _ _))
abbrev uP (K:za1):R2:=λ x y H Q=>∃p xs i v,x=.ref p/\y=.int i/\DU K H p xs/\Xj xs i=some v/\Q v H
abbrev uQ (K:za1):R2:=λ x y H Q=>∃p xs i v,x=.ref p/\y=.int i/\FE K H p xs/\Xj xs i=some v/\Q v H
def YV:mZ X (uP X.K):=by
 intro value slice pins s σ H x y v u Q I rx ry h hs;obtain⟨p,xs,i,z,rfl,rfl,hq,he,q⟩:=h;cases rx;obtain⟨t,rfl⟩:=ry;obtain⟨aa,r,pl,hz⟩:=I.list hq;obtain⟨j,h1,h2,h3,h4,h5⟩:=YU he;obtain⟨w,ew,aU⟩:=r.get h2;have hl:=r.length;have hn:=N7;have fin:EP X pins σ Q w s:=⟨z,H,I,aU,q⟩;by_cases h0:0<=i
 ·have hj:i.toNat=j:=by
   rw[seqIndex_of h0 h5] at h1;exact zao h1
  exact item_listR pl.isList h0 (by omega) (by rw[hj];simpa using ew) fin hs
 ·have hj:(i+(aa.toArray.size:Int)).toNat=j:=by
   rw[seqIndex_neg (by omega) h4] at h1;rw[zab,<-hl];exact zao h1
  exact subscriptTail_builtinR (x:=w) pl.isList.typeIs slot_list_getitem.lookup
   (wpAny_getItem_list_neg (Q:=λ r s'=>r=w/\EP X pins σ Q r s') pl.isList (by omega) (by rw[zab]<;>omega) (by omega) (by rw[hj];simpa using ew) ⟨rfl,fin⟩) hs
def gH:mZ X (uQ X.K):=by
 intro value slice pins s σ H x y v u Q I rx ry h hs;obtain⟨p,xs,i,z,rfl,rfl,hq,he,q⟩:=h;cases rx;obtain⟨t,rfl⟩:=ry;obtain⟨aa,r,pl,hz⟩:=I.tuple hq;obtain⟨j,h1,h2,h3,h4,h5⟩:=YU he;obtain⟨w,ew,aU⟩:=r.get h2;have hl:=r.length;have hn:=N7;have fin:EP X pins σ Q w s:=⟨z,H,I,aU,q⟩;exact subscriptTail_builtinR (x:=w) pl.typeIs slot_tuple_getitem.lookup
  (getItem_tuple (j:=j) (Q:=λ r s'=>r=w/\EP X pins σ Q r s') pl (by omega) (by omega) (by rw[zab,<-hl];exact h1) (by simpa using ew) ⟨rfl,fin⟩) hs
def XC (aa:List Value)(n j:Nat)(u:Value):Obj.mapSeq (·.setIfInBounds j u) {cls:=.type "list",data:=.seq aa.toArray n}={cls:=.type "list",data:=.seq (aa.set j u).toArray n}:=by
 simp[Obj.mapSeq]
def Inv.lst (I:Inv X pins σ H s)(h:H p=some (.lst xs)):
 ∃(aa:List Value) (n:Nat),Vals xs aa/\s.heap.get? p=some {cls:=.type "list",data:=.seq aa.toArray n}/\xs.length<=sizeLine:=by
 obtain⟨z,aa,n,r,e⟩:=I.Aw p _ h;exact⟨aa,n,r,e,z⟩
def Inv.uR {aa:List Value}(I:Inv X pins σ H s)(h:H p=some (.lst xs))(ho:s.heap.get? p=some {cls:=.type "list",data:=.seq aa.toArray n})(hf:f {cls:=.type "list",data:=.seq aa.toArray n}={cls:=.type "list",data:=.seq its'.toArray n' })(r:Vals ys its')(hz:ys.length<=sizeLine)(t:Nat):
 Inv X pins σ (upd H p (.lst ys)) {s with heap:=s.heap.update p f,toks:=t}:=by
 have e:(s.heap.update p f).get? p=some {cls:=.type "list",data:=.seq its'.toArray n' }:=by
  rw[Heap.get?_update_self f ho (by rw[hf]<;>rfl),hf]
 refine I.write (x:=p) (e:=p) (by rw[h];trivial) (.inl rfl) (λ b u hb q=>(Heap.get?_update_other _ _ (zbm hb)).trans q) ⟨_,e⟩ ?_;exact⟨hz,its',n',r,e⟩
abbrev zL:V->V->V->Hp->(Hp->Prop)->Prop:=λ o i v H Q=>∃p xs k j,o=.ref p/\i=.int k/\H p=some (.lst xs)/\YS xs.length k=some j/\Q (upd H p (.lst (xs.set j v)))
def set_list:yY X zL:=by
 intro pins s σ H o i v ov iv u Q I ro ri rv h;obtain⟨p,xs,k,j,rfl,rfl,hp,hj,q⟩:=h;cases ro;obtain⟨t,rfl⟩:=ri;obtain⟨aa,n,r,ho,hz⟩:=I.lst hp;obtain⟨h1,h2,h3,h4⟩:=YT hj;have hl:=r.length;have hn:=N7;have I':Inv X pins σ (upd H p (.lst (xs.set j v))) {s with heap:=s.heap.update p (Obj.mapSeq (·.setIfInBounds j u))}:=
  I.uR hp ho (XC aa n j u) (r.set rv j) (by rw[zcd];exact hz) s.toks
 by_cases h0:0<=k
 ·have hk:k.toNat=j:=by
   rw[seqIndex_of h0 h4] at h1;exact zao h1
  exact PySem.W.ki_setAt ho h0 (by omega) (by rw[zab,<-hl];exact h4) (by rw[hk];exact⟨_,I',q⟩)
 ·have hk:(k+(aa.toArray.size:Int)).toNat=j:=by
   rw[seqIndex_neg (by omega) h3] at h1;rw[zab,<-hl];exact zao h1
  exact PySem.W.ki_setBack ho (by omega) (by rw[zab,<-hl];exact h3) (by omega) (by rw[hk];exact⟨_,I',q⟩)
def Uc (lo hi:Option Int)(n:Nat):(sliceBounds lo hi none n).1=((HT.Q3 n 0 lo:Nat):Int)/\(sliceBounds lo hi none n).2.1=((HT.Q3 n n hi:Nat):Int)/\(sliceBounds lo hi none n).2.2=1:=by
 refine⟨?_,?_,rfl⟩
 ·cases lo with
  |none=>simp[sliceBounds,HT.Q3]
  |some i =>
   simp only[sliceBounds,HT.Q3,Option.getD_none,show (1:Int) > 0 by decide,if_true];by_cases h:i<0
   ·simp only[h,if_true]<;>omega
   ·simp only[h,if_false]<;>omega
 ·cases hi with
  |none=>simp[sliceBounds,HT.Q3]
  |some i =>
   simp only[sliceBounds,HT.Q3,Option.getD_none,show (1:Int) > 0 by decide,if_true];by_cases h:i<0
   ·simp only[h,if_true]<;>omega
   ·simp only[h,if_false]<;>omega
def Si (aa:List Value)(lo hi:Option Int):slicePick aa.toArray lo hi none=((aa.drop (HT.Q3 aa.length 0 lo)).take (HT.Q3 aa.length aa.length hi-HT.Q3 aa.length 0 lo)).toArray:=by
 obtain⟨h1,h2,h3⟩:=Uc lo hi aa.toArray.size;unfold slicePick;rw[h1,h2,h3];simp only[sliceRange_one,pick_run,zab]<;>rfl
abbrev abL (K:za1):V->Option Int->Option Int->Hp->VK->Prop:=λ x lo hi H Q=>∃a xs,x=.ref a/\DU K H a xs/\∀p,H p=none->Q (.ref p) (upd H p (.lst (gE xs lo hi)))
def nA:SlR X (abL X.K):=by
 intro pins s σ H x v vl vu lo hi sl Q I rx hs pl pu h;obtain⟨a,xs,rfl,hx,q⟩:=h;cases rx;obtain⟨aa,r,ht,hz⟩:=I.list hx;have hlen:=r.length;refine⟨"list",_,slot_list_getitem.lookup,ht.isList.typeIs,?_⟩;refine wpAny_getItem_list_slice ht.isList hs pl pu .none (by simp) ?_ (by rw[zab]<;>omega);rw[Si,<-hlen];refine⟨.ref s.heap.objs.size,_,I.laid (t':=s.toks) (o:=.lst (gE xs lo hi)) (λ b ob q=>zaa _ q) (zag _) ?_,rfl,q _ (I.Aw.fresh (zag _))⟩;exact⟨zbv (Vz xs lo hi) hz,_,0,(r.drop (HT.Q3 xs.length 0 lo)).take (HT.Q3 xs.length xs.length hi-HT.Q3 xs.length 0 lo),zap _ rfl⟩
abbrev Lb:V->Bool
 | .Av| .bl _| .int _| .str _=>true
 |_=>false
abbrev rN:V->V->Bool
 | .Av,.Av=>true
 | .bl a,.bl b=>a==b
 | .bl a,.int b=>(if a then 1 else 0)==b
 | .int a,.bl b=>a==(if b then 1 else 0)
 | .int a,.int b| .str a,.str b=>a==b
 |_,_=>false
def uS (ry:RelV y u)(rx:RelV x v)(fy:Lb y=true)(fx:Lb x=true):SeqAt.EqAt A s u v (rN y x):=by
 cases y with
 |Av =>
  cases ry;cases x with
  |Av=>cases rx;exact SeqAt.EqAt.same _
  |bl b=>cases rx;exact SeqAt.EqAt.none_bool b
  |int b=>obtain⟨t,rfl⟩:=rx;exact SeqAt.EqAt.none_int b t
  |str b=>obtain⟨t,rfl⟩:=rx;exact SeqAt.EqAt.none_str b t
  |_=>exact absurd (show false=true from fx) zav
 |bl a =>
  cases ry;cases x with
  |Av=>cases rx;exact SeqAt.EqAt.bool_none a
  |bl b=>cases rx;exact SeqAt.EqAt.bool_bool a b
  |int b=>obtain⟨t,rfl⟩:=rx;exact SeqAt.EqAt.bool_int a b t
  |str b=>obtain⟨t,rfl⟩:=rx;exact SeqAt.EqAt.bool_str a b t
  |_=>exact absurd (show false=true from fx) zav
 |int a =>
  obtain⟨t',rfl⟩:=ry;cases x with
  |Av=>cases rx;exact SeqAt.EqAt.int_none a t'
  |bl b=>cases rx;exact SeqAt.EqAt.int_bool a t' b
  |int b=>obtain⟨t,rfl⟩:=rx;exact SeqAt.EqAt.int_int a t' b t
  |str b=>obtain⟨t,rfl⟩:=rx;exact SeqAt.EqAt.int_str a t' b t
  |_=>exact absurd (show false=true from fx) zav
 |str a =>
  obtain⟨t',rfl⟩:=ry;cases x with
  |Av=>cases rx;exact SeqAt.EqAt.str_none a t'
  |bl b=>cases rx;exact SeqAt.EqAt.str_bool a t' b
  |int b=>obtain⟨t,rfl⟩:=rx;exact SeqAt.EqAt.str_int a t' b t
  |str b=>obtain⟨t,rfl⟩:=rx;exact SeqAt.EqAt.str_str a t' b t
  |_=>exact absurd (show false=true from fx) zav
 |_=>exact absurd (show false=true from fy) zav
abbrev XD (x:V)(u:Value):Bool:=match u with
 | .none=>rN .Av x
 | .bool b=>rN (.bl b) x
 | .int i _=>rN (.int i) x
 | .str z _=>rN (.str z) x
 |_=>false
def gI (r:RelV y u)(f:Lb y=true):XD x u=rN y x:=by
 cases y with
 |Av|bl b=>cases r;rfl
 |int i|str z=>obtain⟨t,rfl⟩:=r;rfl
 |_=>exact absurd (show false=true from f) zav
def Lc {x:V}:∀ {xs:List V}{us:List Value},Vals xs us->xs.all Lb=true->us.any (XD x)=xs.any λ y=>rN y x
 |_,_,.nil,_=>rfl
 |y::xs,u::us,.cons r t,f=>by
  rw[List.all_cons,zb6] at f;rw[zd4,zd4,gI r f.1,Lc t f.2]
def Il {A:Around}{s:Shared}{x:V}{v:Value}(rx:RelV x v)(fx:Lb x=true):∀ {xs:List V}{us:List Value},Vals xs us->xs.all Lb=true->∀u∈us,SeqAt.EqAt A s u v (XD x u)
 |_,_,.nil,_=>λ u hu=>by cases hu
 |y::xs,u::us,.cons r t,f=>λ u' hu=>by
  rw[List.all_cons,zb6] at f;rcases zac.mp hu with rfl|hu
  ·rw[gI r f.1];exact uS r rx f.1 fx
  ·exact Il rx fx t f.2 u' hu
abbrev inV (x:V)(xs:List V):Bool:=xs.any λ y=>rN y x
abbrev rIn (K:za1)(neg:Bool):R2:=λ x y H Q=>∃p xs,y=.ref p/\(DU K H p xs\/FE K H p xs)/\Lb x=true/\xs.all Lb=true/\Q (.bl (if neg then !inV x xs else inV x xs)) H
def bM:GN X (compareOp .In) (rIn X.K false):=by
 intro pins s σ H x y v u Q I rx ry h;obtain⟨p,xs,rfl,hq,fx,fs,q⟩:=h;cases ry;rcases hq with hq|hq
 ·obtain⟨aa,r,pl,hz⟩:=I.list hq;refine SeqAt.in_listAt (XD x) pl.isList (λ w hw=>Il rx fx r fs w (by simpa using hw)) ⟨.bl _,H,I,rfl,?_⟩;rw[show aa.toArray.any (XD x)=aa.any (XD x) by simp,Lc r fs];exact q
 ·obtain⟨aa,r,pl,hz⟩:=I.tuple hq;refine SeqAt.in_tupleAt (XD x) pl (λ w hw=>Il rx fx r fs w (by simpa using hw)) ⟨.bl _,H,I,rfl,?_⟩;rw[show aa.toArray.any (XD x)=aa.any (XD x) by simp,Lc r fs];exact q
def Ud:GN X (compareOp .NotIn) (rIn X.K true):=by
 intro pins s σ H x y v u Q I rx ry h;obtain⟨p,xs,rfl,hq,fx,fs,q⟩:=h;cases ry;rcases hq with hq|hq
 ·obtain⟨aa,r,pl,hz⟩:=I.list hq;refine SeqAt.notIn_listAt (XD x) pl.isList (λ w hw=>Il rx fx r fs w (by simpa using hw)) ⟨.bl _,H,I,rfl,?_⟩;rw[show aa.toArray.any (XD x)=aa.any (XD x) by simp,Lc r fs];exact q
 ·obtain⟨aa,r,pl,hz⟩:=I.tuple hq;refine SeqAt.notIn_tupleAt (XD x) pl (λ w hw=>Il rx fx r fs w (by simpa using hw)) ⟨.bl _,H,I,rfl,?_⟩;rw[show aa.toArray.any (XD x)=aa.any (XD x) by simp,Lc r fs];exact q
def Ue:Gd X (.builtin "len") (λ xs H Q=>∃p ys,xs=[.ref p]/\(DU X.K H p ys\/FE X.K H p ys)/\Q (.int ys.length) H):=by
 intro pins s σ H xs us Q I r h;obtain⟨p,ys,rfl,hq,q⟩:=h;obtain⟨u,rfl,rx⟩:=vals1 r;cases rx;have hn:=N7;rcases hq with hq|hq
 ·obtain⟨aa,r',pl,hz⟩:=I.list hq;have hlen:=r'.length;exact Calls.call_len_list pl.isList (by simp only[zab]<;>omega) ⟨.int ys.length,H,I.tok _,⟨s.toks+1,by rw[zab,hlen]⟩,q⟩
 ·obtain⟨aa,r',pl,hz⟩:=I.tuple hq;have hlen:=r'.length;exact len_tuple pl (by simp only[zab]<;>omega) ⟨.int ys.length,H,I.tok _,⟨s.toks+1,by rw[zab,hlen]⟩,q⟩
def Ug:Gd X (.type "list") (λ xs H Q=>∃p ys,xs=[.ref p]/\(DU X.K H p ys\/FE X.K H p ys)/\∀l,H l=none->Q (.ref l) (upd H l (.lst ys))):=by
 intro pins s σ H xs us Q I r h;obtain⟨p,ys,rfl,hq,q⟩:=h;obtain⟨u,rfl,rx⟩:=vals1 r;cases rx;have fin:∀(aa:List Value),Vals ys aa->ys.length<=sizeLine->∀(h':Heap) (c':Nat),(∀b o',s.heap.get? b=some o'->h'.get? b=some o')->
  h'.get? s.heap.objs.size=some {cls:=.type "list",dict:=none,data:=.seq aa.toArray c',slots:=#[]}->EP X pins σ Q (.ref s.heap.objs.size) {s with heap:=h' }:=λ aa r' hz h' c' kp e =>
  ⟨.ref s.heap.objs.size,_,I.laid (t':=s.toks) kp (zag _) (show Bo X.prog X.w _ h' _ (.lst ys) from ⟨hz,aa,c',r',e⟩),rfl,q _ (I.Aw.fresh (zag _))⟩
 rcases hq with hq|hq
 ·obtain⟨aa,r',pl,hz⟩:=I.list hq;have hlen:=r'.length;obtain⟨o,ho,hc,n,hd⟩:=pl.isList;exact call_list_seq p (.inl rfl) ho hc hd (λ h' c' kp e=>fin aa r' hz h' c' kp e) (by simp only[zab]<;>omega)
 ·obtain⟨aa,r',pl,hz⟩:=I.tuple hq;have hlen:=r'.length;obtain⟨o,ho,hc,n,hd⟩:=pl;exact call_list_seq p (.inr rfl) ho hc hd (λ h' c' kp e=>fin aa r' hz h' c' kp e) (by simp only[zab]<;>omega)
def Sj:Gd X (.type "tuple") (λ xs H Q=>∃p ys,xs=[.ref p]/\((DU X.K H p ys/\∀l,H l=none->Q (.ref l) (upd H l (.tup ys)))\/(FE X.K H p ys/\Q (.ref p) H))):=by
 intro pins s σ H xs us Q I r h;obtain⟨p,ys,rfl,h⟩:=h;obtain⟨u,rfl,rx⟩:=vals1 r;cases rx;rcases h with ⟨hq,q⟩|⟨hq,q⟩
 ·obtain⟨aa,r',pl,hz⟩:=I.list hq;have hlen:=r'.length;refine call_tuple_list pl.isList (λ h' kp=>?_) (by simp only[zab]<;>omega);have I1:Inv X pins σ H {s with heap:=h' }:=I.kept (t':=s.toks) kp;have I2:Inv X pins σ (upd H h'.objs.size (.tup ys)) {s with heap:=h'.push {cls:=.type "tuple",data:=.seq aa.toArray} }:=
   I1.laid (t':=s.toks) (λ b o e=>zaa _ e) (zag _) (show Bo X.prog X.w _ _ _ (.tup ys) from ⟨hz,aa,r',IsTup.new _ _⟩)
  exact⟨.ref h'.objs.size,_,I2,rfl,q _ (I1.Aw.fresh (zag _))⟩
 ·obtain⟨aa,r',pl,hz⟩:=I.tuple hq;exact call_tuple_same pl ⟨.ref p,H,I,rfl,q⟩
abbrev tyV (K:za1)(T:String)(x:V)(H:Hp):Prop:=match x with
 | .str _=>T = "str"
 | .int _=>T = "int"
 | .ref p=>(T = "list" /\ ∃xs,DU K H p xs)\/(T = "tuple" /\ ∃o,K.lookup p=some o/\o.cls=.type "tuple" /\ o.dict=none) \/
  (T = "dict" /\ ((∃kvs,H p=some (.dK kvs))\/∃kvs,H p=some (.dT kvs)))\/(T = "set" /\ ∃S n,H p=some (.set S n))
 |_=>False
def gJ (I:Inv X pins σ H s)(r:RelV x v)(ty:tyV X.K T x H):
 s.TypeIs v T/\∀a,v=.ref a->∃ob,s.heap.get? a=some ob/\ob.dict=none:=by
 cases x with
 |str z =>
  obtain⟨t,rfl⟩:=r;cases (show T = "str" from ty);exact⟨typeIs_str s z t,λ _ e=>nomatch e⟩
 |int i =>
  obtain⟨t,rfl⟩:=r;cases (show T = "int" from ty);exact⟨typeIs_int s i t,λ _ e=>nomatch e⟩
 |ref p =>
  cases r;rcases ty with ⟨rfl,xs,hq⟩|⟨rfl,o,hk,hc,hd⟩|⟨rfl,hk⟩|⟨rfl,S,n,hk⟩
  ·obtain⟨aa,_,pl,_⟩:=I.list hq;refine⟨pl.isList.typeIs,λ a e=>?_⟩;cases e;obtain⟨o,n,e,c,hd,_⟩:=pl;exact⟨o,e,hd⟩
  ·refine⟨⟨o,I.NU p o hk,hc⟩,λ a e=>?_⟩;cases e;exact⟨o,I.NU _ o hk,hd⟩
  ·have z:∃o,s.heap.get? p=some o/\o.ExactDict:=by
    rcases hk with ⟨kvs,hk⟩|⟨kvs,hk⟩
    ·obtain⟨_,_,_,_,o,_,_,e,ex,_⟩:=I.Aw p _ hk;exact⟨o,e,ex⟩
    ·obtain⟨_,_,_,_,o,_,_,e,ex,_⟩:=I.Aw p _ hk;exact⟨o,e,ex⟩
   obtain⟨o,e,ex⟩:=z;refine⟨⟨o,e,ex.1⟩,λ a e2=>?_⟩;cases e2;exact⟨o,e,ex.2.1⟩
  ·obtain⟨o,_,_,_,e,ex,_⟩:=I.Aw p _ hk;refine⟨⟨o,e,ex.1⟩,λ a e2=>?_⟩;cases e2;exact⟨o,e,ex.2.1⟩
 |_=>exact zce ty
abbrev abN (K:za1)(T:String)(r:V->List V->Hp->VK->Prop)(to:TE):TE:=λ σ H Q=>to σ H λ x H1=>tyV K T x H1/\r x [] H1 Q
abbrev tBM (K:za1)(T:String)(r:V->List V->Hp->VK->Prop)(to:TE)(t:TA):TE:=λ σ H Q=>to σ H λ x H1=>tyV K T x H1/\t σ H1 λ xs H2=>r x xs H2 Q
variable {o e:Expr}{es:List Expr}{to:TE}{t:TA}{name:Str}{apos ac:Pos}{T id:String}{r:V->List V->Hp->VK->Prop}
def gK (pa:PlainAttrs T)(slot:Slot T name id)(p9:typeOf (.builtin id)=pure (.type "method_descriptor"))(hm:MtR X id r)(ho:PE X o to)(ai: ~~~(attributeBase o name X.env (eval o X.env)=eval o X.env))(aj: ~~~((apos.endLine==ac.line)=true)):PE X (.Call (.Attribute o name apos) [] [] ac) (abN X.K T r to):=by
 intro pins s σ H Q I h;refine wpAny_Call_method0_late ai aj (B9 (ho pins s σ H _ I h) λ v s1 zz=>?_);obtain⟨x,H1,I1,r1,ty,q1⟩:=zz;obtain⟨h1,h2⟩:=gJ I1 r1 ty;exact⟨T,id,pa,slot,p9,h1,h2,zcu rfl (PySem.evalArgs_none (hm pins s1 σ H1 x [] v [] Q I1 r1 .nil q1))⟩
def VA (pa:PlainAttrs T)(slot:Slot T name id)(p9:typeOf (.builtin id)=pure (.type "method_descriptor"))(hm:MtR X id r)(ho:PE X o to)(ha:PA X (e::es) t)(ai: ~~~(attributeBase o name X.env (eval o X.env)=eval o X.env))(aI: ~~~(((backTo ac (starEach (e::es) X.env)).all (λ x => !x.1)&&(backToKw ac (keywordEach [] X.env)).all (λ x=>x.1.isSome)
  && decide ((e::es).length+([]:List Keyword).length+(if ([]:List Keyword).isEmpty then 0 else 1)<30))=true))(aj: ~~~((apos.endLine==ac.line)=true))(hs: ~~~(starEach (e::es) X.env=(false,eval e X.env)::starEach es X.env))(ao: ~~~((backTo ac (starEach es X.env)).any (·.1)=false)):
 PE X (.Call (.Attribute o name apos) (e::es) [] ac) (tBM X.K T r to t):=by
 intro pins s σ H Q I h;refine wpAny_Call_method_late ai aI aj rfl (B9 (ho pins s σ H _ I h) λ v s1 zz=>?_);obtain⟨x,H1,I1,r1,ty,q1⟩:=zz;obtain⟨h1,h2⟩:=gJ I1 r1 ty;refine⟨T,id,pa,slot,p9,h1,h2,?_⟩;have hA:=ha ac pins s1 σ H1 _ I1 q1;rw[hs] at hA ⊢;refine zcu (by show (false||(backTo ac (starEach es X.env)).any (·.1))=false;rw[ao]<;>rfl) (Calls.evalArgs_plain ?_);exact B9 hA λ us s2 ⟨vs,H2,I2,r2,q2⟩=>hm pins s2 σ H2 x vs v us Q I2 r1 r2 q2
end
abbrev xZ (X:Cx)(id:String)(r:V->List V->Hp->VK->Prop):Prop:=
 ∀(pins:List (Addr×Obj)) (s:Shared) (σ:St) (H:Hp) (x:V) (xs:List V) (v:Value) (us:List Value) (Q:VK),Inv X pins σ H s->RelV x v->Vals xs us->r x xs H Q->
  wpAny (model X.prog X.w) X.A (call (.builtin id) (v::us)) (EP X pins σ Q) X.xe s
def Vals.one (h:Vals [x] us):∃u,us=[u]/\RelV x u:=by
 cases h with
 |cons r q=>cases q;exact⟨_,rfl,r⟩
def Vals.two (h:Vals [x,y] us):∃u v,us=[u,v]/\RelV x u/\RelV y v:=by
 cases h with
 |cons r q=>obtain⟨u,rfl,h⟩:=Vals.one q;exact⟨_,_,rfl,r,h⟩
def Vals.zero:∀ {us:List Value},Vals [] us->us=[]
 |_,.nil=>rfl
def Vals.dropLast (h:Vals xs us):Vals xs.dropLast us.dropLast:=by
 induction h with
 |nil=>exact .nil
 |cons r t ih =>
  cases t with
  |nil=>exact .nil
  |cons q t'=>exact .cons r ih
def Vals.eraseIdx:∀ {xs:List V}{us:List Value}(i:Nat),Vals xs us->Vals (xs.eraseIdx i) (us.eraseIdx i)
 |_,_,_,.nil=>.nil
 |_,_,0,.cons _ t=>t
 |_,_,i+1,.cons r t=>.cons r (Vals.eraseIdx i t)
def Vals.rep (h:Vals xs us):∀k:Nat,Vals (zak k xs).flatten (zak k us).flatten
 |0=>.nil
 |k+1=>by
  rw[zc8,zc8,List.flatten_cons,List.flatten_cons];exact Vals.append h (Vals.rep h k)
def XE {α:Type}(l:List α):l.eraseIdx (l.length-1)=l.dropLast:=by
 induction l with
 |nil=>rfl
 |cons a r ih =>
  cases r with
  |nil=>rfl
  |cons b r =>
   have e:(a::b::r).length-1=((b::r).length-1)+1:=by
    have h1:(a::b::r).length=r.length+2:=rfl;have h2:(b::r).length=r.length+1:=rfl;omega
   rw[e,List.eraseIdx_cons_succ,ih];all_goals rfl
def foldl_rep (aa:List Value):∀(k:Nat) (acc:List Value),
 List.foldl (λ x1 x2=>x1++x2) acc.toArray (zak k aa.toArray)=(acc++(zak k aa).flatten).toArray
 |0,acc=>by simp
 |k+1,acc=>by
  have e:acc.toArray++aa.toArray=(acc++aa).toArray:=by simp
  have e2:(acc++aa)++(zak k aa).flatten=acc++(zak (k+1) aa).flatten:=by
   rw[zc8,List.flatten_cons,zbi]
  rw[<-e2,<-foldl_rep aa k (acc++aa),<-e,zc8,zam]
section
variable {X:Cx}{pins:List (Addr×Obj)}{σ:St}{H:Hp}{s:Shared}{l b:Addr}{xs ys zs:List V}
def Inv.bN {aa:List Value}(I:Inv X pins σ H s)(hH:H l=some (.lst xs))(e:s.heap.get? l=some {cls:=.type "list",data:=.seq aa.toArray n})(hf:f aa.toArray=its'.toArray)(hv:Vals ys its')(hz:ys.length<=sizeLine):
 Inv X pins σ (upd H l (.lst ys)) {s with heap:=s.heap.update l (Obj.mapSeq f),toks:=t' }:=by
 have q:=PySem.IsL.update e f;rw[hf] at q;refine I.write (x:=l) (e:=l) (by rw[hH];exact trivial) (.inl rfl) (λ b' u hb hu=>(Heap.get?_update_other s.heap (Obj.mapSeq f) (zbm hb)).trans hu) ⟨_,q⟩ ?_;exact⟨hz,its',_,hv,q⟩
def Inv.zM (I:Inv X pins σ H s)(hv:Vals ys aa)(hz:ys.length<=sizeLine):
 Inv X pins σ (upd H s.heap.objs.size (.lst ys)) {s with heap:=s.heap.push {cls:=.type "list",data:=.seq aa.toArray},toks:=t' }:=
 I.laid (λ _ _ q=>zaa _ q) (zag _) ⟨hz,aa,0,hv,zap _ rfl⟩
def Inv.fresh (I:Inv X pins σ H s):H s.heap.objs.size=none:=I.Aw.fresh (zag _)
def Inv.VB (I:Inv X pins σ H s)(hH:H l=some (.lst xs)):xs.length<=sizeLine/\∃(aa:List Value) (n:Nat),Vals xs aa/\xs.length=aa.length/\s.heap.get? l=some {cls:=.type "list",data:=.seq aa.toArray n}:=by
 obtain⟨z,aa,n,r,e⟩:=I.Aw l _ hH;exact⟨z,aa,n,r,r.length,e⟩
def VC (h:n<=sizeLine):zd2 n=false:=by
 unfold zd2;exact decide_eq_false (by omega)
end
section
variable {X:Cx}
abbrev nB:V->List V->Hp->VK->Prop:=λ x vs H Q=>∃l xs y,x=.ref l/\vs=[y]/\H l=some (.lst xs)/\xs.length<sizeLine/\Q .Av (upd H l (.lst (xs++[y])))
def SX:xZ X "list.append" nB:=by
 intro pins s σ H x vs v us Q I rx rv h;obtain⟨l,xs,y,rfl,rfl,hH,hz,q⟩:=h;cases rx;obtain⟨u,rfl,ru⟩:=rv.one;obtain⟨z,aa,n,r,hl,e⟩:=I.VB hH;refine call_meets F.slot_list_append ⟨_,e,rfl⟩ F.entry_list_append (F.args_list_append_2 _ _) (PySem.list_append l aa.toArray n u (by rw[zab];omega)) ⟨e,?_⟩;refine⟨.Av,_,I.bN (its':=aa++[u]) hH e (by simp) (r.append (.cons ru .nil)) ?_,rfl,q⟩;rw[zai,zbk];omega
abbrev nE:V->List V->Hp->VK->Prop:=λ x vs H Q=>∃l b xs zs,x=.ref l/\vs=[.ref b]/\H l=some (.lst xs)/\H b=some (.lst zs)/\xs.length+zs.length<=sizeLine/\Q .Av (upd H l (.lst (xs++zs)))
def bO:xZ X "list.extend" nE:=by
 intro pins s σ H x vs v us Q I rx rv h;obtain⟨l,b,xs,zs,rfl,rfl,hH,hB,hz,q⟩:=h;cases rx;obtain⟨u,rfl,ru⟩:=rv.one;cases ru;obtain⟨z,aa,n,r,hl,e⟩:=I.VB hH;obtain⟨z2,aL,n2,r2,al,e2⟩:=I.VB hB;have hsz:aa.toArray.size+aL.toArray.size<=sizeLine:=by rw[zab,zab];omega
 have cm:¬ (!aa.toArray.isEmpty&&zd2 (aa.toArray.size+aL.toArray.size))=true:=by
  rw[VC hsz,Bool.and_false];exact zav
 refine call_meets F.slot_list_extend ⟨_,e,rfl⟩ F.entry_list_extend (F.args_list_extend_2 _ _)
  (AutoSeq1.list_extend_list_list_0 l aa.toArray n b aL.toArray n2 cm (by rw[zab];omega) (by omega)) ⟨e,e2,?_⟩
 refine⟨.Av,_,I.bN (its':=aa++aL) hH e (by simp) (r.append r2) ?_,rfl,q⟩;rw[zai];omega
abbrev abO:V->List V->Hp->VK->Prop:=λ x vs H Q=>∃l xs y,x=.ref l/\vs=[]/\H l=some (.lst xs)/\xs[xs.length-1]?=some y/\Q y (upd H l (.lst xs.dropLast))
def uT:xZ X "list.pop" abO:=by
 intro pins s σ H x vs v us Q I rx rv h;obtain⟨l,xs,y,rfl,rfl,hH,hy,q⟩:=h;cases rx;have qd:=rv.zero;subst qd;obtain⟨z,aa,n,r,hl,e⟩:=I.VB hH;obtain⟨u,hu,ru⟩:=r.get hy;have nk:aa.toArray[aa.toArray.size-1]?=some u:=by
  show aa.toArray[aa.length-1]?=some u;rw[<-Array.getElem?_toList,<-hl];exact hu
 refine call_meets F.slot_list_pop ⟨_,e,rfl⟩ F.entry_list_pop (F.args_list_pop_1 _) (MeetsSeq.list_pop_last l aa.toArray n u nk (by rw[zab];omega)) ⟨e,?_⟩;refine⟨y,_,I.bN (its':=aa.dropLast) hH e ?_ r.dropLast ?_,ru,q⟩
 ·show aa.toArray.eraseIdxIfInBounds (aa.toArray.size-1)=aa.dropLast.toArray;rw[zab,List.eraseIdxIfInBounds_toArray,XE]
 ·rw[List.length_dropLast];omega
abbrev uU:V->List V->Hp->VK->Prop:=λ x vs H Q=>∃l xs,x=.ref l/\vs=[]/\H l=some (.lst xs)/\Q .Av (upd H l (.lst []))
def gL:xZ X "list.clear" uU:=by
 intro pins s σ H x vs v us Q I rx rv h;obtain⟨l,xs,rfl,rfl,hH,q⟩:=h;cases rx;have qd:=rv.zero;subst qd;obtain⟨z,aa,n,r,hl,e⟩:=I.VB hH;refine call_meets F.slot_list_clear ⟨_,e,rfl⟩ F.entry_list_clear (F.args_list_clear_1 _) (AutoSeq1.list_clear_list_0 l aa.toArray n (by rw[zab];omega)) ⟨e,?_⟩;exact⟨.Av,_,I.bN (its':=[]) (ys:=[]) hH e rfl .nil (zbb _),rfl,q⟩
abbrev abP:R2:=λ x y H Q=>∃l k xs,x=.ref l/\y=.int k/\H l=some (.lst xs)/\-(2^63)<=k/\k<2^63/\xs.length*k.toNat<=sizeLine/\
 ∀p,H p=none->Q (.ref p) (upd H p (.lst (zak k.toNat xs).flatten))
def len_rep {α:Type}(xs:List α)(k:Nat):(zak k xs).flatten.length=k*xs.length:=by
 induction k with
 |zero=>simp
 |succ k ih=>rw[zc8,List.flatten_cons,zai,ih,Nat.succ_mul,Nat.add_comm]
def uV:GN X (binaryOp .Mult) abP:=by
 intro pins s σ H x y v u Q I rx ry h;obtain⟨l,k,xs,rfl,rfl,hH,h1,h2,hz,q⟩:=h;cases rx;obtain⟨t,rfl⟩:=ry;obtain⟨z,aa,n,r,hl,e⟩:=I.VB hH;have hlen:aa.toArray.size*k.toNat<=sizeLine:=by rw[zab,<-hl];exact hz
 have qe:¬ aa.toArray.size*k.toNat > (2^63-1) / 8:=by
  have:(sizeLine:Nat)<=(2^63-1) / 8:=by decide
  omega
 have gm:¬ (!Builtin.List.listFitsIndex k)=true:=by
  rw[fitsIndex_both h1 h2];exact zav
 have cm:¬ zd2 (aa.toArray.size*k.toNat)=true:=by
  rw[VC hlen];exact zav
 have aV:List.foldl (λ x1 x2=>x1++x2) #[] (zak (if aa.toArray.isEmpty=true then 0 else k.toNat) aa.toArray)=(zak k.toNat aa).flatten.toArray:=by
  have f0:∀m:Nat,List.foldl (λ x1 x2=>x1++x2) #[] (zak m aa.toArray)=(zak m aa).flatten.toArray:=λ m=>by
   have:=foldl_rep aa m [];rw[List.nil_append] at this;exact this
  rw[f0];cases aa with
  |nil=>simp
  |cons a r'=>rw[if_neg (by simp)]
 refine wpAny_binaryOp_repeat_ref (T := "list") (U := "int") (by decide) ⟨_,e,rfl⟩ (λ s'=>typeIs_int s' k t) noFill_list_mul F.fills_int_mul F.slot_int_rmul repeat_list F.slot_int_index.lookup
  (call_meets F.slot_int_rmul (typeIs_int s k t) F.entry_int_rmul (F.args_int_rmul_2 _ _) (int___rmul___int_list k t l aa.toArray n)
   ⟨e,rfl,⟨_,e,rfl⟩,call_meets F.slot_list_mul ⟨_,e,rfl⟩ F.entry_list_mul (F.args_list_mul_2 _ _) (AutoListH.list___mul___list_int_3 l aa.toArray n k t gm qe cm) ⟨e,?_⟩⟩)
 rw[aV];exact⟨.ref _,_,I.zM (t':=s.toks) (r.rep k.toNat) (by rw[len_rep,Nat.mul_comm];exact hz),rfl,q _ I.fresh⟩
end
end L2
namespace vd
open PySem PySem.W PySem.Calls PyProof.Rows
def OA:∀(ns:List Int) (vs:List Value),WellAll P h vs (ns.map WData.int)->IntsAre vs ns:=by
 intro ns;induction ns with
 |nil =>
  intro vs w;rw[zcy] at w;cases w;exact .nil
 |cons n ns ih =>
  intro vs w;rw[za6] at w;cases w with
  |cons a b =>
   cases a;exact .cons _ _ (ih _ b)
def bP {l:OpenLaw}(hn:l.most=some n)(dq:l.row.toRowW.claim.pre args=true)(gn:WellAll P h vals args):
 ∃a vs ns,vals=[zb8 a]/\args=[WData.list (ns.map WData.int)]/\h.get? a=some {cls:=.type "list",data:=.seq vs.toArray}/\IntsAre vs ns/\ns.length<=n:=by
 have qg:WShape.hasAll [] args [.list .int]=true:=(pre_splitW dq).1;have hc:l.pre.holds [] {args:=args}=true:=(pre_splitW dq).2;obtain⟨d,r,rfl,h1,h2⟩:=hasAllW_cons qg;obtain rfl:=hasAllW_nil h2;obtain⟨xs,rfl,h3⟩:=hasW_list h1;obtain⟨ns,rfl⟩:=items_int h3;have hlen:ns.length<=n:=by
  unfold OpenLaw.pre at hc;have h4:(WTm.not (.lt (.lit (.int (n:Int))) (.len (.arg 0)))).holds [] {args:=[.list (ns.map .int)]}=true:=by
   have h4:=(holds_andW hc).1;rw[hn] at h4;exact h4
  have h5:=condW_of h4 (w_not (w_lt w_lit (w_len_list (w_arg rfl))));rw[za2] at h5;refine Nat.le_of_not_lt λ q=>?_;have q':(n:Int)<((ns.length:Nat):Int):=by omega
  first
   |(rw[decide_eq_true q'] at h5;exact absurd h5 (by decide))
   |(simp at h5;omega)
 cases gn with
 |cons w1 w2 =>
  cases w2;cases w1 with
  |list ho a7=>exact⟨_,_,ns,rfl,rfl,ho,OA ns _ a7,hlen⟩
def bQ (l:OpenLaw)(args:List WData):l.row.toRowW.claim.post args (.bool true) args=true:=
 postW_of (r:=l.row.toRowW) (X:=(true==true))
  (show WShape.has [] (.bool true) .bool=true by first|rfl|decide|simp[WShape.has,WShape.arms,WShape.armsAll])
  (show (WTm.eq .res (.lit (.bool true))).value [] {args:=args,res:=some (.bool true),after:=args}=some (.bool (true==true)) from w_eq_bool (w_res rfl) w_lit) rfl
end vd
namespace L2
open PySem PySem.Spec PyProof.Rows
def SY:∀ {vs:List Value}{ns:List Int},IntsAre vs ns->Vals (ns.map V.int) vs
 |_,_,.nil=>.nil
 |_,_,.cons n t h=>.cons ⟨t,rfl⟩ (SY h)
variable {w:World}{mg:Str->Option Value}{base:Heap}{X:Cx}{H:Hp}{pins:List (Addr×Obj)}{σ:St}{s:Shared}{A:Around}{E:Value->Shared->Prop}{e tg iter:Expr}{pos:Pos}{td ty:TE}{scope:Scope}{NB:List Str}{μ:List (Option Nat)}{fp:List Addr}{WX:Str->Hp->Prop}
abbrev nF (H:Hp):Prop:=∀b,H b=none\/∃o xs,H b=some (.HC o (.lst xs))
def VD {K}(KX:K.In s₁.heap)(jz:s₁.heap.Ns mainGlobals mg)(hb:s₁.heap.Ns builtinsNs mb)(xf:∀x:Str,x ≠ "__name__" -> mb x=bootBuiltins x)(qh:s₁.heap.NoLimit)(hg:s₁.gens=#[])(ha:s₁.heap.get? a=some {cls:=.type "list",data:=.seq vs.toArray})(hi:IntsAre vs ns)(hl:ns.length<=sizeLine)(hr:Br k callerA)(F:∀base:Heap,K.In base->base.Ns mainGlobals mg->CL P w K mg base CX k fa fd [x] sp)(j0:∀(s:Shared) (u:Value),BindsTo s fd ⟨[u],[]⟩ [(x,u)])(b7:∀H:Hp,nF H->DU K H a (ns.map V.int)->sp [.ref a] H (λ v _=>v=.bl true) λ _ _ _=>False)(j1:∀H e s',CX [] H s₁ (λ _ _ _=>False) e s'->False):
 codeAny (model P w) callerA (.call (.ref fa) ⟨[.ref a],[]⟩) (λ r s'=>r=.ok (.ret (.bool true))/\OldK s₁.heap s'.heap/\s'.os=s₁.os/\AllBare s'.gens) s₁:=by
 have rv:=SY hi;have qi:=hi.length;have core:∀H:Hp,nF H->DU K H a (ns.map V.int)->HE P w H s₁.heap->(∀b,H b≠none->b=a)->(H a≠none->K.lookup a=none)->
  codeAny (model P w) callerA (.call (.ref fa) ⟨[.ref a],[]⟩) (λ r s'=>r=.ok (.ret (.bool true))/\OldK s₁.heap s'.heap/\s'.os=s₁.os/\AllBare s'.gens) s₁:=by
  intro H hO hS Aw hA hK;have bz:∀ {b:Addr} {o:Obj},s₁.heap.get? b=some o->H b=none->(U7 s₁.heap H).get? b=some o:=λ e n=>fC e n;have jv:∀ {b:Addr} {o:Obj} {es:Array DictEntry} {ep:Nat},s₁.heap.get? b=some o->o.data=.dict es ep->H b=none:=fun {b o es ep} e d=>by
   cases q:H b with
   |none=>rfl
   |some u =>
    have e':b=a:=hA b (by rw[q];simp);subst e';rw[ha] at e;cases e;have d':Data.seq vs.toArray _=Data.dict es ep:=d;cases d'
  have np:∀ {b:Addr} {m:Str->Option Value},s₁.heap.Ns b m->(U7 s₁.heap H).Ns b m:=fun {b m} ⟨o,es,ep,e,d,r⟩=>⟨o,es,ep,bz e (jv e d),d,r⟩;have ve:K.In (U7 s₁.heap H):=λ b o e=>bz (KX b o e) (by
   cases q:H b with
   |none=>rfl
   |some u =>
    have e':b=a:=hA b (by rw[q];simp);subst e';rw[hK (by rw[q];simp)] at e;cases e)
  have hM:Mod K mg (U7 s₁.heap H):=⟨ve,np jz,⟨mb,np hb,xf⟩,let ⟨mc,h1,h2⟩:=qh;⟨mc,np h1,h2⟩⟩;have e0:XB P w K mg (U7 s₁.heap H) callerA [] s₁ H:=⟨rfl,hM,λ b o e=>mG e,Nat.le_of_eq (bE _ _),trivial,λ b hb=>absurd (show b∈([]:List Addr) from hb) (by simp),Aw,.of_eq hg⟩;refine codeAny_mono ((F _ ve (np jz)).run callerA [] s₁ H ⟨[.ref a],[]⟩ [.ref a] [.ref a] _ _ hr e0 (j0 s₁ (.ref a)) (.cons rfl .nil) (b7 H hO hS)) λ r s' h=>?_;cases r with
  |error e=>exact (j1 H e s' h).elim
  |ok fl =>
   cases fl with
   |next|brk|cont=>exact zce h
   |ret u =>
    obtain⟨v,H',os,bare,un,gp,r',q⟩:=h;have q':v=.bl true:=q;subst q';obtain rfl:u=Value.bool true:=r';refine⟨rfl,OldK.of_keep λ b o e=>?_,os,bare⟩;cases q:H b with
    |none=>exact un.keep b o e q (by intro z;exact absurd (show b∈([]:List Addr) from z) (by simp)) (by simp)
    |some u =>
     rcases hO b with z|⟨ob,xs,z⟩
     ·rw[q] at z;cases z
     ·have z2:=un.Oy b ob _ z;obtain⟨e1,_⟩:=Aw b _ z;obtain⟨e2,_⟩:=gp b _ z2;rw[e] at e1;cases e1;exact e2
 cases hk:K.lookup a with
 |some o =>
  have e:=KX a o hk;rw[ha] at e;cases e;refine core (λ _=>none) (λ _=>.inl rfl) (.inr ⟨_,vs.toArray,_,hk,rfl,rfl,rfl,by rw[zab,qi];exact hl,by simpa using rv⟩) (λ b u z=>by have z':(none:Option HO)=some u:=z;cases z') (λ b z=>absurd rfl z) λ z=>absurd rfl z
 |none =>
  refine core (λ b=>if b=a then some (.HC {cls:=.type "list",data:=.seq vs.toArray} (.lst (ns.map V.int))) else none) (λ b=>?_) (.inl (.inr ⟨{cls:=.type "list",data:=.seq vs.toArray},if_pos rfl⟩)) (λ b u z=>?_) (λ b z=>?_) λ _=>hk
  ·by_cases hb:b=a
   ·exact .inr ⟨_,_,if_pos hb⟩
   ·exact .inl (if_neg hb)
  ·by_cases hb:b=a
   ·have z':=(if_pos hb).symm.trans z;cases z';subst hb;exact⟨ha,by rw[za2];exact hl,vs,_,rv,ha⟩
   ·have z':=(if_neg hb).symm.trans z;cases z'
  ·by_cases hb:b=a
   ·exact hb
   ·exact absurd (if_neg hb) z
noncomputable abbrev nG:YQ:=λ _ _ _ _ _ _=>False
noncomputable abbrev E0:XK:=λ _ _ _=>False
structure eY (K:za1)(x qual:Str)(st:Stmt)(f:Addr)(fd:FuncData):Prop where
 ex:∃(oc:Value) (od:Option Addr) (kV doc pm:Value) (an:Option Addr) (AZ ct:Value) (Vw:Array (Option Value)),
  fd=zb7 x qual (B5 st) (AE st) (A3 st) .none kV doc pm an AZ ct/\K.lookup f=some ⟨oc,od,.func fd,Vw⟩/\zc6 K AZ qual=true
 kp:zbe K (.ref f)=true
section
variable {P:Program}{K:za1}
def eY.ok {st}(F:eY K x qual st f fd)(S:Ab N ps (A3 st))(len:∀vs H Q E,sp vs H Q E->vs.length=ps.length)(ck:∀(AZ:Value) (A:Around) (outer:List Env) (s:Shared) (H:Hp) (vs:List V) (Q:VK) (E:XK),Br k (A.deeper (envOfC qual (A3 st) s.heap.objs.size f AZ))->sp vs H Q E->
  ∃t,YM (Vt nG P w K mg base N qual (A3 st) f AZ A outer s H E).yU (AE st) t/\t {nx:=λ _ H'=>Q .Av H',rt:=Q} (start N vs) H):CL P w K mg base nG (k+1) f fd ps sp:=by
 obtain⟨oc,od,kV,doc,pm,an,AZ,ct,Vw,rfl,lk,aQ⟩:=F.ex;refine Vv lk aQ S len λ A outer s H vs Q E hr b7=>?_;obtain⟨t,h,q⟩:=ck AZ A outer s H vs Q E hr b7;exact⟨t,h.yU,q⟩
def eY.binds {st}(F:eY K x qual st f fd)(h:∀(kV doc pm:Value) (an:Option Addr) (AZ ct:Value) (us:List Value),us.length=ps.length->bindArgs (zb7 x qual (B5 st) (AE st) (A3 st) .none kV doc pm an AZ ct) ⟨us,[]⟩=pure (ps.zip us)):Binds K fd ps []:=by
 obtain⟨oc,od,kV,doc,pm,an,AZ,ct,Vw,rfl,lk,aQ⟩:=F.ex;exact .all (h kV doc pm an AZ ct)
def XF {st}{kV}(l:K.lookup f=some ⟨oc,od,.func (zb7 x qual (B5 st) (AE st) (A3 st) .none kV doc pm an AZ ct),Vw⟩)(c:zc6 K AZ qual=true)(k:zbe K (.ref f)=true):eY K x qual st f (zb7 x qual (B5 st) (AE st) (A3 st) .none kV doc pm an AZ ct):=⟨⟨oc,od,kV,doc,pm,an,AZ,ct,Vw,rfl,l,c⟩,k⟩
end
def AF (h:n<=1000):n<sizeLine:=Nat.lt_of_le_of_lt h (by decide)
def pv (i:Nat)(hN: ~~~(X.N[i]?=some x))(hv:Vis X.env.scope x:=by first | exact zay rfl | exact Or.inr (zay rfl) | exact Or.inr (Or.inr rfl))(hd:(x==("__debug__" : Str))=false:=by decide)(aQ:(x==("__classdict__" : Str))=false:=by decide):PE X (.Name x pos) (Sf i):=tN hN hv hd aQ
abbrev Aj (H H':Hp):Prop:=∀b o,H b=some o->H' b=some o
def Aj.refl (H:Hp):Aj H H:=λ _ _ h=>h
def Aj.trans (a:Aj H H1)(b:Aj H1 H2):Aj H H2:=λ c o h=>b c o (a c o h)
def Aj.seq {K}(e:Aj H H')(h:DU K H a xs):DU K H' a xs:=by
 rcases h with (h|⟨o,h⟩)|h
 ·exact .inl (.inl (e _ _ h))
 ·exact .inl (.inr ⟨o,e _ _ h⟩)
 ·exact .inr h
section
variable {κ:Type} [DecidableEq κ]
abbrev Sk (kvs:List (κ×V))(k:κ):Option V:=(kvs.find? λ kv=>decide (kv.1=k)).map (·.2)
abbrev putK (kvs:List (κ×V))(k:κ)(v:V):List (κ×V):=
 if (kvs.any λ kv=>decide (kv.1=k))=true then kvs.map (λ kv=>if kv.1=k then (kv.1,v) else kv) else kvs++[(k,v)]
def Q4 {p:κ×V}{r:List (κ×V)}{k:κ}(e:p.1=k):Sk (p::r) k=some p.2:=by simp[Sk,zd0,e]
def Q5 {p:κ×V}{r:List (κ×V)}{k:κ}(e:¬ p.1=k):Sk (p::r) k=Sk r k:=by simp[Sk,zd0,e]
def VE (k:κ):∀kvs:List (κ×V),(kvs.any λ kv=>decide (kv.1=k))=(Sk kvs k).isSome
 |[]=>rfl
 |p::r=>by
  rw[zd4];by_cases e:p.1=k
  ·simp only[Q4 e,decide_eq_true e,Bool.true_or,Option.isSome_some]
  ·rw[Q5 e,decide_eq_false e,Bool.false_or];exact VE k r
def E5 (kvs:List (κ×V))(k:κ)(v:V):(putK kvs k v).length<=kvs.length+1:=by
 unfold putK;split
 ·rw[za2];omega
 ·rw[zai,za8,List.length_nil];omega
def I9.Ge (r:I9 o u):o.isSome=u.isSome:=by
 cases o with
 |none=>cases u with
  |none=>rfl
  |some _=>exact (show False from r).elim
 |some _=>cases u with
  |none=>exact (show False from r).elim
  |some _=>rfl
def I9.getD (r:I9 o u)(rd:RelV d d'):RelV (o.getD d) (u.getD d'):=by
 cases o with
 |none=>cases u with
  |none=>exact rd
  |some _=>exact (show False from r).elim
 |some _=>cases u with
  |none=>exact (show False from r).elim
  |some _=>exact r
def KV.val {kvs:List (κ×V)}{vs:List (κ×Value)}(r:KV kvs vs)(k:κ):I9 (Sk kvs k) (valueAt vs k):=by
 unfold KV at r;induction r with
 |nil=>exact zct
 | @cons p q ps qs h t ih =>
  obtain⟨h1,h2⟩:=h;by_cases e:p.1=k
  ·have e':q.1=k:=h1.symm.trans e;have b:valueAt (q::qs) k=some q.2:=by simp[valueAt,zd0,e']
   rw[Q4 e,b];exact h2
  ·have e':¬ q.1=k:=λ z=>e (h1.trans z);have b:valueAt (q::qs) k=valueAt qs k:=by simp[valueAt,zd0,e']
   rw[Q5 e,b];exact ih
def KV.any {kvs:List (κ×V)}{vs:List (κ×Value)}(r:KV kvs vs)(k:κ):(kvs.any λ kv=>decide (kv.1=k))=vs.any λ kv=>decide (kv.1=k):=by
 unfold KV at r;induction r with
 |nil=>rfl
 |cons h t ih=>rw[zd4,zd4,ih,h.1]
def KV.uW {kvs:List (κ×V)}{vs:List (κ×Value)}(r:KV kvs vs)(k:κ){y:V}{u:Value}(ry:RelV y u):
 KV (kvs.map λ kv=>if kv.1=k then (kv.1,y) else kv) (vs.map λ kv=>if kv.1=k then (kv.1,u) else kv):=by
 unfold KV at r ⊢;induction r with
 |nil=>exact .nil
 | @cons p q ps qs h t ih =>
  rw[za6,za6];refine .cons ?_ ih;obtain⟨h1,h2⟩:=h;by_cases e:p.1=k
  ·rw[if_pos e,if_pos (h1.symm.trans e)];exact⟨h1,ry⟩
  ·rw[if_neg e,if_neg (λ z=>e (h1.trans z))];exact⟨h1,h2⟩
def KV.put {kvs:List (κ×V)}{vs:List (κ×Value)}(r:KV kvs vs)(k:κ){y:V}{u:Value}(ry:RelV y u):KV (putK kvs k y) (stored vs k u):=by
 unfold putK stored;rw[r.any k];by_cases e:(vs.any λ kv=>decide (kv.1=k))=true
 ·rw[if_pos e,if_pos e];exact r.uW k ry
 ·rw[if_neg e,if_neg e];exact Paired.snoc r ⟨rfl,ry⟩
def KV.length {kvs:List (κ×V)}{vs:List (κ×Value)}(r:KV kvs vs):kvs.length=vs.length:=zcx r
end
def Ld (r:RelV (kV k) u):(AN P w).is k u=true:=by
 cases k with
 |inl i=>obtain⟨t,e⟩:=(show ∃t,u=Value.int i t from r);subst e;exact Vl P w i t
 |inr x=>obtain⟨t,e⟩:=(show ∃t,u=Value.str x t from r);subst e;exact Vm P w x t
def T4:∀ {ks:List Key}{us:List Value},Vals (ks.map kV) us->ItemsAre (AN P w) ks us
 |[],_,r=>by rw[zcy] at r;cases r;exact .nil
 |k::ks,_,r=>by
  rw[za6] at r;cases r with
  |cons h t=>exact .cons (Ld h) (T4 t)
noncomputable abbrev KT (H:Hp):List (List Key×V)->List (List Key×Addr×Value)->Prop:=Paired λ p q=>p.1=q.1/\H q.2.1=some (.tup (p.1.map kV))/\RelV p.2 q.2.2
def KT.val (r:KT H kvs xs)(k:List Key):I9 (Sk kvs k) ((atKey xs k).map (·.2)):=by
 induction r with
 |nil=>exact zct
 | @cons p q ps qs h t ih =>
  obtain⟨h1,_,h2⟩:=h;by_cases e:p.1=k
  ·have e':q.1=k:=h1.symm.trans e;have b:atKey (q::qs) k=some q.2:=by simp[atKey,zd0,e']
   rw[Q4 e,b];exact h2
  ·have e':¬ q.1=k:=λ z=>e (h1.trans z);have b:atKey (q::qs) k=atKey qs k:=by simp[atKey,zd0,e']
   rw[Q5 e,b];exact ih
def KT.uW (r:KT H kvs xs)(k:List Key)(ry:RelV y u):
 KT H (kvs.map λ kv=>if kv.1=k then (kv.1,y) else kv) (xs.map (putAt k u)):=by
 induction r with
 |nil=>exact .nil
 | @cons p q ps qs h t ih =>
  rw[za6,za6];refine .cons ?_ ih;obtain⟨h1,h2,h3⟩:=h;unfold putAt;by_cases e:p.1=k
  ·rw[if_pos e,if_pos (h1.symm.trans e)];exact⟨h1,h2,ry⟩
  ·rw[if_neg e,if_neg (λ z=>e (h1.trans z))];exact⟨h1,h2,h3⟩
def KT.put (r:KT H kvs xs)(k:List Key)(hb:H b=some (.tup (k.map kV)))(ry:RelV y u):
 KT H (putK kvs k y) (storedH xs k b u):=by
 have e:(kvs.any λ kv=>decide (kv.1=k))=(atKey xs k).isSome:=by
  rw[VE,(r.val k).Ge,Option.isSome_map]
 unfold putK storedH;rw[e];by_cases q:(atKey xs k).isSome=true
 ·rw[if_pos q,if_pos q];exact r.uW k ry
 ·rw[if_neg q,if_neg q];exact Paired.snoc r ⟨rfl,hb,ry⟩
def KT.keeps (r:KT H kvs xs)(ht:∀b ys,H b=some (.tup ys)->H' b=some (.tup ys)):KT H' kvs xs:=
 Paired.tK r λ _ _ z=>⟨z.1,ht _ _ z.2.1,z.2.2⟩
section
variable {P:Program}{h:Heap}{a:Addr}
def rO (ok:HE P w H h)(e:Rd H a u):Bo P w H h a u:=e.ok ok
def K6 (ok:HE P w H h)(e:Rd H a (.dK kvs)):kvs.length<=sizeLine/\(a==sysModules)=false/\∃vs,KV kvs vs/\h.DictOf (AN P w) a vs:=
 show Bo P w H h a (.dK kvs) from rO ok e
def rP (ok:HE P w H h)(e:H a=some (.dK kvs)):kvs.length<=sizeLine/\(a==sysModules)=false/\∃vs,KV kvs vs/\h.DictOf (AN P w) a vs:=K6 ok (.inl e)
def Im (ok:HE P w H h)(e:H a=some (.tup (ks.map kV))):(tupleKind (AN P w)).is h ks a:=by
 obtain⟨_,aa,r,o,h1,h2,n,h3⟩:=(show Bo P w H h a (.tup (ks.map kV)) from ok a _ e);exact⟨o,aa.toArray,n,h1,h2,h3,by simpa using T4 r⟩
def NX (ok:HE P w H h)(e:Rd H a (.dT kvs)):kvs.length<=sizeLine/\(a==sysModules)=false/\
 ∃xs,KT H kvs xs/\h.DictOfH (tupleKind (AN P w)) a xs:=by
 obtain⟨z,y,xs,r,o,es,ep,h1,h2,h3,h4,h5⟩:=(show Bo P w H h a (.dT kvs) from rO ok e);refine⟨z,y,xs,r,o,es,ep,h1,h2,h3,h4,λ x hx=>?_,h5⟩;have all:∀ {l:List (List Key×V)} {m:List (List Key×Addr×Value)},KT H l m->∀x∈m,(tupleKind (AN P w)).is h x.1 x.2.1:=by
  intro l m q;induction q with
  |nil=>intro x hx;exact nomatch hx
  | @cons p q ps qs hq t ih =>
   intro x hx;rcases zac.mp hx with e|hx
   ·subst e;exact Im ok (by rw[<-hq.1];exact hq.2.1)
   ·exact ih x hx
 exact all r x hx
def zN (ok:HE P w H h)(e:H a=some (.dT kvs)):kvs.length<=sizeLine/\(a==sysModules)=false/\
 ∃xs,KT H kvs xs/\h.DictOfH (tupleKind (AN P w)) a xs:=NX ok (.inl e)
end
abbrev Q6 (H:Hp)(a:Addr)(y:V)(r:Option V):Prop:=
 (∃kvs k,Rd H a (.dK kvs)/\y=kV k/\r=Sk kvs k)\/∃kvs k b,Rd H a (.dT kvs)/\y=.ref b/\H b=some (.tup (k.map kV))/\r=Sk kvs k
abbrev zO (H:Hp)(a:Addr)(y v:V)(H':Hp):Prop:=
 (∃kvs k,H a=some (.dK kvs)/\y=kV k/\kvs.length<sizeLine/\H'=upd H a (.dK (putK kvs k v))) \/
 ∃kvs k b,H a=some (.dT kvs)/\y=.ref b/\H b=some (.tup (k.map kV))/\kvs.length<sizeLine/\H'=upd H a (.dT (putK kvs k v))
section
variable {a:Addr}{y v:V}{u r:Value}{o:Option V}
def Inv.big (I:Inv X pins σ H s):sysModules<s.heap.objs.size:=by
 have h:mainGlobals<s.heap.objs.size:=(I.mod.glob.keeps I.bk).lt;exact Nat.lt_trans (by decide) h
def bR (hu:A.units+1<cLine)(I:Inv X pins σ H s)(g:Q6 H a y (some v))(ry:RelV y u)(h:∀w' s',Inv X pins σ H s'->RelV v w'->Q w' s'):
 wpAny (model X.prog X.w) A (getItem (.ref a) u) Q E s:=by
 rcases g with ⟨kvs,k,e,ey,l⟩|⟨kvs,k,b,e,ey,eb,l⟩
 ·subst ey;obtain⟨z,hd,vs,rel,dd⟩:=K6 I.Aw e;obtain⟨w',hw,aU⟩:=I9.some_of (v:=v) (o:=valueAt vs k) (by rw[l];exact rel.val k);exact wpAny_getItem_of (Ld ry) dd.mapOf hw (h w' _ (I.tok _) aU)
 ·subst ey;cases (show u=zb8 b from ry);obtain⟨z,hd,xs,rel,dd⟩:=NX I.Aw e;obtain⟨w',hw,aU⟩:=I9.some_of (v:=v) (o:=(atKey xs k).map (·.2)) (by rw[l];exact rel.val k);obtain⟨p,hp,xg⟩:=zcr.mp hw;refine wpAny_getItem_heap (tupleKind_room_in1 hu) (Im I.Aw eb) dd hp ?_;rw[xg];exact h w' _ (I.tok _) aU
def abQ (hu:A.units+1<cLine)(I:Inv X pins σ H s)(g:Q6 H a y o)(ry:RelV y u)(h:∀s',Inv X pins σ H s'->Q (.bool o.isSome) s'):
 wpAny (model X.prog X.w) A (compareOp .In u (.ref a)) Q E s:=by
 rcases g with ⟨kvs,k,e,ey,l⟩|⟨kvs,k,b,e,ey,eb,l⟩
 ·subst ey;obtain⟨z,hd,vs,rel,dd⟩:=K6 I.Aw e;refine wpAny_in_of (Ld ry) hd dd.mapOf ?_;rw[<-(rel.val k).Ge,<-l];exact h _ (I.tok _)
 ·subst ey;cases (show u=zb8 b from ry);obtain⟨z,hd,xs,rel,dd⟩:=NX I.Aw e;refine wpAny_in_heap (tupleKind_room_in1 hu) (Im I.Aw eb) hd dd ?_;have q:=(rel.val k).Ge;rw[Option.isSome_map] at q;rw[<-q,<-l];exact h _ (I.tok _)
def nI (hu:A.units+1<cLine)(I:Inv X pins σ H s)(g:Q6 H a y o)(ry:RelV y u)(h:∀s',Inv X pins σ H s'->Q (.bool (!o.isSome)) s'):
 wpAny (model X.prog X.w) A (compareOp .NotIn u (.ref a)) Q E s:=by
 rcases g with ⟨kvs,k,e,ey,l⟩|⟨kvs,k,b,e,ey,eb,l⟩
 ·subst ey;obtain⟨z,hd,vs,rel,dd⟩:=K6 I.Aw e;refine wpAny_notIn_of (Ld ry) hd dd.mapOf ?_;rw[<-(rel.val k).Ge,<-l];exact h _ (I.tok _)
 ·subst ey;cases (show u=zb8 b from ry);obtain⟨z,hd,xs,rel,dd⟩:=NX I.Aw e;refine wpAny_notIn_heap (tupleKind_room_in1 hu) (Im I.Aw eb) hd dd ?_;have q:=(rel.val k).Ge;rw[Option.isSome_map] at q;rw[<-q,<-l];exact h _ (I.tok _)
def Uh (I:Inv X pins σ H s)(mu:yM (H a))(hs:Heap.SameBut a s.heap h')(he:∃q,h'.get? a=some q)(new:Bo X.prog X.w (upd H a ob) h' a ob):
 Inv X pins σ (upd H a ob) {s with heap:=h',toks:=t' }:=
 I.write (x:=a) (e:=a) mu (.inl rfl) (λ b q hb z=>(hs.2 b hb).trans z) he new
def gM (z:kvs.length<=sizeLine)(hd:(a==sysModules)=false)(rel:KV kvs vs)(dd:h'.DictOf (AN P w) a vs):
 Bo P w H' h' a (.dK kvs):=⟨z,hd,vs,rel,dd⟩
def bS (hu:A.units+1<cLine)(I:Inv X pins σ H s)(g:zO H a y v H')(ry:RelV y u)(rv:RelV v r)(h:∀s',Inv X pins σ H' s'->Q () s'):
 wpAny (model X.prog X.w) A (setItem (.ref a) u r) Q E s:=by
 rcases g with ⟨kvs,k,e,ey,l,eH⟩|⟨kvs,k,b,e,ey,eb,l,eH⟩
 ·subst ey eH;obtain⟨z,hd,vs,rel,dd⟩:=rP I.Aw e;have hz:vs.length<=sizeLine:=by rw[<-rel.length];exact z
  have hl:(putK kvs k v).length<=sizeLine:=by have:=E5 kvs k v;omega
  refine wpAny_setItem_pairs (hsz:=hz) (Ld ry) dd λ h' gq hs=>h _ ?_;have he:∃q,h'.get? a=some q:=let ⟨q,_,_,hq,_⟩:=gq;⟨q,hq⟩;exact Uh I (by rw[e];exact zct) hs he (gM hl hd (rel.put k rv) gq)
 ·subst ey eH;cases (show u=zb8 b from ry);obtain⟨z,hd,xs,rel,dd⟩:=zN I.Aw e;have hz:xs.length<=sizeLine:=by rw[<-zcx rel];exact z
  have hl:(putK kvs k v).length<=sizeLine:=by have:=E5 kvs k v;omega
  refine wpAny_setItem_heap (hsz:=hz) (tupleKind_room_in1 hu) (Im I.Aw eb) dd λ h' gq hs=>h _ ?_;obtain⟨q,es,ep,hq,h2,h3,h4,_,h5⟩:=gq;refine Uh I (by rw[e];exact zct) hs ⟨q,hq⟩ ⟨hl,hd,_,(rel.put k eb rv).keeps λ c ys ec=>?_,q,es,ep,hq,h2,h3,h4,h5⟩;rw[Ai (yL ec e (λ z=>nomatch z))];exact ec
end
def VF (I:Inv X pins σ H s)(g:Q6 H a y o):s.TypeIs (.ref a) "dict" := by
 rcases g with ⟨kvs,k,e,_,_⟩|⟨kvs,k,b,e,_,_,_⟩
 ·obtain⟨_,_,vs,_,dd⟩:=K6 I.Aw e;exact dd.typeIs
 ·obtain⟨_,_,xs,_,dd⟩:=NX I.Aw e;exact dd.typeIs
abbrev zP (td ty tv:TE):TS:=λ D σ H=>tv σ H λ v H1=>td σ H1 λ x H2=>ty σ H2 λ y H3=>∃a H4,x=.ref a/\zO H3 a y v H4/\D.nx σ H4
section
variable {o i value:Expr}{pos' aT:Pos}{tv:TE}
def nJ (hu:X.A.units+1<cLine)(ho:PE X o td)(hi:PE X i ty)(hv:PE X value tv)(hs:swapsWith value (some (.Subscript o i pos')) pos.line X.env=pure false):
 PS X (.Assign [.Subscript o i pos'] value pos) (zP td ty tv):=by
 intro pins s σ H D I h;refine wpAny_Assign_Subscript (B9 (hv pins s σ H _ I h) λ r s1 ⟨v,H1,I1,rv,q1⟩=>B9 (ho pins s1 σ H1 _ I1 q1) λ u s2 ⟨x,H2,I2,rx,q2⟩=>B9 (hi pins s2 σ H2 _ I2 q2) λ iv s3 zz=>?_) hs;obtain⟨y,H3,I3,ry,a,H4,ex,g,q3⟩:=zz;subst ex;obtain rfl:u=zb8 a:=rx;exact bS hu I3 g ry rv λ s4 I4=>⟨σ,H4,I4,q3⟩
end
def VG (h:Heap)(hb:sysModules<h.objs.size):Bo P w H (h.push {cls:=.type "dict",data:=.dict #[]}) h.objs.size (.dK []):=
 ⟨zbb _,beq_eq_false_iff_ne.mpr (zbm (zar hb)),[],.nil,Heap.DictOf.new h⟩
def gO (h:Heap)(hb:sysModules<h.objs.size):Bo P w H (h.push {cls:=.type "dict",data:=.dict #[]}) h.objs.size (.dT []):=
 ⟨zbb _,beq_eq_false_iff_ne.mpr (zbm (zar hb)),[],.nil,_,#[],0,zap _ rfl,⟨rfl,rfl,rfl⟩,rfl,rfl,zbn⟩
abbrev uX:TE:=λ _ H Q=>∀p,H p=none->Q (.ref p) (upd H p (.dK []))
abbrev uY:TE:=λ _ H Q=>∀p,H p=none->Q (.ref p) (upd H p (.dT []))
def gQ:PE X (.Dict [] [] pos) uX:=λ pins s σ H Q I h =>
 wpAny_Dict_empty ⟨.ref s.heap.objs.size,_,I.laid (a:=s.heap.objs.size) (o:=.dK []) (t':=s.toks) (λ _ _ q=>zaa _ q) (zag _) (VG s.heap I.big),rfl,h _ (I.Aw.fresh (zag _))⟩
def gR:PE X (.Dict [] [] pos) uY:=λ pins s σ H Q I h =>
 wpAny_Dict_empty ⟨.ref s.heap.objs.size,_,I.laid (a:=s.heap.objs.size) (o:=.dT []) (t':=s.toks) (λ _ _ q=>zaa _ q) (zag _) (gO s.heap I.big),rfl,h _ (I.Aw.fresh (zag _))⟩
abbrev XG:List (TE×TE)->St->Hp->(List (V×V)->Hp->Prop)->Prop
 |[],_,H,Q=>Q [] H
 |(tk,tv)::r,σ,H,Q=>tk σ H λ x H1=>tv σ H1 λ y H2=>XG r σ H2 λ ps H3=>Q ((x,y)::ps) H3
noncomputable abbrev VV:List (V×V)->List (Value×Value)->Prop:=Paired λ p q=>RelV p.1 q.1/\RelV p.2 q.2
abbrev PPs (X:Cx)(pos:Pos)(keys:List (Option Expr))(values:List Expr)(dr:List (TE×TE)):Prop:=
 ∀(pins:List (Addr×Obj)) (s:Shared) (σ:St) (H:Hp) (Q:List (V×V)->Hp->Prop),Inv X pins σ H s->XG dr σ H Q->
  wpAny (model X.prog X.w) X.A (evalPairs (pairTrees keys values X.env pos)) (λ vs s'=>∃ps H',Inv X pins σ H' s'/\VV ps vs/\Q ps H') X.xe s
def nK:PPs X pos [] [] []:=λ pins s σ H Q I h=>pairTrees_nil_walk ⟨[],H,I,.nil,h⟩
def gU (hk:PE X k tk)(hv:PE X v tv)(hr:PPs X pos ks vs dr):
 PPs X pos (some k::ks) (v::vs) ((tk,tv)::dr):=λ pins s σ H Q I h =>
 pairTrees_cons_walk (B9 (hk pins s σ H _ I h) λ u s1 ⟨x,H1,I1,rx,q1⟩=>B9 (hv pins s1 σ H1 _ I1 q1) λ w2 s2 ⟨y,H2,I2,ry,q2⟩ =>
  B9 (hr pins s2 σ H2 _ I2 q2) λ ws s3 ⟨ps,H3,I3,rel,q3⟩=>⟨(x,y)::ps,H3,I3,.cons ⟨rx,ry⟩ rel,q3⟩)
abbrev Io (kvs more:List (Key×V)):List (Key×V):=more.foldl (λ acc kv=>putK acc kv.1 kv.2) kvs
def KV.merge:∀ {more:List (Key×V)}{rs:List (Key×Value)}{kvs:List (Key×V)}{vs:List (Key×Value)},KV more rs->KV kvs vs->KV (Io kvs more) (merged vs rs):=by
 intro more rs kvs vs r;unfold KV at r;induction r generalizing kvs vs with
 |nil=>intro q;exact q
 | @cons p q ps qs h t ih =>
  intro r0;have e:KV (putK kvs p.1 p.2) (stored vs q.1 q.2):=by
   have:=r0.put p.1 h.2;rw[<-h.1];exact this
  exact ih e
def K7:∀(more kvs:List (Key×V)),(Io kvs more).length<=kvs.length+more.length
 |[],kvs=>by show kvs.length<=kvs.length+0;omega
 |p::r,kvs=>by
  have h1:=K7 r (putK kvs p.1 p.2);have h2:=E5 kvs p.1 p.2;show (Io (putK kvs p.1 p.2) r).length<=_;rw[za8];omega
def Q7 {P:Program}{w:World}:∀ {kvs:List (Key×V)}{ws:List (Value×Value)},VV (kvs.map λ kv=>(kV kv.1,kv.2)) ws->∃rs,Carries (AN P w) ws rs/\KV kvs rs
 |[],_,r=>by rw[zcy] at r;cases r;exact⟨[],zct,.nil⟩
 |p::kvs,_,r=>by
  rw[za6] at r;cases r with
  | @cons a b as bs h t =>
   obtain⟨rs,c,q⟩:=Q7 (P:=P) (w:=w) t;obtain⟨b1,b2⟩:=b;exact⟨(p.1,b2)::rs,⟨Ld h.1,rfl,c⟩,.cons ⟨rfl,h.2⟩ q⟩
abbrev zQ (dr:List (TE×TE)):TE:=λ σ H Q=>∀p,H p=none->XG dr σ (upd H p (.dK [])) λ ps H2=>H2 p=some (.dK [])/\∃kvs:List (Key×V),ps=kvs.map (λ kv=>(kV kv.1,kv.2))/\kvs.length<=15/\Q (.ref p) (upd H2 p (.dK (Io [] kvs)))
def nL (h:PPs X pos keys values dr)(a7:keys.all (·.isSome)=true)(hl:keys.length=values.length)(h0:keys≠[])(xh:keys.length<=15):PE X (.Dict keys values pos) (zQ dr):=by
 intro pins s σ H Q I q;have hn:=I.Aw.fresh (zag s.heap.objs.size);have I1:=I.laid (a:=s.heap.objs.size) (o:=.dK []) (h':=s.heap.push {cls:=.type "dict",data:=.dict #[]}) (t':=s.toks) (λ _ _ q=>zaa _ q) (zag _) (VG s.heap I.big);refine wpAny_Dict_walk (knd:=AN X.prog X.w) a7 hl h0 xh (B9 (h pins _ σ _ _ I1 (q _ hn)) λ ws s2 zz=>?_);obtain⟨ps,H2,I2,rel,e,kvs,ep,lk,q2⟩:=zz;subst ep;obtain⟨rs,c,rk⟩:=Q7 (P:=X.prog) (w:=X.w) rel;obtain⟨z,hd,vg,r0,dd⟩:=rP I2.Aw e;cases r0;refine⟨rs,c,dd,λ h' gq hs=>⟨.ref s.heap.objs.size,_,?_,rfl,q2⟩⟩;have hz:(Io [] kvs).length<=sizeLine:=by
  have h1:=K7 kvs [];rw[List.length_nil] at h1;rw[sizeLine_eq];omega
 have he:∃q,h'.get? s.heap.objs.size=some q:=let ⟨q,_,_,hq,_⟩:=gq;⟨q,hq⟩;exact Uh I2 (by rw[e];exact zct) hs he (gM hz hd (rk.merge .nil) gq)
structure M1 (X:Cx)(o:Expr)(m:Str)(apos:Pos)(e:Expr)(ac:Pos):Prop where
 base:attributeBase o m X.env (eval o X.env)=eval o X.env
 few:((backTo ac (starEach [e] X.env)).all (λ x => !x.1)&&(backToKw ac (keywordEach [] X.env)).all (λ x=>x.1.isSome)
  && decide (([e]:List Expr).length+([]:List Keyword).length+(if ([]:List Keyword).isEmpty then 0 else 1)<30))=true
 line:(apos.endLine==ac.line)=true
 gW:backTo ac (starEach [e] X.env)=[(false,eval e X.env)]
structure M2 (X:Cx)(o:Expr)(m:Str)(apos:Pos)(e f:Expr)(ac:Pos):Prop where
 base:attributeBase o m X.env (eval o X.env)=eval o X.env
 few:((backTo ac (starEach [e,f] X.env)).all (λ x => !x.1)&&(backToKw ac (keywordEach [] X.env)).all (λ x=>x.1.isSome)
  && decide (([e,f]:List Expr).length+([]:List Keyword).length+(if ([]:List Keyword).isEmpty then 0 else 1)<30))=true
 line:(apos.endLine==ac.line)=true
 gW:backTo ac (starEach [e,f] X.env)=[(false,eval e X.env),(false,eval f X.env)]
abbrev IsD (H:Hp)(a:Addr):Prop:=(∃kvs,Rd H a (.dK kvs))\/∃kvs,Rd H a (.dT kvs)
def Ui (I:Inv X pins σ H s)(d:IsD H a):
 s.TypeIs (.ref a) "dict" /\ (∀b,zb8 a=.ref b->∃ob,s.heap.get? b=some ob/\ob.dict=none)/\(a==sysModules)=false:=by
 rcases d with ⟨kvs,e⟩|⟨kvs,e⟩
 ·obtain⟨_,hd,vs,_,dd⟩:=K6 I.Aw e;refine⟨dd.typeIs,λ b q=>?_,hd⟩;cases q;obtain⟨ob,_,_,h1,h2,_⟩:=dd;exact⟨ob,h1,h2.2.1⟩
 ·obtain⟨_,hd,xs,_,dd⟩:=NX I.Aw e;refine⟨dd.typeIs,λ b q=>?_,hd⟩;cases q;obtain⟨ob,_,_,h1,h2,_⟩:=dd;exact⟨ob,h1,h2.2.1⟩
section
variable {a:Addr}{y d:V}{u r:Value}{o:Option V}
def uZ (hu:A.units+1<cLine)(I:Inv X pins σ H s)(g:Q6 H a y o)(ry:RelV y u)(h:∀w' s',Inv X pins σ H s'->RelV (o.getD .Av) w'->Q w' s'):
 wpAny (model X.prog X.w) A (call (.builtin "dict.get") [.ref a,u]) Q E s:=by
 rcases g with ⟨kvs,k,e,ey,l⟩|⟨kvs,k,b,e,ey,eb,l⟩
 ·subst ey;obtain⟨z,hd,vs,rel,dd⟩:=K6 I.Aw e;refine call_meetsIn zcj dd.typeIs PySem.F.entry_dict_get (PySem.F.args_dict_get_2 _ _) (meets_dict_get (AN X.prog X.w) a (Ld ry) hd) ⟨_,dd.mapOf,h _ _ (I.tok _) ?_⟩;rw[l];exact (rel.val k).getD rfl
 ·subst ey;cases (show u=zb8 b from ry);obtain⟨z,hd,xs,rel,dd⟩:=NX I.Aw e;refine call_meetsIn zcj dd.typeIs PySem.F.entry_dict_get (PySem.F.args_dict_get_2 _ _) (meetsH_dict_get (tupleKind (AN X.prog X.w)) a b hd) ⟨tupleKind_room_in1 hu,k,xs,Im I.Aw eb,dd,h _ _ (I.tok _) ?_⟩;rw[l];exact (rel.val k).getD rfl
def vA (hu:A.units+1<cLine)(I:Inv X pins σ H s)(g:Q6 H a y o)(ry:RelV y u)(rd:RelV d r)(h:∀w' s',Inv X pins σ H s'->RelV (o.getD d) w'->Q w' s'):
 wpAny (model X.prog X.w) A (call (.builtin "dict.get") [.ref a,u,r]) Q E s:=by
 rcases g with ⟨kvs,k,e,ey,l⟩|⟨kvs,k,b,e,ey,eb,l⟩
 ·subst ey;obtain⟨z,hd,vs,rel,dd⟩:=K6 I.Aw e;refine call_meetsIn zcj dd.typeIs PySem.F.entry_dict_get (PySem.F.args_dict_get_3 _ _ _) (meets_dict_get_default (AN X.prog X.w) a (Ld ry) hd r) ⟨_,dd.mapOf,h _ _ (I.tok _) ?_⟩;rw[l];exact (rel.val k).getD rd
 ·subst ey;cases (show u=zb8 b from ry);obtain⟨z,hd,xs,rel,dd⟩:=NX I.Aw e;refine call_meetsIn zcj dd.typeIs PySem.F.entry_dict_get (PySem.F.args_dict_get_3 _ _ _) (meetsH_dict_get_default (tupleKind (AN X.prog X.w)) a b hd r) ⟨tupleKind_room_in1 hu,k,xs,Im I.Aw eb,dd,h _ _ (I.tok _) ?_⟩;rw[l];exact (rel.val k).getD rd
end
abbrev vB (td ty:TE):TE:=λ σ H Q=>td σ H λ x H1=>∃a,x=.ref a/\IsD H1 a/\ty σ H1 λ y H2=>∃o,Q6 H2 a y o/\Q (o.getD .Av) H2
abbrev vC (td ty tx:TE):TE:=λ σ H Q=>td σ H λ x H1=>∃a,x=.ref a/\IsD H1 a/\ty σ H1 λ y H2=>tx σ H2 λ z H3=>∃o,Q6 H3 a y o/\Q (o.getD z) H3
section
variable {o f:Expr}{apos ac:Pos}{tx:TE}
def gY (hu:X.A.units+1<cLine)(ho:PE X o td)(he:PE X e ty)(m:M1 X o "get" apos e ac):PE X (.Call (.Attribute o "get" apos) [e] [] ac) (vB td ty):=by
 intro pins s σ H Q I h;refine wpAny_Call_method m.base m.few m.line PySem.F.plainAttrs_dict zcj PySem.F.type_dict_get (B9 (ho pins s σ H _ I h) λ u s1 zz=>?_);obtain⟨x,H1,I1,rx,a,ex,d,q1⟩:=zz;subst ex;obtain rfl:u=zb8 a:=rx;obtain⟨t1,t2,_⟩:=Ui I1 d;refine⟨t1,t2,?_⟩;rw[m.gW];refine zcu rfl (Calls.evalArgs_plain (zc3 (B9 (he pins s1 σ H1 _ I1 q1) λ iv s2 ⟨y,H2,I2,ry,ov,g,q2⟩=>zcg ?_)));exact uZ hu I2 g ry λ w' s3 I3 aU=>⟨_,H2,I3,aU,q2⟩
def gZ (hu:X.A.units+1<cLine)(ho:PE X o td)(he:PE X e ty)(hf:PE X f tx)(m:M2 X o "get" apos e f ac):PE X (.Call (.Attribute o "get" apos) [e,f] [] ac) (vC td ty tx):=by
 intro pins s σ H Q I h;refine wpAny_Call_method m.base m.few m.line PySem.F.plainAttrs_dict zcj PySem.F.type_dict_get (B9 (ho pins s σ H _ I h) λ u s1 zz=>?_);obtain⟨x,H1,I1,rx,a,ex,d,q1⟩:=zz;subst ex;obtain rfl:u=zb8 a:=rx;obtain⟨t1,t2,_⟩:=Ui I1 d;refine⟨t1,t2,?_⟩;rw[m.gW];refine zcu rfl (Calls.evalArgs_plain (zc3 (B9 (he pins s1 σ H1 _ I1 q1) λ iv s2 ⟨y,H2,I2,ry,q2⟩ =>
  zc3 (B9 (hf pins s2 σ H2 _ I2 q2) λ fv s3 ⟨z,H3,I3,rz,ov,g,q3⟩=>zcg ?_))))
 exact vA hu I3 g ry rz λ w' s4 I4 aU=>⟨_,H3,I4,aU,q3⟩
end
abbrev YW (y:Str×NameKind):Bool:=y.2==.cell
abbrev Ia (sc outer:Scope):Bool:=
 decide (sc.kind=.function)&&(decide ((sc.names.filter YW).length<=1)&&sc.names.all λ y=>(decide (y.2≠.cell)||decide (sc.names.lookup y.1=some .cell))&&(decide (y.2≠.free)||decide (outer.names.lookup y.1=some .cell)||decide (outer.names.lookup y.1=some .free))&&(decide (y.2≠.local)||decide (sc.names.lookup y.1=some .local)))
abbrev Ip (names:List (Str×NameKind)):Option Str:=(names.find? YW).map (·.1)
abbrev YX (C:Addr)(names:List (Str×NameKind))(cs:List (Str×Addr)):List (Str×Addr):=match Ip names with
 |some x=>(x,C+1)::cs
 |none=>cs
def VH (h:Ip names=some x):(x,.cell)∈names:=by
 unfold Ip at h;obtain⟨y,h1,rfl⟩:=zcr.mp h;have h2:=List.find?_some h1;have e:y.2=.cell:=by unfold YW at h2;simpa using h2
 have:=List.mem_of_find?_eq_some h1;rw[<-e];exact this
def vD (h:(names.filter YW).length<=1)(hx:(x,.cell)∈names):Ip names=some x:=by
 induction names with
 |nil=>cases hx
 |cons y r ih =>
  unfold Ip;cases e:YW y with
  |true =>
   rw[List.filter_cons_of_pos e,za8] at h;rw[List.find?_cons_of_pos e];rcases zac.mp hx with rfl|hx
   ·rfl
   ·have:(x,NameKind.cell)∈r.filter YW:=zb2.mpr ⟨hx,rfl⟩;rw[List.eq_nil_of_length_eq_zero (l:=r.filter YW) (by omega)] at this;cases this
  |false =>
   rw[List.filter_cons_of_neg (by rw[e];exact zav)] at h;rw[List.find?_cons_of_neg (by rw[e];exact zav)];rcases zac.mp hx with rfl|hx
   ·cases e
   ·exact ih h hx
def XH:∀ {names:List (Str×NameKind)}{n:Nat}{acc:List (Str×Addr)},(names.filter YW).length<=1->cellsFrom n names acc=match Ip names with | some x=>(x,n)::acc | none=>acc
 |[],_,_,_=>rfl
 |(x,k)::r,n,acc,h=>by
  unfold cellsFrom Ip;cases e:YW (x,k) with
  |true =>
   rw[List.filter_cons_of_pos e,za8] at h;rw[List.find?_cons_of_pos e,if_pos (show (k==NameKind.cell)=true from e),XH (by omega)];cases q:Ip r with
   |none=>rfl
   |some y =>
    have:(y,NameKind.cell)∈r.filter YW:=zb2.mpr ⟨VH q,rfl⟩;rw[List.eq_nil_of_length_eq_zero (l:=r.filter YW) (by omega)] at this;cases this
  |false =>
   have e':¬ YW (x,k)=true:=by rw[e];exact zav
   rw[List.filter_cons_of_neg e'] at h;rw[List.find?_cons_of_neg e',if_neg (show ¬ (k==NameKind.cell)=true from e'),XH h];rfl
abbrev Sl (N NB:List Str)(sc:Scope)(μ:List (Option Nat)):Bool:=
 decide (NB.length=μ.length)&&(NB.zip μ).all λ p=>match p.2 with
  |none=>true
  |some i=>decide (N[i]?=some p.1)&&decide (sc.names.lookup p.1=some .free)
abbrev FW (μ:List (Option Nat))(σ:St):St:=μ.map λ o=>o.bind λ i=>(σ[i]?).join
abbrev GQ (cells:List (Str×Addr)):List (Str×NameKind)->List (Str×Addr)->List (Str×Addr)
 |[],cs=>cs
 |(n,k)::r,cs=>GQ cells r (if (k==.free)=true then (n,(cells.lookup n).getD 0)::cs else cs)
def K8 (h:∀y∈scope.names,y.2=.free->∃c,env.cells.lookup y.1=some c):closureFor scope env=pure (GQ env.cells scope.names []):=by
 unfold closureFor;have key:∀(names:List (Str×NameKind)) (cs:List (Str×Addr)),(∀y∈names,y.2=.free->∃c,env.cells.lookup y.1=some c)->
  (forIn names cs λ(x:Str×NameKind) r=>match x with
   |(name,kind)=>if (kind==zcw)=true then do
    let __do_lift <-cellOf env name
    pure (zdc ((name,__do_lift)::r))
    else pure (zdc r):Sem _)=pure (GQ env.cells names cs):=by
  intro names;induction names with
  |nil=>intro cs _;rfl
  |cons y r ih =>
   intro cs hy;obtain⟨n,k⟩:=y;rw[List.forIn_cons];by_cases hk:k=.free
   ·subst hk;obtain⟨c,hc⟩:=hy (n,.free) za3 rfl;have e:cellOf env n=pure c:=by unfold cellOf;rw[show env.cells.lookup n=some c from hc]
    simp only[e,beq_self_eq_true,if_true,pure_bind];rw[ih _ λ z hz=>hy z (za4 _ hz)];simp only[GQ,beq_self_eq_true,if_true];rw[show env.cells.lookup n=some c from hc];rfl
   ·have hb:(k==zcw)=false:=by simpa using hk
    simp only[hb,zb1,if_false,pure_bind];rw[ih _ λ z hz=>hy z (za4 _ hz)];simp only[GQ,hb,zb1,if_false]
 have q:=key scope.names [] h;simp only[bind_pure];exact q
def VI:∀ {names:List (Str×NameKind)}{cs:List (Str×Addr)}{x:Str}{c:Addr},(x,c)∈GQ cells names cs->(x,c)∈cs\/((x,.free)∈names/\c=(cells.lookup x).getD 0)
 |[],cs,x,c,h=>.inl h
 |(n,k)::r,cs,x,c,h=>by
  rcases VI (names:=r) h with q|⟨q,e⟩
  ·by_cases hk:k=.free
   ·subst hk;simp only[beq_self_eq_true,if_true] at q;rcases zac.mp q with z|z
    ·cases z;exact .inr ⟨za3,rfl⟩
    ·exact .inl z
   ·have hb:(k==zcw)=false:=by simpa using hk
    simp only[hb,zb1,if_false] at q;exact .inl q
  ·exact .inr ⟨za4 _ q,e⟩
def Q8:∀ {names:List (Str×NameKind)}{cs:List (Str×Addr)}{p:Str×Addr},p∈cs->p∈GQ cells names cs
 |[],_,_,h=>h
 |(n,k)::r,cs,p,h=>by
  show p∈GQ cells r _;refine Q8 ?_;by_cases hk:(k==zcw)=true
  ·rw[if_pos hk];exact za4 _ h
  ·rw[if_neg hk];exact h
def Q9:∀ {names:List (Str×NameKind)}{cs:List (Str×Addr)}{x:Str},(x,.free)∈names->∃c,(x,c)∈GQ cells names cs
 |(n,k)::r,cs,x,h=>by
  rcases zac.mp h with z|z
  ·cases z;refine⟨(cells.lookup n).getD 0,?_⟩;show _∈GQ cells r (if (zcw==zcw)=true then _ else _);exact Q8 (by rw[if_pos (beq_self_eq_true _)];exact za3)
  ·exact Q9 (names:=r) z
def DV:∀ {l:List (Str×Addr)},(x,c)∈l->∃c',l.lookup x=some c'
 |(y,d)::r,h=>by
  rw[zc4];by_cases e:(x==y)=true
  ·rw[e];exact⟨d,rfl⟩
  ·rw[Bool.eq_false_iff.mpr e];rcases zac.mp h with z|z
   ·cases z;exact absurd (beq_self_eq_true x) e
   ·exact DV z
def Le (h:(relabel scope env).names.lookup x=some k):∃k',scope.names.lookup x=some k'/\(k=k'\/(k'=.free/\k=.cell)):=by
 unfold relabel at h;dsimp only at h;revert h;induction scope.names with
 |nil=>intro h;cases h
 |cons y r ih =>
  obtain⟨n,k'⟩:=y;intro h;rw[za6,zc4] at h;rw[zc4];by_cases hc:(k'==zcw&&env.scope.kind==.function&&env.kindOf n==some .cell)=true
  ·dsimp only at h;rw[if_pos hc] at h;dsimp only at h;cases e:x==n with
   |true =>
    rw[e] at h;have hf:k'=.free:=by
     have:=hc;simp only[zb6] at this;simpa using this.1.1
    exact⟨k',rfl,.inr ⟨hf,(zao h).symm⟩⟩
   |false=>rw[e] at h;exact ih h
  ·dsimp only at h;rw[if_neg hc] at h;dsimp only at h;cases e:x==n with
   |true=>rw[e] at h;exact⟨k',rfl,.inl (zao h).symm⟩
   |false=>rw[e] at h;exact ih h
def lookup_mem {α:Type}{k}:∀ {l:List (Str×α)},l.lookup x=some k->(x,k)∈l
 |(y,d)::r,h=>by
  rw[zc4] at h;cases e:x==y with
  |true =>
   rw[e] at h;cases h;have:x=y:=by simpa using e
   subst this;exact za3
  |false=>rw[e] at h;exact za4 _ (lookup_mem h)
abbrev blockOf (X:Cx)(s:Shared)(H:Hp)(scope:Scope)(C:Addr)(NB:List Str)(ex:List Addr):Cx:=
 {X with N:=NB,s₀:=s,H₀:=H,env:=compEnvC scope (YX C scope.names (GQ X.env.cells scope.names [])) C X.env,outer:=X.stack,stack:=X.stack,ex:=ex,fn:=λ y=>Ip scope.names==some y,pn:=[],xe:=λ _ _=>False}
section
variable {s4:Shared}{C:Addr}
def Nb (h:Ia scope X.env.scope=true):scope.kind=.function:=by
 unfold Ia at h;simp only[zb6,decide_eq_true_eq] at h;exact h.1
def VJ (h:Ia sc outer=true):(sc.names.filter YW).length<=1:=by
 unfold Ia at h;rw[zb6,zb6,decide_eq_true_eq,decide_eq_true_eq] at h;exact h.2.1
def Lf (h:Ia sc outer=true)(hy:y∈sc.names):(y.2=.cell->sc.names.lookup y.1=some .cell)/\(y.2=.free->outer.names.lookup y.1=some .cell\/outer.names.lookup y.1=some .free)/\(y.2=.local->sc.names.lookup y.1=some .local):=by
 unfold Ia at h;simp only[zb6,decide_eq_true_eq,List.all_eq_true,Bool.or_eq_true] at h;obtain⟨⟨h1,h2⟩,h3⟩:=h.2.2 y hy;exact⟨λ e=>h1.elim (λ q=>absurd e q) id,λ e=>by
  rcases h2 with (q|q)|q
  ·exact absurd e q
  ·exact .inl q
  ·exact .inr q,λ e=>h3.elim (λ q=>absurd e q) id⟩
def KD (I:Inv X pins σ H s)(h:Ia scope X.env.scope=true)(hx:(x,.free)∈scope.names):∃c,X.env.cells.lookup x=some c:=I.ok.has x ((Lf h hx).2.1 rfl)
def Qa (I:Inv X pins σ H s)(h:Ia scope X.env.scope=true)(e:(GQ X.env.cells scope.names []).lookup x=some c):X.env.cells.lookup x=some c:=by
 rcases VI (lookup_mem e) with q|⟨q,r⟩
 ·cases q
 ·obtain⟨c',e'⟩:=KD I h q;rw[e'] at r;rw[e',r];rfl
def Dt (I:Inv X pins σ H s)(h:Ia scope X.env.scope=true)(e:(YX C scope.names (GQ X.env.cells scope.names [])).lookup x=some c):(Ip scope.names=some x/\c=C+1)\/X.env.cells.lookup x=some c:=by
 unfold YX at e;cases q:Ip scope.names with
 |none=>rw[q] at e;exact .inr (Qa I h e)
 |some y =>
  rw[q] at e;dsimp only at e;rw[zc4] at e;cases b:x==y with
  |true=>rw[b] at e;cases e;exact .inl ⟨by rw[eq_of_beq b],rfl⟩
  |false=>rw[b] at e;exact .inr (Qa I h e)
def Qb (h:Ia scope env.scope=true)(hk:(relabel scope env).names.lookup x=some k)(hc:k=.cell\/k=.free):(x,.free)∈scope.names\/Ip scope.names=some x:=by
 obtain⟨k',e,q⟩:=Le hk;have m:=lookup_mem e;rcases q with q|⟨q,_⟩
 ·subst q;rcases hc with z|z
  ·subst z;exact .inr (vD (VJ h) m)
  ·subst z;exact .inl m
 ·subst q;exact .inl m
def nM (h:Sl X.N NB scope μ=true):NB.length=μ.length/\∀(j i:Nat),μ[j]?=some (some i)->∃x,NB[j]?=some x/\X.N[i]?=some x/\scope.names.lookup x=some .free:=by
 unfold Sl at h;simp only[zb6,decide_eq_true_eq,List.all_eq_true] at h;refine⟨h.1,λ j i e=>?_⟩;have hj:j<NB.length:=by rw[h.1];exact (zaf.mp e).1
 have m:(NB[j],some i)∈NB.zip μ:=by
  refine List.mem_iff_getElem?.mpr ⟨j,?_⟩;rw[List.getElem?_zip_eq_some];exact⟨za7 hj,e⟩
 have q:=h.2 _ m;dsimp only at q;simp only[zb6,decide_eq_true_eq] at q;exact⟨NB[j],za7 hj,q.1,q.2⟩
def VL (I:Inv X pins σ H s)(av:Ia scope X.env.scope=true)(bd:Sl X.N NB scope μ=true)(je:∀b∈fp,Oz X pins H b)(nq:∀b∈fp,∃o,s.heap.get? b=some o)(hC:s.heap.objs.size<=C)(ns:h4.Ns C λ _=>none)(k:∀b o,s.heap.get? b=some o->h4.get? b=some o)(du:∀x,Ip scope.names=some x->h4.IsCell (C+1) none):
 Inv (blockOf X s H scope C NB fp) [] (FW μ σ) H {s with heap:=h4,toks:=t4}:=by
 obtain⟨hlen,bd⟩:=nM bd;have vh:∀b o,s.heap.get? b=some o->b≠C:=λ b o e=>zar (zan (zaj e) hC);have vj:∀x c,X.env.cells.lookup x=some c->c≠C+1:=λ x c e z=>by
  obtain⟨v,o,ho,_⟩:=I.cell x c e;exact absurd (zan (zaj ho) hC) (by rw[z];exact Nat.not_lt.mpr (Nat.le_succ C))
 have nr:∀x c,X.env.cells.lookup x=some c->c≠C:=λ x c e=>by
  obtain⟨v,o,ho,_⟩:=I.cell x c e;exact vh c o ho
 refine⟨⟨I.ok.mod,(show scope.kind=_ from Nb av),I.ok.glob,I.ok.blt,hC,λ x y c h1 h2=>?_,λ x hx=>?_,λ x c hf e=>?_,I.ok.hd,I.ok.frames,.inl rfl,λ b hb=>?_,I.bs,zbv I.ok.mI I.sz,λ b o e hb=>?_,λ b hb hz=>?_,I.stack,I.YL⟩,
  rfl,I.bare,Un.kept k,⟨_,ns,λ j x v e1 e2 e3=>?_⟩,λ x c e=>?_,I.Aw.fresh hC,λ x c e=>?_,λ p hp=>(by cases hp),I.Aw.kept k,?_⟩
 ·rcases Dt I av h1 with ⟨a1,a2⟩|a<;>rcases Dt I av h2 with ⟨b1,b2⟩|b
  ·rw[a1] at b1;exact zao b1
  ·exact absurd a2 (vj y c b)
  ·exact absurd b2 (vj x c a)
  ·exact I.ok.inj x y c a b
 ·have q:(x,zcw)∈scope.names\/Ip scope.names=some x:=by
   rcases hx with hx|hx
   ·exact Qb av hx (.inl rfl)
   ·exact Qb av hx (.inr rfl)
  rcases q with q|q
  ·obtain⟨c,m⟩:=Q9 (cells:=X.env.cells) (cs:=[]) q;refine DV (c:=c) ?_;show (x,c)∈YX C scope.names _;unfold YX;split
   ·exact za4 _ m
   ·exact m
  ·refine DV (c:=C+1) ?_;show (x,C+1)∈YX C scope.names _;unfold YX;rw[q];exact za3
 ·have hq:Ip scope.names=some x:=by simpa [blockOf] using hf
  have e':(YX C scope.names (GQ X.env.cells scope.names [])).lookup x=some c:=e;unfold YX at e';rw[hq] at e';dsimp only at e';rw[zc4,beq_self_eq_true] at e';cases e';exact Nat.le_succ_of_le hC
 ·obtain⟨o,ho⟩:=nq b hb;refine⟨vh b o ho,λ x c e z=>?_⟩;rcases Dt I av e with ⟨_,a2⟩|e
  ·exact absurd (zan (zaj ho) hC) (by rw[<-z,a2];exact Nat.not_lt.mpr (Nat.le_succ C))
  ·exact (je b hb).2.2.2.2.1 x c e z
 ·rcases (je b hb).2.2.2.1 with z|z
  ·exact I.ok.fD b o e z
  ·exact absurd (zan (zaj (I.ok.bs b o e).1) z) (Nat.lt_irrefl _)
 ·rcases zac.mp (I.Xn b hz) with e|e
  ·exact (je b hb).2.1 e
  ·exact (je b hb).2.2.1 e
 ·have j2:(μ[j]?).map (λ o=>o.bind λ i=>(σ[i]?).join)=some (some v):=by
   rw[<-zax];exact e2
  cases q:μ[j]? with
  |none=>rw[q] at j2;cases j2
  |some o =>
   rw[q] at j2;cases o with
   |none=>cases j2
   |some i =>
    have e4:(σ[i]?).join=some v:=by simpa using j2
    have e5:σ[i]?=some (some v):=by
     cases z:σ[i]? with
     |none=>rw[z] at e4;cases e4
     |some w=>rw[z] at e4;simp at e4;rw[e4]
    obtain⟨x',n1,n2,n3⟩:=bd j i q;have ex:x'=x:=zao (n1.symm.trans e1);subst ex;have m:=lookup_mem n3;have ov:=(Lf av m).2.1 rfl;obtain⟨mm,hn,hl⟩:=I.loc;obtain⟨u,r,l⟩:=hl i x' v n2 e5 (ov.elim (λ z=>.inr (.inl z)) λ z=>.inr (.inr z));refine⟨u,r,.inr ⟨?_,?_⟩⟩
    ·rcases e3 with z|z|z
     ·obtain⟨k',z1,z2⟩:=Le (k:=.local) z;rw[n3] at z1;cases z1;rcases z2 with z2|⟨_,z2⟩<;>cases z2
     ·exact .inl z
     ·exact .inr z
    ·rcases l with ⟨l,_⟩|⟨_,c,l1,l2⟩
     ·rcases ov with z|z<;>(rw[show X.env.kindOf x'=_ from z] at l;cases l)
     ·obtain⟨c',m'⟩:=Q9 (cells:=X.env.cells) (cs:=[]) m;obtain⟨c'',l3⟩:=DV m';have l4:=Qa I av l3;rw[l1] at l4;cases l4;have l5:(YX C scope.names (GQ X.env.cells scope.names [])).lookup x'=some c:=by
       unfold YX;cases q9:Ip scope.names with
       |none=>exact l3
       |some y =>
        have ne:(x'==y)=false:=by
         cases b:x'==y with
         |false=>rfl
         |true =>
          have z:=(Lf av (VH q9)).1 rfl;rw[<-eq_of_beq b] at z;rw[show scope.names.lookup x'=some .cell from z] at n3;cases n3
        dsimp only;rw[zc4,ne];exact l3
      refine⟨c,l5,?_⟩;obtain⟨o,ho,hd⟩:=l2;exact⟨o,k _ _ ho,hd⟩
 ·rcases Dt I av e with ⟨a1,rfl⟩|e
  ·exact⟨_,du x a1⟩
  ·obtain⟨v,o,ho,hd⟩:=I.cell x c e;exact⟨v,o,k _ _ ho,hd⟩
 ·rcases Dt I av e with ⟨a1,rfl⟩|e
  ·exact I.Aw.fresh (Nat.le_succ_of_le hC)
  ·exact I.Ga x c e
 ·show (FW μ σ).length=NB.length;unfold FW;rw[za2,hlen]
def HE.adopt (x:HE P w H h)(hn:H a=none)(new:Bo P w (upd H a o) h a o):HE P w (upd H a o) h:=λ b u e=>by
 by_cases hb:b=a
 ·subst hb;rw[An] at e;cases e;exact new
 ·rw[Ai hb] at e;exact (x b u e).Sb (λ c v _ q=>q) (λ c q=>by rw[Ai (AR q hn)];exact q) λ c xs q=>by rw[Ai (AR q hn)];exact q
def bT (I:Inv X pins σ H s)(je:∀b∈fp,Oz X pins H b)(J:Inv (blockOf X s H scope C NB fp) pl σ' H' s')(hC:s.heap.objs.size<=C)(hD:s.heap.objs.size<=D)(dw:D≠C)(eD:s'.heap.get? D=some {cls:=.type "list",data:=.seq aa.toArray n})(nD:H' D=none)(r:Vals ys aa)(hz:ys.length<=sizeLine)(sb:Heap.SameBut C s'.heap h'):Inv X pins σ (upd H' D (.lst ys)) {s' with heap:=h' }:=by
 have gu:∀b o,s.heap.get? b=some o->b≠C:=λ b o e=>zar (zan (zaj e) hC);have qj:∀b o,s.heap.get? b=some o->b≠D:=λ b o e=>zar (zan (zaj e) hD);have freshD:H D=none:=I.Aw.fresh hD;have nC:H' C=none:=J.free;have u:Un (eV X.stack) fp H H' s.heap s'.heap:=J.base;have gp:HE X.prog X.w H' h':=λ b ob e=>(J.Aw b ob e).Sb (λ c v hc q=>(sb.2 c (by
  intro z;subst z;rcases hc with rfl|hc
  ·rw[nC] at e;cases e
  ·rw[nC] at hc;cases hc)).trans q) (λ _ q=>q) λ _ _ q=>q
 refine I.yO (ch:=fp) J.os ⟨λ b o e n hb hx=>?_,λ b o e n hb hx=>?_,λ b o e n hx=>?_,λ b o e hx=>?_,λ b xs e=>?_,λ b o u' e=>?_,λ b ps e=>?_⟩ (gp.adopt nD ⟨hz,aa,n,r,(sb.2 D dw).trans eD⟩) J.bare λ b hb=>?_
 ·exact (sb.2 b (gu b o e)).trans (u.keep b o e n hb hx)
 ·obtain⟨sl,q⟩:=u.slot b o e n hb hx;exact⟨sl,(sb.2 b (gu b o e)).trans q⟩
 ·rw[Ai (qj b o e)];exact u.free b o e n hx
 ·obtain⟨o',q⟩:=u.there b o e hx;exact⟨o',(sb.2 b (gu b o e)).trans q⟩
 ·rw[Ai (AR e freshD)];exact u.Sd b xs e
 ·rw[Ai (AR e freshD)];exact u.Oy b o u' e
 ·rw[Ai (AR e freshD)];exact u.Se b ps e
 ·obtain⟨_,f1,_,f3,f4,f5⟩:=je b hb;exact⟨f3,f1,f4,f5⟩
end
def hV (h1:(scope.names.filter YW).length<=1)(hQ:∀h',h'.Ns s.heap.objs.size (λ _=>none)->(∀b o,s.heap.get? b=some o->h'.get? b=some o)->(∀x,Ip scope.names=some x->h'.IsCell (s.heap.objs.size+1) none)->
  Q {scope:=scope,locals:=s.heap.objs.size,globals:=g,cells:=YX s.heap.objs.size scope.names cl,qual:=qual,func:=none,code:=outer.code,frame:=outer.frame,builtins:=outer.builtins} {s with heap:=h' }):
 wpAny M A (newFunctionEnv scope g cl [] qual none .none (some outer)) Q E s:=by
 unfold newFunctionEnv;simp only[Option.isSome_some,if_true];refine wpAny_bind (wpAny_alloc (wpAny_bind (wpAny_layCells _ (λ x k cs=>by cases e:k==NameKind.cell<;>simp[e]) _ _ _ _ ?_)));have ok:=cellsFrom_ok scope.names (s.heap.push {cls:=.type "dict",data:=.dict #[]}) 0 [] ⟨λ _ _ z=>(by cases z),.nil⟩ (zbb _);rw[XH h1] at ok ⊢;rw[Heap.size_push] at ok;rw[List.forIn_nil];refine wpAny_bind (wpAny_pure (wpAny_pure ?_));have key:=hQ (pushCells (s.heap.push {cls:=.type "dict",data:=.dict #[]}) scope.names) ((Heap.Ns.new s.heap (.type "dict")).keeps (pushCells_keeps _ _)) (λ b o e=>pushCells_keeps _ _ b o (zaa _ e)) (λ x hx=>(ok.empty x (s.heap.objs.size+1) (by rw[hx];exact za3)).1);unfold YX at key;rw[<-Heap.size_push s.heap {cls:=.type "dict",data:=.dict #[]}] at key;exact key
def Uj (I:Nat->Shared->Prop)(turn:∀n s,I n s->wpAny (model prog w) A (pyNext it) (λ r s₁=>match r with
  |none=>R (.ok .next) s₁
  |some v=>wpAny (model prog w) A (letOwnedTupleGo target it v) (λ _ s₁'=>wpAny (model prog w) A (assign target env v) (λ _ s₂ =>
   wpAny (model prog w) A (forIn ifs true λ c r=>if r=true then do let ok <-isTrue c env (eval c env);pure (zdc ok) else pure (zdc r)) (λ ok s₃ =>
    if ok=true then wpAny (model prog w) A (eval elt env) (λ x s₄ =>
     wpAny (model prog w) A (call (.builtin "list.append") [acc,x]) (λ _ s₅=>∃m,m<n/\I m s₅) (λ _ _=>False) s₄) (λ _ _=>False) s₃
    else ∃m,m<n/\I m s₃) (λ _ _=>False) s₂) (λ _ _=>False) s₁') (λ _ _=>False) s₁) (λ _ _=>False) s)(n:Nat)(h:I n s):
 codeAny (model prog w) A (.compLoop (.ListComp elt [⟨target,iter,ifs,0⟩] scope pos) 0 it acc env) R s:=by
 refine codeAny_loop rfl I (λ n s hI=>?_) n h;show wpAny _ A ((compTurn (.ListComp elt [⟨target,iter,ifs,0⟩] scope pos) 0 it acc env).onRaise (λ x=>do noteFrame x env;theTreesLotGoes x)) _ _ s;refine wpAny_noted ?_;rw[compTurn_list];refine wpAny_bind (wpAny_standAt (wpAny_bind (wpAny_mono (turn n s hI) (λ r s₁ h₁=>?_) λ _ _ h'=>h'.elim)));cases r with
 |none=>exact wpAny_pure h₁
 |some v =>
  refine wpAny_bind (wpAny_mono h₁ (λ _ s₁' h₁'=>?_) λ _ _ h'=>h'.elim);refine wpAny_bind (wpAny_mono h₁' (λ _ s₂ h₂=>wpAny_bind (wpAny_mono h₂ (λ ok s₃ h₃=>?_) λ _ _ h'=>h'.elim)) λ _ _ h'=>h'.elim);cases ok with
  |false=>exact wpAny_pure ⟨rfl,h₃⟩
  |true =>
   exact wpAny_bind (wpAny_bind (wpAny_mono h₃ (λ x s₄ h₄=>wpAny_bind (wpAny_mono h₄ (λ _ s₅ h₅=>wpAny_pure (wpAny_pure ⟨rfl,h₅⟩)) λ _ _ h'=>h'.elim)) λ _ _ h'=>h'.elim))
abbrev yA (X:Cx)(cs:List Expr)(t:TT):Prop:=
 ∀(pins:List (Addr×Obj)) (s:Shared) (σ:St) (H:Hp) (Q:Bool->Hp->Prop),Inv X pins σ H s->t σ H Q->
  wpAny (model X.prog X.w) X.A (forIn cs true λ c r=>if r=true then do let ok <-isTrue c X.env (eval c X.env);pure (zdc ok) else pure (zdc r)) (TP X pins σ Q) X.xe s
abbrev abS:TT:=λ _ H Q=>Q true H
def nN:yA X [] abS:=λ _ _ _ H _ I h=>wpAny_tests_nil ⟨H,I,h⟩
def nO (h:PT X c t):yA X [c] t:=λ pins s σ H Q I q=>wpAny_tests_one (h pins s σ H Q I q)
abbrev Nc (μ:List (Option Nat))(g:TG):Prop:=∀σ x H Q,g x (FW μ σ) H Q->g x (FW μ σ) H λ σ' H'=>Q σ' H'/\∀(j:Nat) v,(FW μ σ)[j]?=some (some v)->σ'[j]?=some (some v)
def nQ (h:μ[i]?=some none):Nc μ (SQ i):=λ σ x H Q q=>by
 refine⟨q,λ j v e=>?_⟩;have ad:j≠i:=λ z=>by
  subst z;unfold FW at e;rw[zax,h] at e;cases e
 rw[zbu (zbm ad)];exact e
abbrev cBy (J:It)(H1:Hp)(Q:VK)(st:V->Hp->(St->Hp->Prop)->Prop)(tc:TT)(te:TE):Prop:=
 ∃W:Nat->Nat->List V->Hp->Prop,(∃m,W 0 m [] H1)/\∀i m ys H2,W i m ys H2->
  (J.stop i H2/\∀D,H2 D=none->Q (.ref D) (upd H2 D (.lst ys))) \/
  (J.go i H2/\ys.length<sizeLine/\∃N:List V->Hp->Prop,(∀aR H',N aR H'->∃m',m'<m/\W (i+1) m' aR H')/\∀x H3,J.mM i H2 x H3->st x H3 λ σ4 H4=>tc σ4 H4 λ b H5=>if b=true then te σ4 H5 λ y H6=>N (ys++[y]) H6 else N ys H5)
abbrev VM (wi:TI)(μ:List (Option Nat))(g:TG)(tc:Shared->Hp->Addr->List Addr->TT)(te:Shared->Hp->Addr->List Addr->TE):TE:=λ σ H Q=>wi σ H λ J H1=>∀s C ex,cBy J H1 Q (λ x H K=>g x (FW μ σ) H K) (tc s H1 C ex) (te s H1 C ex)
section
variable {H2:Hp}{s2:Shared}{elt:Expr}{ifs:List Expr}{g:TG}{tc:Shared->Hp->Addr->List Addr->TT}{te:Shared->Hp->Addr->List Addr->TE}{it:Addr}{tn:Nat->Heap->Prop}{J:It}{Q:VK}
def T5 (hc:X.calm=true)(I2:Inv X pins σ H2 s2)(T:Turn X.prog X.w X.K tg J fp it tn)(dm:tn 0 s2.heap)(f2:∀b∈fp,Oz X pins H2 b)(av:Ia scope X.env.scope=true)(bd:Sl X.N NB scope μ=true)(j3:Nc μ g)(hb:∀(s:Shared) (H:Hp) (C:Addr) (ex:List Addr),PG (blockOf X s H scope C NB ex) tg g/\yA (blockOf X s H scope C NB ex) ifs (tc s H C ex)/\PE (blockOf X s H scope C NB ex) elt (te s H C ex))(q:∀C,cBy J H2 Q (λ x H K=>g x (FW μ σ) H K) (tc s2 H2 C fp) (te s2 H2 C fp)){RR:Value->Addr->Result->Shared->Prop}(fin:∀(D C:Addr) (s':Shared) (H':Hp) (ys:List V) (m:Str->Option Value),s2.heap.objs.size<=D->s2.heap.objs.size<=C->D≠C->s'.heap.Ns C m->H' C=none->(∀h',Heap.SameBut C s'.heap h'->Inv X pins σ (upd H' D (.lst ys)) {s' with heap:=h' })->Q (.ref D) (upd H' D (.lst ys))->RR (.ref D) C (.ok .next) s'):
 wpAny (model X.prog X.w) X.A (newList []) (λ acc s₃=>wpAny (model X.prog X.w) X.A (newFunctionEnv scope X.env.globals (GQ X.env.cells scope.names []) [] X.env.qual none .none (some X.env)) (λ j4 s₄ =>
  codeAny (model X.prog X.w) X.A (.compStart (.ListComp elt [⟨tg,iter,ifs,0⟩] scope pos) 0 (.ref it) acc {j4 with scope:=relabel scope X.env}) (RR acc j4.locals) s₄) E s₃) E s2:=by
 refine wpAny_newObj_type (hV (VJ av) λ h₁ hns₁ hk₁ hcl₁=>?_);dsimp only at hns₁ hk₁ hcl₁ ⊢;generalize qk:s2.heap.push {cls:=.type "list",dict:=none,data:=.seq ([]:List Value).toArray}=nu at hns₁ hk₁ hcl₁ ⊢;have hC:nu.objs.size=s2.heap.objs.size+1:=by rw[<-qk,Heap.size_push]
 have dw:s2.heap.objs.size≠nu.objs.size:=by rw[hC];exact zar (Nat.lt_succ_self _)
 have gw:s2.heap.objs.size<=nu.objs.size:=by rw[hC];exact Nat.le_succ _
 have old:∀b o,s2.heap.get? b=some o->h₁.get? b=some o:=λ b o e=>hk₁ b o (qk▸zaa _ e);have eD:h₁.get? s2.heap.objs.size=some {cls:=.type "list",data:=.seq ([]:List Value).toArray}:=hk₁ _ _ (qk▸zap _ rfl);have nq:∀b∈fp,∃o,s2.heap.get? b=some o:=λ b hb=>let ⟨o,e,_⟩:=T.obj _ _ dm b hb;⟨o,e⟩;have ql:∀b∈fp,b≠s2.heap.objs.size:=λ b hb=>let ⟨o,e⟩:=nq b hb;zar (zaj e);generalize vk:s2.heap.objs.size=D at gw dw eD ql ⊢;generalize hCC:nu.objs.size=C at *;have b8:s2.heap.objs.size<=D:=by rw[vk];exact zag _
 have cn:s2.heap.objs.size<=C:=by rw[vk];exact gw
 have I4:Inv (blockOf X s2 H2 scope C NB fp) [] (FW μ σ) H2 {s2 with heap:=h₁}:=VL (t4:=s2.toks) I2 av bd f2 nq cn hns₁ old hcl₁;have bm:∀ {H':Hp} {pl:List (Addr×Obj)},(∀b∈fp,H' b=none)->(∀p∈pl,p.1=D)->∀b∈fp,Oz (blockOf X s2 H2 scope C NB fp) pl H' b:=fun {H' pl} hn hp b hb=>by
  refine⟨hn b hb,(I4.ok.exf b hb).1,I4.ok.fE b hb,.inl hb,λ x c e z=>(I4.ok.exf b hb).2 x c e z,λ p j5 z=>?_⟩;have qm:p∈pl:=by simpa [blockOf] using j5
  exact ql b hb (z▸hp p qm)
 have xi:D∉(blockOf X s2 H2 scope C NB fp).fs:=λ z=>by
  obtain⟨_,o,ho,_⟩:=I4.ok.N6.mem z;exact absurd (zaj ho) (Nat.not_lt.mpr b8)
 obtain⟨W,⟨m0,w0⟩,turn⟩:=q C;have loop:∀s₃:Shared,s₃={s2 with heap:=h₁} ->
  codeAny (model X.prog X.w) X.A (.compLoop (.ListComp elt [⟨tg,iter,ifs,0⟩] scope pos) 0 (.ref it) (.ref D) (compEnvC scope (YX C scope.names (GQ X.env.cells scope.names [])) C X.env)) (RR (.ref D) C) s₃:=by
  rintro s₃ rfl;refine Uj (λ n s'=>∃i ys aa k H',Inv (blockOf X s2 H2 scope C NB fp) [(D,{cls:=.type "list",data:=.seq aa k})] (FW μ σ) H' s'/\tn i s'.heap/\(∀b∈fp,H' b=none)/\Vals ys aa.toList/\ys.length<=sizeLine/\W i n ys H') ?_ m0
   ⟨0,[],#[],0,H2,I4.L9 λ p hp=>?_,T.keep _ _ _ dm λ b hb o e=>old b o e,λ b hb=>(f2 b hb).1,.nil,zbb _,w0⟩
  rotate_left
  ·have e:=za9.mp hp;subst e;exact⟨eD,I2.Aw.fresh b8,dw,xi,λ v=>by simp⟩
  rintro n s3 ⟨i,ys,aa,k,H3,I3,jq,jr,rv,hz,w3⟩;rcases turn i n ys H3 w3 with ⟨stop,qn⟩|⟨go,af,N,hN,step⟩
  ·refine wpAny_mono (T.done (blockOf X s2 H2 scope C NB fp) rfl rfl rfl hc i _ s3 _ H3 (λ _ _=>False) I3 (bm jr (by simp)) jq stop) (λ r s4 zz=>?_) λ _ _ e=>e;obtain⟨hr,nv⟩:=zz;subst hr;obtain⟨p1,p2,p3,p4,p5⟩:=nv.pin _ (zad _ za3);obtain⟨m,hn,_⟩:=id nv.loc;have e1:s4.heap.get? D=some {cls:=.type "list",data:=.seq aa.toList.toArray k}:=by simpa using p1
   exact fin D C s4 H3 ys m b8 cn dw hn nv.free (λ h' sb=>bT I2 f2 nv cn b8 dw e1 p2 rv hz sb) (qn D p2)
  ·refine wpAny_mono (T.item (blockOf X s2 H2 scope C NB fp) rfl rfl rfl hc i _ s3 _ H3 (λ _ _=>False) I3 (bm jr (by simp)) jq go) (λ r s4 zz=>?_) λ _ _ e=>e;obtain⟨u,hr,h4⟩:=zz;subst hr;refine B9 h4 λ _ s5 zz=>?_;obtain⟨x,H5,I5,r5,y5,gj,pk⟩:=zz;have pq:=I5.pinned (bm pk (by simp)) (T.obj _ _ gj);have bc:=j3 σ x H5 _ (step x H5 y5);obtain⟨hg,ht,he⟩:=hb s2 H2 C fp;refine B9 (hg _ s5 _ H5 x u _ pq r5 bc) λ _ s6 zz=>?_;obtain⟨σ6,H6,I6,q6,k6⟩:=zz;refine B9 (ht _ s6 σ6 H6 _ I6 q6) λ ok s7 zz=>?_;obtain⟨H7,I7,q7⟩:=zz;have again:∀ {H8:Hp} {s8:Shared} {its':Array Value} {k':Nat} {aR:List V},Inv (blockOf X s2 H2 scope C NB fp) ([(D,{cls:=.type "list",data:=.seq its' k' })]++KA fp s5.heap) σ6 H8 s8->Vals aR its'.toList->aR.length<=sizeLine->(∃m,m<n/\W (i+1) m aR H8)->
    ∃m,m<n/\∃i ys aa k H',Inv (blockOf X s2 H2 scope C NB fp) [(D,{cls:=.type "list",data:=.seq aa k})] (FW μ σ) H' s8/\tn i s8.heap/\(∀b∈fp,H' b=none)/\Vals ys aa.toList/\ys.length<=sizeLine/\W i m ys H':=fun {H8 s8 its' k' aR} I8 dz xj n8=>by
    obtain⟨m',hm,w8⟩:=n8;refine⟨m',hm,i+1,aR,its',k',H8,(I8.La.weak ?_ k6),T.keep _ _ _ gj λ b hb o e=>(I8.pin (b,o) (zad _ (zad _ (GL hb e)))).1,λ b hb=>?_,dz,xj,w8⟩
    ·rw[I8.len];exact I4.len
    ·obtain⟨o,e,d⟩:=T.obj _ _ gj b hb;exact (I8.pin (b,o) (zad _ (zad _ (GL hb e)))).2.1
   cases ok with
   |false =>
    simp only[zb1,if_false] at q7 ⊢;exact again I7 rv hz (hN _ _ q7)
   |true =>
    simp only[if_true] at q7 ⊢;refine B9 (he _ s7 σ6 H7 _ I7 q7) λ uy s8 zz=>?_;obtain⟨y,H8,I8,r8,q8⟩:=zz;obtain⟨p1,p2,p3,p4,p5⟩:=I8.pin (D,_) (zad _ (zb4 _ za3));have e1:s8.heap.get? D=some {cls:=.type "list",data:=.seq aa k}:=p1;have hsz:aa.size=ys.length:=by rw[<-zde];exact rv.length.symm
    refine call_meets F.slot_list_append ⟨_,e1,rfl⟩ F.entry_list_append (F.args_list_append_2 _ _) (PySem.list_append D aa k uy (by rw[hsz];omega)) ⟨e1,?_⟩;have qp:=PySem.IsL.update e1 (·.push uy);have Iu:Inv (blockOf X s2 H2 scope C NB fp) (KA fp s5.heap) σ6 H8 s8:=I8.L9 λ p hp=>I8.pin p (zad _ (zad _ hp));have It:=Iu.turned (it:=D) (h':=s8.heap.update D (Obj.mapSeq (·.push uy))) (t':=s8.toks) (λ b o hb e=>(Heap.get?_update_other _ _ (zbm hb)).trans e) p2 p3 (.inr b8) (λ x c e z=>?_) (λ p hp z=>?_)
    ·refine again (its':=aa.push uy) (k':=if (aa.push uy).size==aa.size then k else k+1) (It.L9 λ p hp=>?_) (by simpa using rv.append (.cons r8 .nil)) (by rw[zai,zbk];omega) (hN _ _ q8);rcases zal.mp hp with hp|hp
     ·have e:=za9.mp hp;subst e;exact⟨qp,p2,p3,p4,λ v=>by simp⟩
     ·exact It.pin p (zad _ hp)
    ·rcases Dt I2 av e with ⟨_,a2⟩|e'
     ·exact absurd (a2.symm.trans z) (Nat.ne_of_gt (Nat.lt_succ_of_le gw))
     ·obtain⟨v,o,ho,_⟩:=I2.cell x c e';exact absurd (zaj ho) (by rw[z];exact Nat.not_lt.mpr b8)
    ·have j5:p∈KA fp s5.heap:=by simpa [blockOf] using hp
     exact ql p.1 (SR j5).1 z
 exact codeAny_compStart_list (loop _ rfl) (T.self _ 0 _ _ _ (T.keep _ _ _ dm λ b hb o e=>old b o e) (loop _ rfl))
def YY (hc:X.calm=true)(hi:PI X tg iter wi)(av:Ia scope X.env.scope=true)(bd:Sl X.N NB scope μ=true)(j3:Nc μ g)(hb:∀(s:Shared) (H:Hp) (C:Addr) (ex:List Addr),PG (blockOf X s H scope C NB ex) tg g/\yA (blockOf X s H scope C NB ex) ifs (tc s H C ex)/\PE (blockOf X s H scope C NB ex) elt (te s H C ex))(hs:∀x,foldedSetIterable iter X.env x=pure x:=by intro _;rfl):PE X (.ListComp elt [⟨tg,iter,ifs,0⟩] scope pos) (VM wi μ g tc te):=by
 intro pins s σ H Q I h;have bp:∀y∈scope.names,y.2=.local->scope.names.lookup y.1=some .local:=λ y hy=>(Lf av hy).2.2;have cr:closureFor scope X.env=pure (GQ X.env.cells scope.names []):=K8 λ y hy e=>KD I av (x:=y.1) (by rw[<-e];exact hy);rw[eval_ListComp];refine wpAny_comprehension_free (use:=none) rfl hs cr (Nb av) bp (B9 (hi pins s σ H _ I h) λ v s1 h1=>B9 h1 λ ni s2 h2=>?_);obtain⟨it,fp,tn,J,H2,e,I2,T,dm,f2,q⟩:=h2;subst e;refine T5 (RR:=λ acc C=>compPost (model X.prog X.w) X.A X.xe none (EP X pins σ Q) acc C) hc I2 T dm f2 av bd j3 hb (λ C=>q s2 C fp) ?_;intro D C s' H' ys m hD hC dw hn nC hI hq;exact⟨m,hn,λ h' sb=>⟨.ref D,_,hI h' sb,rfl,hq⟩⟩
abbrev zR (i:Nat)(te:TE):TS:=λ D σ H=>te σ H λ x H1=>D.nx (σ.set i (some x)) H1
def YZ (hN:X.N.Nodup)(j6:X.N[i]?=some y)(hy:Loc X.env.scope y)(hc:X.calm=true)(hi:PI X tg iter wi)(av:Ia scope X.env.scope=true)(bd:Sl X.N NB scope μ=true)(j3:Nc μ g)(hb:∀(s:Shared) (H:Hp) (C:Addr) (ex:List Addr),PG (blockOf X s H scope C NB ex) tg g/\yA (blockOf X s H scope C NB ex) ifs (tc s H C ex)/\PE (blockOf X s H scope C NB ex) elt (te s H C ex))(be: ~~~(swapsWith (.ListComp elt [⟨tg,iter,ifs,0⟩] scope pos) (some (.Name y py)) az.line X.env=pure true))(hs:∀x,foldedSetIterable iter X.env x=pure x:=by intro _;rfl)(hf:X.fn y=true\/X.env.scope.names.lookup y=some .local:=by first|exact .inl rfl|exact .inr rfl|assumption):
 PS X (.Assign [.Name y py] (.ListComp elt [⟨tg,iter,ifs,0⟩] scope pos) az) (zR i (VM wi μ g tc te)):=by
 intro pins s σ H D' I h;have bp:∀y∈scope.names,y.2=.local->scope.names.lookup y.1=some .local:=λ y hy=>(Lf av hy).2.2;have cr:closureFor scope X.env=pure (GQ X.env.cells scope.names []):=K8 λ y hy e=>KD I av (x:=y.1) (by rw[<-e];exact hy);rw[exec_Assign_Name_used _ _ _ _ be];refine wpAny_bind (wpAny_standAt (wpAny_bind ?_));show wpAny _ X.A (do let _ <-comprehension (.ListComp elt [⟨tg,iter,ifs,0⟩] scope pos) scope X.env _ (newList []) false (eval iter X.env) (some (assign (.Name y py) X.env))) _ _ s;refine wpAny_bind (wpAny_mono (wpAny_comprehension_free (use:=some (assign (.Name y py) X.env)) (Q:=λ _ s'=>SP X pins D' .next s') rfl hs cr (Nb av) bp (B9 (hi pins s σ H _ I h) λ v s1 h1=>B9 h1 λ ni s2 h2=>?_)) (λ _ s' hq=>wpAny_pure (wpAny_pure hq)) λ _ _ e=>e);obtain⟨it,fp,tn,J,H2,e,I2,T,dm,f2,q⟩:=h2;subst e;refine T5 (RR:=λ acc C=>compPost (model X.prog X.w) X.A X.xe (some (assign (.Name y py) X.env)) (λ _ s'=>SP X pins D' .next s') acc C) hc I2 T dm f2 av bd j3 hb (λ C=>q s2 C fp) ?_;intro D C s' H' ys m hD hC dw hn nC hI hq;have I':=hI s'.heap (.refl ..);show wpAny _ X.A (assign (.Name y py) X.env (.ref D)) _ _ _;refine wpAny_assign_Name (SO (i:=i) (v:=.ref D) I' hN j6 hy rfl (λ ju xk qr=>?_) hf);obtain⟨a,sb,ha⟩:=qr;have jc:a≠C:=by
  rcases ha with z|z
  ·rw[z];exact zar (zan I2.lt hC)
  ·obtain⟨v,o,ho,_⟩:=I2.cell y a z;exact zar (zan (zaj ho) hC)
 refine⟨m,hn.sameBut sb (zbm jc),λ h' fj=>?_⟩;refine⟨_,_,xk.turned (it:=C) (t':=ju.toks) (λ b o hb e=>(fj.2 b hb).trans e) (by rw[Ai (zbm dw)];exact nC) (Nat.ne_of_gt (zan I2.lt hC)) (.inr (zbv I2.sz hC)) (λ x c e z=>?_) (λ p hp z=>?_),hq⟩
 ·obtain⟨v,o,ho,_⟩:=I2.cell x c e;exact absurd (zaj ho) (by rw[z];exact Nat.not_lt.mpr hC)
 ·exact absurd (zaj (I2.pin p hp).1) (by rw[z];exact Nat.not_lt.mpr hC)
end
abbrev Ite (K:za1)(a:Addr):It:=
 ⟨λ i H=>∃xs x,DU K H a xs/\xs[i]?=some x,λ i H v H'=>∃p x,H p=none/\v=.ref p/\(∀xs,DU K H a xs->xs[i]?=some x)/\H'=upd H p (.tup [.int i,x]),λ i H=>∃xs,DU K H a xs/\xs.length<=i⟩
def XI {e}(I:Inv X pins σ H s)(he:Oz X pins H e)(hi:Oz X pins H it)(k:∀b o,b≠e->b≠it->s.heap.get? b=some o->h'.get? b=some o):Inv X pins σ H {s with heap:=h',toks:=t' }:=by
 obtain⟨e0,e1,e2,e3,e4,e5⟩:=he;obtain⟨f0,f1,f2,f3,f4,f5⟩:=hi;have ne:∀b u,H b=some u->b≠e/\b≠it:=λ b u q=>⟨λ z=>(by rw[z,e0] at q;cases q),λ z=>(by rw[z,f0] at q;cases q)⟩;refine I.step (g':=s.gens) (d':=s.drawn) (ch:=[e,it]) (λ b hb=>?_) (λ b o _ _ hc q _=>k b o (λ z=>hc (by simp[z])) (λ z=>hc (by simp[z])) q) (λ b o _ _ hc q _=>⟨o.slots,k b o (λ z=>hc (by simp[z])) (λ z=>hc (by simp[z])) q⟩) (λ _ _ _ _ n=>n)
  (λ b o hc q=>⟨o,k b o (λ z=>hc (by simp[z])) (λ z=>hc (by simp[z])) q⟩) (λ _ _ q=>q) (λ _ _ _ q=>q) (λ b ps q=>⟨#[],by rw[q];simp⟩) (λ m hm=>?_) (λ b u q=>?_) I.bare
 ·rcases zac.mp hb with z|z
  ·subst z;exact⟨e3,e1,e4,e5⟩
  ·have z:=za9.mp z;subst z;exact⟨f3,f1,f4,f5⟩
 ·obtain⟨o,es,ep,ho,r⟩:=hm;exact⟨o,es,ep,k _ o (zbm e1) (zbm f1) ho,r⟩
 ·refine (I.Aw b u q).Sb (λ c v hc z=>k c v ?_ ?_ z) (λ _ z=>z) λ _ _ z=>z
  ·rcases hc with z|z
   ·rw[z];exact (ne b u q).1
   ·exact (ne c _ z).1
  ·rcases hc with z|z
   ·rw[z];exact (ne b u q).2
   ·exact (ne c _ z).2
def bU {K}{x1}(a e it:Addr)(ad:e≠it):
 Turn P w K (.Tuple cu x1 aT) (Ite K a) [e,it] e (λ i h=>(∃old,IsEnum h e it i old)/\h.IsListIter it a i) where
 mem:=by simp
 obj:=λ i h st b hb=>by
  obtain⟨⟨old,h1⟩,o,h2,c,d⟩:=st;rcases zac.mp hb with z|z
  ·subst z;exact⟨_,h1,λ v z=>by cases z⟩
  ·have z:=za9.mp z;subst z;exact⟨o,h2,λ v z=>by rw[d] at z;cases z⟩
 keep:=λ i h h' st k=>⟨let ⟨old,h1⟩:=st.1;⟨old,k e (by simp) _ h1⟩,st.2.at λ o e=>k it (by simp) o e⟩
 item:=by
  intro X hP hw hK hc i pins s σ H E I hf st hg;subst hP hw hK;obtain⟨xs,x,hq,hx⟩:=hg;obtain⟨⟨old,he⟩,hit⟩:=st;obtain⟨aa,rv,p,hz⟩:=I.list hq;obtain⟨u,hu,ru⟩:=rv.get hx;have fe:=hf e (by simp);have fi:=hf it (by simp);refine wpAny_pyNext_enum_item he hit p.isList (x:=u) (by simpa using hu) ad λ h1 e8 qt ht hsz hk=>?_;refine⟨_,rfl,wpAny_letOwnedTupleGo_enum (s:={s with heap:=h1,toks:=s.toks+1}) e8 λ h2 xl aB=>?_⟩;have bq:Heap.SameBut e h1 h2:=aB;have nt:s.heap.objs.size≠e:=Nat.ne_of_gt (zaj he);have xm:s.heap.objs.size≠it:=by
   obtain⟨o,ho,_⟩:=hit;exact Nat.ne_of_gt (zaj ho)
  have I1:Inv X pins σ H {s with heap:=h2,toks:=s.toks+1}:=XI I fe fi λ b o hb ay q=>(bq.2 b hb).trans (hk b o hb ay q);have tup:h2.get? s.heap.objs.size=some {cls:=.type "tuple",data:=.seq #[.int i s.toks,u]}:=(bq.2 _ nt).trans ht;have nH:H s.heap.objs.size=none:=I.Aw.fresh (zag _);have vv:Vals [.int i,x] [.int i s.toks,u]:=.cons ⟨_,rfl⟩ (.cons ru .nil);have qu:HE X.prog X.w (upd H s.heap.objs.size (.tup [.int i,x])) h2:=I1.Aw.adopt nH ⟨by show 2<=sizeLine;decide,_,vv,⟨_,tup,rfl,_,rfl⟩⟩;have I2:Inv X pins σ (upd H s.heap.objs.size (.tup [.int i,x])) {s with heap:=h2,toks:=s.toks+1}:=by
   refine I.step (g':=s.gens) (d':=s.drawn) (ch:=[e,it]) (λ b hb=>?_) (λ b o _ _ hc q _=>(bq.2 b (λ z=>hc (by simp[z]))).trans (hk b o (λ z=>hc (by simp[z])) (λ z=>hc (by simp[z])) q)) (λ b o _ _ hc q _=>⟨o.slots,(bq.2 b (λ z=>hc (by simp[z]))).trans (hk b o (λ z=>hc (by simp[z])) (λ z=>hc (by simp[z])) q)⟩)
    (λ b o hc q n=>by rw[Ai (zar (zaj q))];exact n) (λ b o hc q=>⟨o,(bq.2 b (λ z=>hc (by simp[z]))).trans (hk b o (λ z=>hc (by simp[z])) (λ z=>hc (by simp[z])) q)⟩)
    (λ b xs q=>by rw[Ai (AR q nH)];exact q) (λ b o u q=>by rw[Ai (AR q nH)];exact q) (λ b ps q=>⟨#[],by rw[Ai (AR q nH),q];simp⟩) (λ m hm=>?_) qu I.bare
   ·rcases zac.mp hb with z|z
    ·subst z;exact⟨fe.2.2.2.1,fe.2.1,fe.2.2.2.2.1,fe.2.2.2.2.2⟩
    ·have z:=za9.mp z;subst z;exact⟨fi.2.2.2.1,fi.2.1,fi.2.2.2.2.1,fi.2.2.2.2.2⟩
   ·obtain⟨o,es,ep,ho,r⟩:=hm;exact⟨o,es,ep,(bq.2 _ (zbm fe.2.1)).trans (hk _ o (zbm fe.2.1) (zbm fi.2.1) ho),r⟩
  refine⟨.ref s.heap.objs.size,_,I2,rfl,⟨_,x,nH,rfl,λ ys hy=>by rw[I.Ii hy hq];exact hx,rfl⟩,⟨⟨u,xl⟩,qt.at λ o q=>(bq.2 it (zbm ad)).trans q⟩,λ b hb=>?_⟩;have ay:b≠s.heap.objs.size:=by
   rcases zac.mp hb with z|z
   ·rw[z];exact zbm nt
   ·rw[za9.mp z];exact zbm xm
  rw[Ai ay];exact (hf b hb).1
 done:=by
  intro X hP hw hK hc i pins s σ H E I hf st hg;subst hP hw hK;obtain⟨xs,hq,hx⟩:=hg;obtain⟨⟨old,he⟩,hit⟩:=st;obtain⟨aa,rv,p,hz⟩:=I.list hq;have hl:=rv.length;obtain⟨f0,f1,f2,f3,f4,f5⟩:=hf it (by simp);exact wpAny_pyNext_enum_end (I.ok.hd hc) he hit p.isList (by simp;omega) λ h' eb=>⟨rfl,I.turned (t':=s.toks) (λ b o hb e=>eb b o hb e) f0 f1 f3 f4 f5⟩
 self:=λ _ _ _ _ _ st h=>let ⟨_,he⟩:=st.1;wpAny_pyIter_enum he h
abbrev zS (K:za1)(ta:TA):TI:=λ σ H R=>ta σ H λ vs H1=>∃a,vs=[.ref a]/\(∃xs,DU K H1 a xs)/\R (Ite K a) H1
def nR {x1}(hg:Gl X "enumerate")(hm:X.mg "enumerate" = none)(ha:PA X [a] ta)(hb:bootBuiltins "enumerate" = some (.type "enumerate"):=by decide +kernel)(hs: ~~~(starEach [a] X.env=[(false,eval a X.env)])):
 PI X (.Tuple cu x1 aT) (.Call (.Name "enumerate" p) [a] [] pos) (zS X.K ta):=by
 intro pins s σ H R I h;refine Call_ (Ei I hg hm hb (zbl (B9 (ha pos pins s σ H _ I h) λ us s1 zz=>?_) hs rfl));obtain⟨vs,H1,I1,r1,q1⟩:=zz;obtain⟨j,e,⟨xs,hq⟩,q⟩:=q1;subst e;cases r1 with
 |cons r rr =>
  cases rr;cases r;obtain⟨aa,rv,p,hz⟩:=I1.list hq;refine call_enumerate_list p.isList λ h' he hit hsz hk=>?_;refine wpAny_pyIter_enum (s:={s1 with heap:=h' }) he ?_;have I2:Inv X pins σ H1 {s1 with heap:=h' }:=I1.kept (t':=s1.toks) hk;refine⟨_,[s1.heap.objs.size+1,s1.heap.objs.size],_,_,H1,rfl,I2,bU j _ _ (Nat.succ_ne_self _),⟨⟨_,he⟩,hit⟩,λ b hb=>?_,q⟩;rcases zac.mp hb with z|z
  ·rw[z];exact I1.Xp (Nat.le_succ _) (I1.Aw.fresh (Nat.le_succ _))
  ·rw[za9.mp z];exact I1.Xp (zag _) (I1.Aw.fresh (zag _))
abbrev BY {α:Type}(o:Option (α×List Int))(b:α×List Int):Option (α×List Int):=match o with | none=>some b | some c=>if HT.lexLt b.2 c.2=true then some b else some c
abbrev Bj {α:Type}(bs:List (α×List Int)):Option (α×List Int):=bs.foldl BY none
abbrev Lg (bs:List (Addr×List Int)):Array Value:=match Bj bs with | none=>#[] | some b=>#[.ref b.1,.ref b.1]
def KG {α:Type}(bs:List (α×List Int))(b:α×List Int):Bj (bs++[b])=match Bj bs with | none=>some b | some c=>if HT.lexLt b.2 c.2=true then some b else some c:=by
 unfold Bj;rw[List.foldl_append];rfl
def T6 {α:Type}:∀(bs:List (α×List Int)) (b:α×List Int),Bj bs=some b->b∈bs:=by
 intro bs
 suffices h:∀(bs:List (α×List Int)) (o:Option (α×List Int)) (b:α×List Int),bs.foldl BY o=some b->b∈bs\/o=some b by
  intro b hb;rcases h bs none b hb with q|q
  ·exact q
  ·cases q
 intro bs;induction bs with
 |nil=>intro o b h;exact .inr h
 |cons x r ih =>
  intro o b h;rw[zam] at h;rcases ih _ _ h with q|q
  ·exact .inl (za4 _ q)
  ·cases o with
   |none=>cases q;exact .inl za3
   |some c =>
    unfold BY at q;dsimp only at q;split at q
    ·cases q;exact .inl za3
    ·exact .inr q
def KH {α:Type}(o:Option (α×List Int))(b:α×List Int):BY o b≠none:=by
 unfold BY;split
 ·intro z;cases z
 ·split<;>(intro z;cases z)
def Qc {α:Type}:∀ {bs:List (α×List Int)},bs≠[]->Bj bs≠none:=by
 intro bs h;unfold Bj
 suffices z:∀(bs:List (α×List Int)) (o:Option (α×List Int)),o≠none->bs.foldl BY o≠none by
  cases bs with
  |nil=>exact (h rfl).elim
  |cons b r=>rw[zam];exact z r _ (KH _ _)
 intro bs;induction bs with
 |nil=>intro o h;exact h
 |cons b r ih=>intro o h;rw[zam];exact ih _ (KH _ _)
abbrev zT (o:Option Value):List (Str×Value):=o.toList.map λ d=>(Str.ofString "default",d)
def hX (a:Value)(o:Option Value):argsOk "min" ⟨[a],zT o⟩:=by cases o<;>(unfold argsOk;kernel_rfl)
section
variable {prog:Program}{R:Result->Shared->Prop}
def hZ (bs:List (Addr×List Int))(tv:Addr->Array Value)(l I S:Addr)(o:Option Value)(qv:o=none->bs≠[])(hh:A.handled=none)(hu:A.in1.units<cLine)(ny:S≠I)(gx:l≠I)(vm:l≠S)(qw:∀b∈bs,b.1≠I/\b.1≠S)
 (hk:∀b∈bs,IntsAre (tv b.1).toList b.2):∀(k j:Nat) (s:Shared) (c:Nat),bs.length-j=k->j<=bs.length->s.heap.IsListIter I l j->s.heap.IsList l (bs.map λ b=>zb8 b.1).toArray->(∀b∈bs,IsTup s.heap b.1 (tv b.1))->
  s.heap.get? S=some {cls:=.type "list",dict:=none,data:=.seq (Lg (bs.take j)) c,slots:=#[]} ->
  (∀h' tk,(∀b o,b≠I->b≠S->s.heap.get? b=some o->h'.get? b=some o)->R (.ok (.ret (match Bj bs with|none=>o.getD .none|some b=>.ref b.1))) {s with heap:=h',toks:=tk})->
  codeAny (model prog w) A (.builtin "min.loop" ⟨[.ref I,.none,.ref S],zT o⟩) R s:=by
 have bf:(toString "min" ++ toString ".loop" : String) = "min.loop" := by decide
 intro k;induction k with
 |zero =>
  intro j s c hr hj hit hl ht hS hR;have br:j=bs.length:=by omega
  subst br;rw[zc1] at hS;refine codeAny_builtin PySem.F.entry_min_loop ?_;rw[zco zch _];show wpAny _ A.in1 (seqItems? (.ref S) >>= _) _ _ s;refine wpAny_bind (wpAny_seqItems hS rfl ?_);show wpAny _ A.in1 (tryCatch (pyNext (.ref I)) _ >>= _) _ _ s;refine wpAny_bind (wpAny_tryCatch (wpAny_pyNext_list_end (A:=A.in1) hh hit hl (by simp) λ h' eb=>?_));have bg:h'.get? S=_:=eb S _ ny hS;unfold Lg at bg;cases hb:Bj bs with
  |none =>
   unfold Lg;rw[hb];cases o with
   |none=>exact (Qc (qv rfl) hb).elim
   |some d =>
   show wpAny _ A.in1 (rule _ >>= _) _ _ _;refine wpAny_bind (wpAny_rule (wpAny_pure ?_));have q:=hR h' s.toks λ b o h1 h2 e=>eb b o h1 e;rw[hb] at q;exact q
  |some b =>
   rw[hb] at bg;unfold Lg;rw[hb];show wpAny _ A.in1 (updateSeq S (λ _=>#[]) >>= _) _ _ _;refine wpAny_bind ?_;refine wpAny_updateSeq bg rfl (wpAny_bind (wpAny_letGo (wpAny_pure ?_)));have q:=hR (h'.update S (Obj.mapSeq λ _=>#[])) s.toks λ b o h1 h2 e=>(Heap.get?_update_other _ _ (zbm h2)).trans (eb b o h1 e);rw[hb] at q;exact q
 |succ k ih =>
  intro j s c hr hj hit hl ht hS hR;have af:j<bs.length:=by omega
  have ej:bs.take (j+1)=bs.take j++[bs[j]]:=by rw[zc7,za7 af];rfl
  have mj:bs[j]∈bs:=List.getElem_mem af;refine codeAny_builtin PySem.F.entry_min_loop ?_;rw[zco zch _];show wpAny _ A.in1 (seqItems? (.ref S) >>= _) _ _ s;refine wpAny_bind (wpAny_seqItems hS rfl ?_);show wpAny _ A.in1 (tryCatch (pyNext (.ref I)) _ >>= _) _ _ s;refine wpAny_bind (wpAny_tryCatch (wpAny_pyNext_list_item (A:=A.in1) hit hl (x:=.ref bs[j].1) (by simp[af]) λ h' bt sb=>?_));have fj:Heap.SameBut I s.heap h':=sb;have bg:h'.get? S=_:=(fj.2 S ny).trans hS;have jp:h'.IsList l (bs.map λ b=>zb8 b.1).toArray:=hl.at λ o e=>(fj.2 l gx).trans e;have j7:∀b∈bs,IsTup h' b.1 (tv b.1):=λ b hb=>by
   obtain⟨o,ho,r⟩:=ht b hb;exact⟨o,(fj.2 b.1 (qw b hb).1).trans ho,r⟩
  cases hb:Bj (bs.take j) with
  |none =>
   unfold Lg at bg ⊢;rw[hb] at bg ⊢;show wpAny _ A.in1 (updateSeq S (λ _=>#[.ref bs[j].1,.ref bs[j].1]) >>= _) _ _ _;refine wpAny_bind ?_;refine wpAny_updateSeq bg rfl ?_;rw[bf];have s1:=Heap.SameBut.update h' S (Obj.mapSeq λ _=>(#[.ref bs[j].1,.ref bs[j].1]:Array Value));refine wpAny_pure ⟨plainId_quiet zch _,ih (j+1) _ (c+1) (by omega) af (bt.at λ o e=>(s1.2 I (zbm ny)).trans e) (jp.at λ o e=>(s1.2 l vm).trans e) (λ b hb=>?_) ?_ λ j8 tk cv=>?_⟩
   ·obtain⟨o,ho,r⟩:=j7 b hb;exact⟨o,(s1.2 b.1 (qw b hb).2).trans ho,r⟩
   ·refine (Heap.get?_update_self _ bg rfl).trans ?_;unfold Lg;rw[ej,KG,hb];rfl
   ·exact hR j8 tk λ b o h1 h2 e=>cv b o h1 h2 ((s1.2 b h2).trans ((fj.2 b h1).trans e))
  |some m =>
   have mm:m∈bs:=zc0 (T6 _ _ hb);unfold Lg at bg ⊢;rw[hb] at bg ⊢;show wpAny _ A.in1 (tryCatch (holding [.ref bs[j].1,.ref bs[j].1] (richCompare .Lt (.ref bs[j].1) (.ref m.1) >>= _)) _ >>= _) _ _ _;refine wpAny_bind (wpAny_tryCatch (wpAny_holding (wpAny_bind (HT.Q2 (j7 _ mj) (j7 _ mm) (hk _ mj) (hk _ mm) hu ?_))));refine wpAny_bind (wpAny_holding (wpAny_truthy_bool ?_));refine wpAny_bind (wpAny_letGo (wpAny_pure ?_));cases hc:HT.lexLt bs[j].2 m.2 with
   |true =>
    simp only[if_true];have s1:=Heap.SameBut.update h' S (Obj.mapSeq λ _=>(#[.ref bs[j].1,.ref bs[j].1]:Array Value));refine wpAny_bind ?_;refine wpAny_updateSeq bg rfl (wpAny_bind (wpAny_letGo ?_));rw[bf];refine wpAny_pure ⟨plainId_quiet zch _,ih (j+1) _ c (by omega) af (bt.at λ o e=>(s1.2 I (zbm ny)).trans e) (jp.at λ o e=>(s1.2 l vm).trans e) (λ b hb=>?_) ?_ λ j8 tk cv=>?_⟩
    ·obtain⟨o,ho,r⟩:=j7 b hb;exact⟨o,(s1.2 b.1 (qw b hb).2).trans ho,r⟩
    ·refine (Heap.get?_update_self _ bg rfl).trans ?_;unfold Lg;rw[ej,KG,hb];simp only[hc,if_true];rfl
    ·exact hR j8 tk λ b o h1 h2 e=>cv b o h1 h2 ((s1.2 b h2).trans ((fj.2 b h1).trans e))
   |false =>
    simp only[zb1,if_false];refine wpAny_bind (wpAny_letGo ?_);rw[bf];refine wpAny_pure ⟨plainId_quiet zch _,ih (j+1) _ c (by omega) af bt jp j7 ?_ λ j8 tk cv=>?_⟩
    ·refine bg.trans ?_;unfold Lg;rw[ej,KG,hb];simp only[hc,zb1,if_false]
    ·exact hR j8 tk λ b o h1 h2 e=>cv b o h1 h2 ((fj.2 b h1).trans e)
def Qd (bs:List (Addr×List Int))(tv:Addr->Array Value)(l:Addr)(o:Option Value)(qv:o=none->bs≠[])(hh:A.handled=none)(hu:A.in1.units<cLine)(hl:s.heap.IsList l (bs.map λ b=>zb8 b.1).toArray)(ht:∀b∈bs,IsTup s.heap b.1 (tv b.1))(hk:∀b∈bs,IntsAre (tv b.1).toList b.2)(hQ:∀h' tk,(∀b o,s.heap.get? b=some o->h'.get? b=some o)->Q (match Bj bs with|none=>o.getD .none|some b=>.ref b.1) {s with heap:=h',toks:=tk}):
 wpAny (model prog w) A (call (.builtin "min") [.ref l] (zT o)) Q E s:=by
 have bf:(toString "min" ++ toString ".loop" : String) = "min.loop" := by decide
 obtain⟨ol,qx,_⟩:=id hl;have hll:l<s.heap.objs.size:=zaj qx;refine kmk_tree PySem.F.kind_min PySem.F.plain_min PySem.F.entry_min (hX _ _) ?_;show wpAny _ A.in1 (Builtin.Builtins.bindParams "min" ["key","default"] 0 ⟨[],zT o⟩ >>= _) _ _ s;refine wpAny_bind (wpAny_of_eq (show Builtin.Builtins.bindParams "min" ["key","default"] 0 ⟨[],zT o⟩=pure [none,o] by cases o<;>rfl) ?_);refine wpAny_bind (wpAny_pure ?_);refine wpAny_bind (wpAny_pyIter_list hl ?_);refine wpAny_bind (wpAny_newList ?_ (zbb _));rw[bf];have hS:(s.heap.push {cls:=.type "list_iterator",data:=.fields #[.ref l,.int 0 0]}).objs.size=s.heap.objs.size+1:=Heap.size_push ..;have old:∀b o,s.heap.get? b=some o->b≠s.heap.objs.size/\b≠(s.heap.push {cls:=.type "list_iterator",data:=.fields #[.ref l,.int 0 0]}).objs.size:=λ b o e=>⟨zar (zaj e),by rw[hS];exact zar (Nat.lt_succ_of_lt (zaj e))⟩;have grow:∀b o,s.heap.get? b=some o->((s.heap.push {cls:=.type "list_iterator",data:=.fields #[.ref l,.int 0 0]}).push {cls:=.type "list",data:=.seq #[]}).get? b=some o:=λ b o e=>zaa _ (zaa _ e);refine wpAny_pure ⟨plainId_quiet zch _,?_⟩;refine hZ bs tv l s.heap.objs.size (s.heap.push {cls:=.type "list_iterator",data:=.fields #[.ref l,.int 0 0]}).objs.size o qv hh hu (by rw[hS];exact Nat.succ_ne_self _) (old l ol qx).1 (old l ol qx).2 (λ b hb=>?_) hk _ 0 _ 0 rfl (zbb _) ?_ ?_ (λ b hb=>?_) ?_ ?_
 ·obtain⟨o,ho,_⟩:=ht b hb;exact old b.1 o ho
 ·exact⟨_,zaa _ (zap _ rfl),rfl,rfl⟩
 ·exact hl.at λ o e=>grow l o e
 ·obtain⟨o,ho,r⟩:=ht b hb;exact⟨o,grow b.1 o ho,r⟩
 ·exact zap _ rfl
 ·intro h' tk j9;exact hQ h' tk λ b o e=>j9 b o (old b o e).1 (old b o e).2 (grow b o e)
end
section
variable {e2:Expr}{te:TE}{p kp:Pos}
abbrev zU (K:za1)(te td:TE):TE:=λ σ H Q=>te σ H λ x H1=>td σ H1 λ d H2=>∃(a:Addr) (bs:List (Addr×List Int)),x=.ref a/\DU K H2 a (bs.map λ b=>V.ref b.1)/\(∀b∈bs,FE K H2 b.1 (b.2.map V.int))/\Q (match Bj bs with | none=>d | some b=>.ref b.1) H2
def Nd:∀ {bs:List (Addr×List Int)}{us:List Value},Vals (bs.map λ b=>V.ref b.1) us->us=bs.map λ b=>zb8 b.1
 |[],_,.nil=>rfl
 |b::r,_,.cons h t=>by cases h;rw[Nd t];rfl
def nS (hc:X.calm=true)(hu:X.A.units+1<cLine)(hg:Gl X "min")(hm:X.mg "min" = none)(he:PE X e te)(hd:PE X e2 td)(ax: ~~~(starEach [e] X.env=[(false,eval e X.env)]))(a7: ~~~((backToKw pos (keywordEach [⟨some "default",e2,kp⟩] X.env)).all (·.1.isSome)=true))(gy: ~~~((backToKw pos (keywordEach [⟨some "default",e2,kp⟩] X.env)).filterMap (·.1)=([("default" : Str)]:List Str)))(qy: ~~~((backToKw pos (keywordEach [⟨some "default",e2,kp⟩] X.env)).any (·.1.isNone)=false))(cz: ~~~(backTo pos (starEach [e] X.env)=(false,eval e X.env)::backTo pos (starEach [] X.env)))(hpl: ~~~((backTo pos (starEach [e] X.env)).any (·.1)=false)):
 PE X (.Call (.Name "min" p) [e] [⟨some "default",e2,kp⟩] pos) (zU X.K te td):=by
 intro pins s σ H Q I h;refine wpAny_Call_Name_kw (Ei I hg hm boot_min ?_ (by decide) (by decide));refine callWith_kw (B9 ((Ba he Ci (hs:=ax)) pos pins s σ H (λ vs H1=>match vs with|[x]=>td σ H1 λ d H2=>∃(a:Addr) (bs:List (Addr×List Int)),x=.ref a/\DU X.K H2 a (bs.map λ b=>V.ref b.1)/\(∀b∈bs,FE X.K H2 b.1 (b.2.map V.int))/\Q (match Bj bs with|none=>d|some b=>.ref b.1) H2|_=>False) I h) λ us s1 zz=>?_) cz hpl a7 qy;obtain⟨vs,H1,I1,r1,q1⟩:=zz;obtain⟨x,rfl⟩:∃x,vs=[x]:=by
  match vs,q1 with
  |[x],_=>exact⟨x,rfl⟩
 refine B9 ((mV hd uN) pos pins s1 σ H1 (λ zs H2=>match zs with|[d]=>∃(a:Addr) (bs:List (Addr×List Int)),x=.ref a/\DU X.K H2 a (bs.map λ b=>V.ref b.1)/\(∀b∈bs,FE X.K H2 b.1 (b.2.map V.int))/\Q (match Bj bs with|none=>d|some b=>.ref b.1) H2|_=>False) I1 q1) λ ws s2 zz=>?_;obtain⟨zs,H2,I2,r2,q2⟩:=zz;obtain⟨d,rfl⟩:∃d,zs=[d]:=by
  match zs,q2 with
  |[d],_=>exact⟨d,rfl⟩
 obtain⟨a,bs,rfl,hl,hb,q⟩:=q2;obtain⟨ua,rfl,ra⟩:=r1.one;obtain⟨ud,rfl,rd⟩:=r2.one;cases ra;rw[gy];obtain⟨aa,rv,pl,hz⟩:=I2.list hl;have ei:=Nd rv;subst ei;have tv:∀a:Addr,∃t:Array Value,∀b∈bs,b.1=a->IsTup s2.heap a t/\IntsAre t.toList b.2:=λ a=>by
  by_cases c4:∃b∈bs,b.1=a
  ·obtain⟨b,c4,rfl⟩:=c4;obtain⟨ts,rt,pt,_⟩:=I2.tuple (hb b c4);refine⟨ts.toArray,λ b' ay e=>⟨pt,?_⟩⟩;have q2:=hb b' ay;rw[e] at q2;have e2:=I2.Gb q2 (hb b c4);rw[<-e2] at rt;simpa using intsAre_of rt
  ·exact⟨#[],λ b ay e=>absurd ⟨b,ay,e⟩ c4⟩
 refine Qd bs (λ b=>za5 (tv b)) a (some ud) (λ h=>by cases h) (I2.ok.hd hc) hu pl.isList (λ b ay=>(za0 (tv b.1) b ay rfl).1) (λ b ay=>(za0 (tv b.1) b ay rfl).2) λ h' tk hk=>?_;refine⟨match Bj bs with|none=>d|some b=>.ref b.1,H2,I2.kept (t':=tk) hk,?_,q⟩;cases Bj bs with
 |none=>exact rd
 |some b=>rfl
end
inductive D where
 |Av|bl (b:Bool)|int (i:Int)|str (x:Str)|tup (ds:List D)|lst (ds:List D)|N5 (x:Str)|BE (t:Bool) (ks vs:List D)|ins (x:Str) (ns:List Str) (ds:List D)
abbrev Cz:Key->D
 | .inl i=>.int i
 | .inr x=>.str x
def Rd.same (r:Rd H a u)(e:Aj H H'):Rd H' a u:=r.elim (λ h=>.inl (e _ _ h)) λ⟨o,h⟩=>.inr ⟨o,e _ _ h⟩
mutual
inductive BQ (K:za1) (H:Hp):V->D->Prop
 |Av:BQ K H .Av .Av
 |bl (b):BQ K H (.bl b) (.bl b)
 |int (i):BQ K H (.int i) (.int i)
 |str (x):BQ K H (.str x) (.str x)
 |tup {a xs ds}:H a=some (.tup xs)->Ak K H xs ds->BQ K H (.ref a) (.tup ds)
 |lst {a xs ds}:DU K H a xs->Ak K H xs ds->BQ K H (.ref a) (.lst ds)
 |Vf {a kvs ds}:Rd H a (.dK kvs)->Ak K H (kvs.map zbs) ds->BQ K H (.ref a) (.BE false (kvs.map λ kv=>Cz kv.1) ds)
 |VN {a kvs ds}:Rd H a (.dT kvs)->Ak K H (kvs.map zbs) ds->BQ K H (.ref a) (.BE true (kvs.map λ kv=>.tup (kv.1.map Cz)) ds)
 |ins {a C dx fs x ds}:zau K mainGlobals x=some (some (.ref C))->H a=some (.ins C dx fs)->Ak K H (fs.map zbs) ds->BQ K H (.ref a) (.ins x (fs.map zb0) ds)
 |N5 {a x}:zau K mainGlobals x=some (some (.ref a))->True->BQ K H (.ref a) (.N5 x)
inductive Ak (K:za1) (H:Hp):List V->List D->Prop
 |nil:Ak K H [] []
 |cons {x d xs ds}:BQ K H x d->Ak K H xs ds->Ak K H (x::xs) (d::ds)
end
def Ak.length {K}:∀ {xs:List V}{ds:List D},Ak K H xs ds->xs.length=ds.length
 |_,_,.nil=>rfl
 |_,_,.cons _ t=>by rw[za8,za8,Ak.length t]
def Ak.get {K:za1}{H:Hp}:∀ {xs:List V}{ds:List D}{i:Nat}{d:D},Ak K H xs ds->ds[i]?=some d->∃x,xs[i]?=some x/\BQ K H x d
 |_,_,_,_,.nil,e=>by simp at e
 |_,_,0,_,.cons r _,e=>by simp at e;subst e;exact⟨_,rfl,r⟩
 |_,_,i+1,d,.cons _ t,e=>by
  obtain⟨u,h1,h2⟩:=Ak.get (i:=i) (d:=d) t (by simpa using e);exact⟨u,by simpa using h1,h2⟩
def Ak.vE {K:za1}{H:Hp}:∀ {xs:List V}{ds:List D}{i:Nat}{x:V},Ak K H xs ds->xs[i]?=some x->∃d,ds[i]?=some d/\BQ K H x d
 |_,_,_,_,.nil,e=>by simp at e
 |_,_,0,_,.cons r _,e=>by simp at e;subst e;exact⟨_,rfl,r⟩
 |_,_,i+1,d,.cons _ t,e=>by
  obtain⟨u,h1,h2⟩:=Ak.vE (i:=i) (x:=d) t (by simpa using e);exact⟨u,by simpa using h1,h2⟩
def Ak.append {K:za1}{H:Hp}:∀ {xs ys:List V}{ds es:List D},Ak K H xs ds->Ak K H ys es->Ak K H (xs++ys) (ds++es):=by
 intro _ _ _ _ x_ h;cases x_ with
 |nil=>exact h
 |cons r t=>exact .cons r (Ak.append t h)
def Ak.snoc {K}(h:Ak K H xs ds)(r:BQ K H x d):Ak K H (xs++[x]) (ds++[d]):=h.append (.cons r .nil)
def Ak.take {K}:∀ {xs:List V}{ds:List D}(n:Nat),Ak K H xs ds->Ak K H (xs.take n) (ds.take n)
 |_,_,0,_|_,_,_+1,.nil=>.nil
 |_,_,n+1,.cons r t=>.cons r (Ak.take n t)
def Ak.drop {K}:∀ {xs:List V}{ds:List D}(n:Nat),Ak K H xs ds->Ak K H (xs.drop n) (ds.drop n)
 |_,_,0,r=>r
 |_,_,_+1,.nil=>.nil
 |_,_,n+1,.cons _ t=>Ak.drop n t
def Ak.ints {K}:∀(ns:List Int),Ak K H (ns.map V.int) (ns.map D.int)
 |[]=>.nil
 |n::r=>.cons (.int n) (Ak.ints r)
def Aj.abT {K}(e:Aj H H')(h:FE K H a xs):FE K H' a xs:=by
 rcases h with (h|⟨o,h⟩)|h
 ·exact .inl (.inl (e _ _ h))
 ·exact .inl (.inr ⟨o,e _ _ h⟩)
 ·exact .inr h
mutual
theorem BQ.mono {K:za1}{H H':Hp}(e:Aj H H'):∀ {v:V}{d:D},BQ K H v d->BQ K H' v d:=by
 intro _ _ x_;cases x_ with
 |Av=>exact .Av
 |bl b=>exact .bl b
 |int i=>exact .int i
 |str x=>exact .str x
 |tup h r=>exact .tup (e _ _ h) (Ak.mono e r)
 |lst h r=>exact .lst (e.seq h) (Ak.mono e r)
 |Vf h r=>exact .Vf (h.same e) (Ak.mono e r)
 |VN h r=>exact .VN (h.same e) (Ak.mono e r)
 |ins n h r=>exact .ins n (e _ _ h) (Ak.mono e r)
 |N5 h r=>exact .N5 h r
theorem Ak.mono {K:za1}{H H':Hp}(e:Aj H H'):∀ {vs:List V}{ds:List D},Ak K H vs ds->Ak K H' vs ds:=by
 intro _ _ x_;cases x_ with
 |nil=>exact .nil
 |cons h t=>exact .cons (BQ.mono e h) (Ak.mono e t)
end
def AL (h:H p=none)(o:HO):Aj H (upd H p o):=λ b u q=>by rw[Ai (AR q h)];exact q
mutual
noncomputable def Bw:D->D->Bool
 | .Av,.Av=>true
 | .bl a,.bl b| .int a,.int b| .str a,.str b=>a==b
 | .bl a,.int b=>(if a then 1 else 0)==b
 | .int a,.bl b=>a==(if b then 1 else 0)
 | .tup a,.tup b| .lst a,.lst b=>Cq a b
 | .N5 a,.N5 b=>a==b
 | .BE s a b,.BE t c d=>(s==t)&&(Cq a c&&Cq b d)
 | .ins x n a,.ins y m b=>(x==y)&&((n==m)&&Cq a b)
 |_,_=>false
noncomputable def Cq:List D->List D->Bool
 |[],[]=>true
 |a::r,b::t=>Bw a b&&Cq r t
 |_,_=>false
end
mutual
theorem Qe:∀d:D,Bw d d=true
 | .Av=>by simp[Bw]
 | .bl b| .int b| .str b=>by simp[Bw]
 | .tup b| .lst b=>by simp only[Bw];exact D2 b
 | .N5 b=>by simp[Bw]
 | .BE s a b=>by simp only[Bw];rw[D2 a,D2 b];simp
 | .ins x n a=>by simp only[Bw];rw[D2 a];simp
theorem D2:∀d:List D,Cq d d=true
 |[]=>by simp[Cq]
 |a::r=>by simp only[Cq,Qe a,D2 r,Bool.and_true]
end
mutual
noncomputable def CB:D->Bool
 | .tup a| .lst a=>Nf a
 | .N5 _| .BE _ _ _| .ins _ _ _=>false
 |_=>true
noncomputable def Nf:List D->Bool
 |[]=>true
 |a::r=>CB a&&Nf r
end
def Uk:∀ {ds:List D}{d:D},d∈ds->Nf ds=true->CB d=true
 |a::r,d,h,q=>by
  rw[Nf,zb6] at q;rcases zac.mp h with z|z
  ·subst z;exact q.1
  ·exact Uk z q.2
mutual
noncomputable def Ul:D->Nat
 | .tup a| .lst a=>Um a+1
 |_=>0
noncomputable def Um:List D->Nat
 |[]=>0
 |a::r=>max (Ul a) (Um r)
end
def Z0:∀ {ds:List D}{d:D},d∈ds->Ul d<=Um ds
 |a::r,d,h=>by
  rw[Um];rcases zac.mp h with z|z
  ·subst z;exact Nat.le_max_left _ _
  ·exact zbv (Z0 z) (Nat.le_max_right _ _)
def VO:∀ {a b:List D},Cq a b=true->a.length=b.length
 |[],[],_=>rfl
 |[],_::_,h|_::_,[],h=>by simp[Cq] at h
 |a::r,b::t,h=>by
  simp only[Cq,zb6] at h;rw[za8,za8,VO h.2]
def KI:∀(a b:List D),a.length=b.length->(zb9 a.length).all (λ j=>Bw (a.getD j .Av) (b.getD j .Av))=Cq a b
 |[],[],_=>by simp[Cq]
 |a::r,b::t,h=>by
  have ih:=KI r t (by simpa using h);rw[za8,List.range_succ_eq_map,List.all_cons,List.all_map,Cq,<-ih];simp[Function.comp_def]
 |[],_::_,h|_::_,[],h=>by cases h
def Z1 (h:a.length≠b.length):Cq a b=false:=by
 cases e:Cq a b with
 |false=>rfl
 |true=>exact absurd (VO e) h
def iA (a b:List D):((zb9 (min a.length b.length)).all (λ j=>Bw (a.getD j .Av) (b.getD j .Av))&&(a.length==b.length))=Cq a b:=by
 by_cases h:a.length=b.length
 ·rw[<-KI a b h,h];simp
 ·rw[Z1 h,beq_false_of_ne h,Bool.and_false]
def Z2 (I:Inv X pins σ H s)(h:DU X.K H a xs)(h':FE X.K H a ys):False:=by
 obtain⟨aa,_,⟨o,n,e,c,_,_⟩,_⟩:=I.list h;obtain⟨its',_,⟨o',e',c',_⟩,_⟩:=I.tuple h';rw[e] at e';cases e';rw[c] at c';revert c';decide
mutual
theorem nT (I:Inv X pins σ H s){v:V}{d d':D}(n1:CB d=true)(n2:CB d'=true)(h:BQ X.K H v d)(h':BQ X.K H v d'):d=d':=by
 cases h with
 |tup h r =>
  cases h' with
  |tup h' r' =>
   have e:=I.Gb (.of h) (.of h');subst e;rw[Iq I (by rw[CB] at n1;exact n1) (by rw[CB] at n2;exact n2) r r']
  |lst h' _=>exact (Z2 I h' (.of h)).elim
  |_=>rw[CB] at n2;cases n2
 |lst h r =>
  cases h' with
  |lst h' r' =>
   have e:=I.Ii h h';subst e;rw[Iq I (by rw[CB] at n1;exact n1) (by rw[CB] at n2;exact n2) r r']
  |tup h' _=>exact (Z2 I h (.of h')).elim
  |_=>rw[CB] at n2;cases n2
 |Av|bl _|int _|str _=>cases h';rfl
 |_=>rw[CB] at n1;cases n1
theorem Iq (I:Inv X pins σ H s){v:List V}{d d':List D}(n1:Nf d=true)(n2:Nf d'=true)(h:Ak X.K H v d)(h':Ak X.K H v d'):d=d':=by
 cases h with
 |nil=>cases h';rfl
 |cons h r =>
  cases h' with
  |cons h' r' =>
   rw[Nf,zb6] at n1 n2;rw[nT I n1.1 n2.1 h h',Iq I n1.2 n2.2 r r']
end
def vat (r:Vals xs aa)(j:Nat)(h:j<aa.toArray.size):∃x,xs[j]?=some x/\RelV x aa.toArray[j]:=by
 have h':j<aa.length:=by simpa using h
 have hx:j<xs.length:=by rw[r.length];exact h'
 obtain⟨u,hu,ru⟩:=r.get (za7 hx);rw[za7 h'] at hu;refine⟨xs[j],za7 hx,?_⟩;have e:aa.toArray[j]=u:=by simpa using hu
 rw[e];exact ru
def Z3 {ds:List D}(h:ds[j]?=some d):ds.getD j .Av=d:=by rw[zbc,h];rfl
def rQ (I:Inv X pins σ H s)(n:Nat):∀(A:Around) (d e:D) (v w:V) (u1 u2:Value),Ul d<=n->CB d=true->CB e=true->A.units+n<cLine->BQ X.K H v d->BQ X.K H w e->RelV v u1->RelV w u2->SeqAt.EqAt A s u1 u2 (Bw d e)/\SeqAt.RcAt A s u1 u2 (Bw d e)/\SeqAt.RcNeAt A s u1 u2 (!Bw d e):=by
 induction n using Nat.strongRecOn with
 |ind n ih =>
  intro A d e v w u1 u2 hd aD aw hu h1 h2 r1 r2;have ak:A.units<cLine:=by omega
  have el:∀ {xs ys:List V} {ds es:List D} {aa its':List Value},Vals xs aa->Vals ys its'->Ak X.K H xs ds->Ak X.K H ys es->Nf ds=true->Nf es=true->Um ds<n->∀(j:Nat) (h1:j<aa.toArray.size) (h2:j<its'.toArray.size),SeqAt.EqAt A.in1 s aa.toArray[j] its'.toArray[j] (Bw (ds.getD j .Av) (es.getD j .Av)):=λ rv dz r r' n1 n2 hn j h1 h2=>by
   obtain⟨x,hx,rx⟩:=vat rv j h1;obtain⟨y,hy,ry⟩:=vat dz j h2;obtain⟨dx,ex,xn⟩:=r.vE hx;obtain⟨dy,ey,xp⟩:=r'.vE hy;rw[Z3 ex,Z3 ey];exact (ih _ hn A.in1 dx dy x y _ _ (Z0 (zas ex)) (Uk (zas ex) n1) (Uk (zas ey) n2) (by show A.units+1+_<cLine;omega) xn xp rx ry).1
  cases h1 with
  |N5 _ _|Vf _ _|VN _ _|ins _ _ _=>simp[CB] at aD
  |Av =>
   cases r1;cases h2 with
   |N5 _ _|Vf _ _|VN _ _|ins _ _ _=>simp[CB] at aw
   |Av=>cases r2;simp only[Bw];exact⟨.same _,.none_none,.none_none⟩
   |bl b=>cases r2;simp only[Bw];exact⟨.none_bool _,.none_bool _,.none_bool _⟩
   |int b=>obtain⟨t,rfl⟩:=r2;simp only[Bw];exact⟨.none_int _ _,.none_int _ _,.none_int _ _⟩
   |str b=>obtain⟨t,rfl⟩:=r2;simp only[Bw];exact⟨.none_str _ _,.none_str _ _,.none_str _ _⟩
   |tup h r=>cases r2;simp only[Bw];obtain⟨_,_,p,_⟩:=I.tuple (.of h);exact⟨.none_tuple p ak,.none_tuple p ak,.none_tuple p ak⟩
   |lst h r=>cases r2;simp only[Bw];obtain⟨_,_,p,_⟩:=I.list h;exact⟨.none_list p.isList ak,.none_list p.isList ak,.none_list p.isList ak⟩
  |bl a =>
   cases r1;cases h2 with
   |N5 _ _|Vf _ _|VN _ _|ins _ _ _=>simp[CB] at aw
   |Av=>cases r2;simp only[Bw];exact⟨.bool_none _,.bool_none _,.bool_none _⟩
   |bl b=>cases r2;simp only[Bw];exact⟨.bool_bool _ _,.bool_bool _ _,.bool_bool _ _⟩
   |int b=>obtain⟨t,rfl⟩:=r2;simp only[Bw];exact⟨.bool_int _ _ _,.bool_int _ _ _,.bool_int _ _ _⟩
   |str b=>obtain⟨t,rfl⟩:=r2;simp only[Bw];exact⟨.bool_str _ _ _,.bool_str _ _ _,.bool_str _ _ _⟩
   |tup h r=>cases r2;simp only[Bw];obtain⟨_,_,p,_⟩:=I.tuple (.of h);exact⟨.bool_tuple _ p ak,.bool_tuple _ p ak,.bool_tuple _ p ak⟩
   |lst h r=>cases r2;simp only[Bw];obtain⟨_,_,p,_⟩:=I.list h;exact⟨.bool_list _ p.isList ak,.bool_list _ p.isList ak,.bool_list _ p.isList ak⟩
  |int a =>
   obtain⟨t',rfl⟩:=r1;cases h2 with
   |N5 _ _|Vf _ _|VN _ _|ins _ _ _=>simp[CB] at aw
   |Av=>cases r2;simp only[Bw];exact⟨.int_none _ _,.int_none _ _,.int_none _ _⟩
   |bl b=>cases r2;simp only[Bw];exact⟨.int_bool _ _ _,.int_bool _ _ _,.int_bool _ _ _⟩
   |int b=>obtain⟨t,rfl⟩:=r2;simp only[Bw];exact⟨.int_int _ _ _ _,.int_int _ _ _ _,.int_int _ _ _ _⟩
   |str b=>obtain⟨t,rfl⟩:=r2;simp only[Bw];exact⟨.int_str _ _ _ _,.int_str _ _ _ _,.int_str _ _ _ _⟩
   |tup h r=>cases r2;simp only[Bw];obtain⟨_,_,p,_⟩:=I.tuple (.of h);exact⟨.int_tuple _ _ p ak,.int_tuple _ _ p ak,.int_tuple _ _ p ak⟩
   |lst h r=>cases r2;simp only[Bw];obtain⟨_,_,p,_⟩:=I.list h;exact⟨.int_list _ _ p.isList ak,.int_list _ _ p.isList ak,.int_list _ _ p.isList ak⟩
  |str a =>
   obtain⟨t',rfl⟩:=r1;cases h2 with
   |N5 _ _|Vf _ _|VN _ _|ins _ _ _=>simp[CB] at aw
   |Av=>cases r2;simp only[Bw];exact⟨.str_none _ _,.str_none _ _,.str_none _ _⟩
   |bl b=>cases r2;simp only[Bw];exact⟨.str_bool _ _ _,.str_bool _ _ _,.str_bool _ _ _⟩
   |int b=>obtain⟨t,rfl⟩:=r2;simp only[Bw];exact⟨.str_int _ _ _ _,.str_int _ _ _ _,.str_int _ _ _ _⟩
   |str b=>obtain⟨t,rfl⟩:=r2;simp only[Bw];exact⟨.str_str _ _ _ _,.str_str _ _ _ _,.str_str _ _ _ _⟩
   |tup h r=>cases r2;simp only[Bw];obtain⟨_,_,p,_⟩:=I.tuple (.of h);exact⟨.str_tuple _ _ p ak,.str_tuple _ _ p ak,.str_tuple _ _ p ak⟩
   |lst h r=>cases r2;simp only[Bw];obtain⟨_,_,p,_⟩:=I.list h;exact⟨.str_list _ _ p.isList ak,.str_list _ _ p.isList ak,.str_list _ _ p.isList ak⟩
  | @tup a xs ds h r =>
   cases r1;obtain⟨aa,rv,p,_⟩:=I.tuple (.of h);cases h2 with
   |N5 _ _|Vf _ _|VN _ _|ins _ _ _=>simp[CB] at aw
   |Av=>cases r2;simp only[Bw];exact⟨.tuple_none p ak,.tuple_none p ak,.tuple_none p ak⟩
   |bl b=>cases r2;simp only[Bw];exact⟨.tuple_bool _ p ak,.tuple_bool _ p ak,.tuple_bool _ p ak⟩
   |int b=>obtain⟨t,rfl⟩:=r2;simp only[Bw];exact⟨.tuple_int _ _ p ak,.tuple_int _ _ p ak,.tuple_int _ _ p ak⟩
   |str b=>obtain⟨t,rfl⟩:=r2;simp only[Bw];exact⟨.tuple_str _ _ p ak,.tuple_str _ _ p ak,.tuple_str _ _ p ak⟩
   | @lst a2 qz es h' r'=>cases r2;simp only[Bw];obtain⟨_,_,p',_⟩:=I.list h';exact⟨.tuple_list p p'.isList ak,.tuple_list p p'.isList ak,.tuple_list p p'.isList ak⟩
   | @tup a2 qz es h' r' =>
    cases r2;obtain⟨its',dz,p',_⟩:=I.tuple (.of h');have z1:aa.toArray.size=ds.length:=by rw[zab,<-rv.length,r.length]
    have z2:its'.toArray.size=es.length:=by rw[zab,<-dz.length,r'.length]
    have hj:=el rv dz r r' (by rw[CB] at aD;exact aD) (by rw[CB] at aw;exact aw) (by rw[Ul] at hd;omega);have q:=SeqAt.RcAt.tuples (A:=A) (e:=λ j=>Bw (ds.getD j .Av) (es.getD j .Av)) p p' ak hj;have q':=SeqAt.RcNeAt.tuples (A:=A) (e:=λ j=>Bw (ds.getD j .Av) (es.getD j .Av)) p p' ak hj;rw[z1,z2,iA] at q q';simp only[Bw];by_cases ha:a=a2
    ·subst ha;have e':=I.Gb (.of h) (.of h');subst e';have e2:=Iq I (by rw[CB] at aD;exact aD) (by rw[CB] at aw;exact aw) r r';subst e2;rw[D2] at q q' ⊢;exact⟨.same _,q,q'⟩
    ·exact⟨.of_refs ha q,q,q'⟩
  | @lst a xs ds h r =>
   cases r1;obtain⟨aa,rv,p,_⟩:=I.list h;cases h2 with
   |N5 _ _|Vf _ _|VN _ _|ins _ _ _=>simp[CB] at aw
   |Av=>cases r2;simp only[Bw];exact⟨.list_none p.isList ak,.list_none p.isList ak,.list_none p.isList ak⟩
   |bl b=>cases r2;simp only[Bw];exact⟨.list_bool _ p.isList ak,.list_bool _ p.isList ak,.list_bool _ p.isList ak⟩
   |int b=>obtain⟨t,rfl⟩:=r2;simp only[Bw];exact⟨.list_int _ _ p.isList ak,.list_int _ _ p.isList ak,.list_int _ _ p.isList ak⟩
   |str b=>obtain⟨t,rfl⟩:=r2;simp only[Bw];exact⟨.list_str _ _ p.isList ak,.list_str _ _ p.isList ak,.list_str _ _ p.isList ak⟩
   | @tup a2 qz es h' r'=>cases r2;simp only[Bw];obtain⟨_,_,p',_⟩:=I.tuple (.of h');exact⟨.list_tuple p.isList p' ak,.list_tuple p.isList p' ak,.list_tuple p.isList p' ak⟩
   | @lst a2 qz es h' r' =>
    cases r2;obtain⟨its',dz,p',_⟩:=I.list h';have z1:aa.toArray.size=ds.length:=by rw[zab,<-rv.length,r.length]
    have z2:its'.toArray.size=es.length:=by rw[zab,<-dz.length,r'.length]
    have hj:=el rv dz r r' (by rw[CB] at aD;exact aD) (by rw[CB] at aw;exact aw) (by rw[Ul] at hd;omega);have qq:SeqAt.RcAt A s (.ref a) (.ref a2) (Cq ds es)/\SeqAt.RcNeAt A s (.ref a) (.ref a2) (!Cq ds es):=by
     by_cases hz:aa.toArray.size=its'.toArray.size
     ·have q:=SeqAt.RcAt.lists (A:=A) (e:=λ j=>Bw (ds.getD j .Av) (es.getD j .Av)) p.isList p'.isList hz ak hj;have q':=SeqAt.RcNeAt.lists (A:=A) (e:=λ j=>Bw (ds.getD j .Av) (es.getD j .Av)) p.isList p'.isList hz ak hj;rw[z1,KI ds es (by rw[<-z1,<-z2,hz])] at q q';exact⟨q,q'⟩
     ·rw[Z1 (by rw[<-z1,<-z2];exact hz)];exact⟨.lists_lengths p.isList p'.isList (by simpa using hz) ak,.lists_lengths p.isList p'.isList (by simpa using hz) ak⟩
    obtain⟨q,q'⟩:=qq;simp only[Bw];by_cases ha:a=a2
    ·subst ha;have e':=I.Ii h h';subst e';have e2:=Iq I (by rw[CB] at aD;exact aD) (by rw[CB] at aw;exact aw) r r';subst e2;rw[D2] at q q' ⊢;exact⟨.same _,q,q'⟩
    ·exact⟨.of_refs ha q,q,q'⟩
abbrev nU (K:za1)(A:Around)(neg:Bool):R2:=λ x y H Q=>∃d e,BQ K H x d/\BQ K H y e/\A.units+Ul d<cLine/\CB d=true/\CB e=true/\Q (.bl (if neg=true then !Bw d e else Bw d e)) H
def iB:GN X (compareOp .Eq) (nU X.K X.A false):=by
 intro pins s σ H x y v u Q I rx ry h;obtain⟨d,e,hd,he,hu,n1,n2,q⟩:=h;exact (rQ I (Ul d) X.A d e x y v u (zag _) n1 n2 hu hd he rx ry).2.1 X.prog X.w X.xe _ ⟨.bl _,H,I,rfl,q⟩
def iC:GN X (compareOp .NotEq) (nU X.K X.A true):=by
 intro pins s σ H x y v u Q I rx ry h;obtain⟨d,e,hd,he,hu,n1,n2,q⟩:=h;exact (rQ I (Ul d) X.A d e x y v u (zag _) n1 n2 hu hd he rx ry).2.2 X.prog X.w X.xe _ ⟨.bl _,H,I,rfl,q⟩
inductive OT where
 |sh (d:D)|lst (ts:List OT)|tup (ts:List OT)|BE (t:Bool) (ks:List D) (ts:List OT)|ins (x:Str) (ns:List Str) (ts:List OT)
inductive Ow where
 |rows (GR:List (List D))
 |OB (p:Nat) (ds:List D)
 |tree (p:Option Nat) (t:OT)
inductive Cl where
 |val (d:D)|own (ds:List D)|ow (o:Ow)
noncomputable abbrev Ah:=List (Option Cl)
inductive M (α:Type) where
 |ok (a:α)|ex (c:Str)|bad
variable {ρ:Ah}{g:Ah->M D}{ft gt:Ah->M Bool}{fi:Ah->M (List D)}
abbrev M.bind {α β:Type}(m:M α)(k:α->M β):M β:=match m with
 | .ok a=>k a
 | .ex c=>.ex c
 | .bad=>.bad
@[simp] theorem M.A8 {α β:Type}(a:α) (k:α->M β):(M.ok a).bind k=k a:=rfl
def bV {α β:Type}{m}{k}{G:M β->Prop}{R:M α->Prop}(h:G (m.bind k))(hk:∀a,G (k a)->R (.ok a))(hb:G .bad->R .bad:=by exact λ h=>h)(hx:∀x,G (.ex x)->R (.ex x):=by exact λ _ h=>h):R m:=by
 cases m with
 |ok a=>exact hk a h
 |ex x=>exact hx x h
 |bad=>exact hb h
abbrev del (H:Hp)(P:Addr->Prop):Hp:=λ a=>open Classical in if P a then none else H a
def AG (h:¬ P a):del H P a=H a:=by unfold del;rw[if_neg h]
def GS (h:P a):del H P a=none:=by unfold del;rw[if_pos h]
def Al (h:del H P a=some o):¬ P a/\H a=some o:=by
 by_cases hp:P a
 ·rw[GS hp] at h;cases h
 ·rw[AG hp] at h;exact⟨hp,h⟩
def Rd.Be (r:Rd (del H P) a u):Rd H a u:=r.elim (λ h=>.inl (Al h).2) λ⟨o,h⟩=>.inr ⟨o,(Al h).2⟩
def Aj.del {H H':Hp}{P:Addr->Prop}(e:Aj H H'):Aj (del H P) (del H' P):=λ b o h=>by
 obtain⟨h1,h2⟩:=Al h;rw[AG h1];exact e b o h2
def De (h:∀a,P' a->P a):Aj (L2.del H P) (L2.del H P'):=λ b o e=>by
 obtain⟨h1,h2⟩:=Al e;rw[AG λ z=>h1 (h b z)];exact h2
def EX:Aj (L2.del H P) H:=λ b o e=>(Al e).2
abbrev EY (H:Hp)(a:Addr):Prop:=∃o,H a=some o/\∀xs,o≠.tup xs/\∀z,o≠.HC z (.tup xs)
def EY.same (h:EY H a)(e:Aj H H'):EY H' a:=let ⟨o,q,r⟩:=h;⟨o,e a o q,r⟩
def EY.no (h:EY H a)(e:H a=none):False:=by
 obtain⟨o,q,r⟩:=h;rw[e] at q;cases q
def EY.lst (h:H a=some (.lst xs)):EY H a:=⟨_,h,λ _=>⟨λ z=>(by cases z),λ _ z=>by cases z⟩⟩
mutual
inductive C6 (K:za1) (H:Hp) (P:Addr->Prop):V->OT->List Addr->Prop
 |sh {v d}:BQ K (del H P) v d->C6 K H P v (.sh d) []
 |lst {p xs ts fp}:H p=some (.lst xs)->Ax K H P xs ts fp->C6 K H P (.ref p) (.lst ts) (p::fp)
 |tup {p xs ts fp}:del H P p=some (.tup xs)->Ax K H P xs ts fp->C6 K H P (.ref p) (.tup ts) fp
 |dK {p kvs ts fp}:H p=some (.dK kvs)->Ax K H P (kvs.map zbs) ts fp->C6 K H P (.ref p) (.BE false (kvs.map λ kv=>Cz kv.1) ts) (p::fp)
 |dT {p kvs ts fp}:H p=some (.dT kvs)->Ax K H P (kvs.map zbs) ts fp->C6 K H P (.ref p) (.BE true (kvs.map λ kv=>.tup (kv.1.map Cz)) ts) (p::fp)
 |ins {p C dx fs ts fp x}:zau K mainGlobals x=some (some (.ref C))->H p=some (.ins C dx fs)->Ax K H P (fs.map zbs) ts fp->C6 K H P (.ref p) (.ins x (fs.map zb0) ts) (p::fp)
inductive Ax (K:za1) (H:Hp) (P:Addr->Prop):List V->List OT->List Addr->Prop
 |nil:Ax K H P [] [] []
 |cons {v t fp vs ts fq}:C6 K H P v t fp->Ax K H P vs ts fq->Ax K H P (v::vs) (t::ts) (fp++fq)
end
mutual
noncomputable def er:OT->D
 | .sh d=>d
 | .lst ts=>.lst (bW ts)
 | .tup ts=>.tup (bW ts)
 | .BE t ks ts=>.BE t ks (bW ts)
 | .ins x ns ts=>.ins x ns (bW ts)
noncomputable def bW:List OT->List D
 |[]=>[]
 |t::r=>er t::bW r
end
mutual
theorem C6.move {K:za1}{H H':Hp}{P P':Addr->Prop}(sm:Aj (del H P) (del H' P')):∀ {v:V}{t:OT}{fp:List Addr},(∀a∈fp,H' a=H a)->C6 K H P v t fp->C6 K H' P' v t fp:=by
 intro _ _ _ k x_;cases x_ with
 |sh h=>exact .sh (h.mono sm)
 |lst h r=>exact .lst ((k _ za3).trans h) (Ax.move sm (λ a ha=>k a (za4 _ ha)) r)
 |tup h r=>exact .tup (sm _ _ h) (Ax.move sm k r)
 |dK h r=>exact .dK ((k _ za3).trans h) (Ax.move sm (λ a ha=>k a (za4 _ ha)) r)
 |dT h r=>exact .dT ((k _ za3).trans h) (Ax.move sm (λ a ha=>k a (za4 _ ha)) r)
 |ins n h r=>exact .ins n ((k _ za3).trans h) (Ax.move sm (λ a ha=>k a (za4 _ ha)) r)
theorem Ax.move {K:za1}{H H':Hp}{P P':Addr->Prop}(sm:Aj (del H P) (del H' P')):∀ {v:List V}{t:List OT}{fp:List Addr},(∀a∈fp,H' a=H a)->Ax K H P v t fp->Ax K H' P' v t fp:=by
 intro _ _ _ k x_;cases x_ with
 |nil=>exact .nil
 |cons h r=>exact .cons (C6.move sm (λ a ha=>k a (zb4 _ ha)) h) (Ax.move sm (λ a ha=>k a (zad _ ha)) r)
end
mutual
theorem C6.Cb {K:za1}{H:Hp}{P:Addr->Prop}:∀ {v:V}{t:OT}{fp:List Addr},C6 K H P v t fp->∀a∈fp,EY H a:=by
 intro _ _ _ x_ a ha;cases x_ with
 |sh h=>cases ha
 |lst h r =>
  rcases zac.mp ha with rfl|ha
  ·exact .lst h
  ·exact Ax.Cb r a ha
 |tup h r=>exact Ax.Cb r a ha
 |dK h r =>
  rcases zac.mp ha with rfl|ha
  ·exact⟨_,h,λ _=>⟨λ z=>(by cases z),λ _ z=>by cases z⟩⟩
  ·exact Ax.Cb r a ha
 |dT h r =>
  rcases zac.mp ha with rfl|ha
  ·exact⟨_,h,λ _=>⟨λ z=>(by cases z),λ _ z=>by cases z⟩⟩
  ·exact Ax.Cb r a ha
 |ins n h r =>
  rcases zac.mp ha with rfl|ha
  ·exact⟨_,h,λ _=>⟨λ z=>(by cases z),λ _ z=>by cases z⟩⟩
  ·exact Ax.Cb r a ha
theorem Ax.Cb {K:za1}{H:Hp}{P:Addr->Prop}:∀ {v:List V}{t:List OT}{fp:List Addr},Ax K H P v t fp->∀a∈fp,EY H a:=by
 intro _ _ _ x_ a ha;cases x_ with
 |nil=>cases ha
 |cons h r =>
  rcases zal.mp ha with ha|ha
  ·exact C6.Cb h a ha
  ·exact Ax.Cb r a ha
end
mutual
theorem C6.Cj {K:za1}{H:Hp}{P P':Addr->Prop}:∀ {v:V}{t:OT}{fp ah:List Addr},C6 K H P v t fp->C6 K H P' v t ah->fp=ah
 |_,_,_,_,.sh _,.sh _=>rfl
 |_,_,_,_,.lst h r,.lst h' r'=>by
  rw[h] at h';cases h';rw[Ax.Cj r r']
 |_,_,_,_,.tup h r,.tup h' r'=>by
  have e:=(Al h).2.symm.trans (Al h').2;cases e;exact Ax.Cj r r'
 |_,_,_,_,.dK (kvs:=kvs) (ts:=ts) h r,x=>by
  generalize ht:OT.BE false (kvs.map λ kv=>Cz kv.1) ts=t at x;cases x with
  |dK h' r' =>
   rw[h] at h';cases h';injection ht with _ _ e
   subst e;rw[Ax.Cj r r']
  |dT h' r'=>rw[h] at h';cases h'
  |_=>cases ht
 |_,_,_,_,.dT (kvs:=kvs) (ts:=ts) h r,x=>by
  generalize ht:OT.BE true (kvs.map λ kv=>D.tup (kv.1.map Cz)) ts=t at x;cases x with
  |dT h' r' =>
   rw[h] at h';cases h';injection ht with _ _ e
   subst e;rw[Ax.Cj r r']
  |dK h' r'=>rw[h] at h';cases h'
  |_=>cases ht
 |_,_,_,_,.ins (fs:=fs) (ts:=ts) (x:=y) n h r,x=>by
  generalize ht:OT.ins y (fs.map zb0) ts=t at x;cases x with
  |ins n' h' r' =>
   rw[h] at h';cases h';injection ht with _ _ e
   subst e;rw[Ax.Cj r r']
  |_=>cases ht
theorem Ax.Cj {K:za1}{H:Hp}{P P':Addr->Prop}:∀ {v:List V}{t:List OT}{fp ah:List Addr},Ax K H P v t fp->Ax K H P' v t ah->fp=ah
 |_,_,_,_,.nil,.nil=>rfl
 |_,_,_,_,.cons h r,.cons h' r'=>by rw[C6.Cj h h',Ax.Cj r r']
end
mutual
theorem C6.has {K:za1}{H:Hp}{P P0:Addr->Prop}(hs:∀a,P0 a->P a):∀ {v:V}{t:OT}{fp:List Addr},(∀a∈fp,¬ P0 a)->C6 K H P v t fp->BQ K (del H P0) v (er t):=by
 intro _ _ _ k x_;cases x_ with
 |sh h=>rw[er];exact h.mono (De hs)
 |lst h r=>rw[er];exact .lst (.of (show del H P0 _=_ by rw[AG (k _ za3)];exact h)) (Ax.has hs (λ a ha=>k a (za4 _ ha)) r)
 |tup h r=>rw[er];exact .tup (De hs _ _ h) (Ax.has hs k r)
 |dK h r=>rw[er];exact .Vf (.inl (show del H P0 _=_ by rw[AG (k _ za3)];exact h)) (Ax.has hs (λ a ha=>k a (za4 _ ha)) r)
 |dT h r=>rw[er];exact .VN (.inl (show del H P0 _=_ by rw[AG (k _ za3)];exact h)) (Ax.has hs (λ a ha=>k a (za4 _ ha)) r)
 |ins n h r=>rw[er];exact .ins n (show del H P0 _=_ by rw[AG (k _ za3)];exact h) (Ax.has hs (λ a ha=>k a (za4 _ ha)) r)
theorem Ax.has {K:za1}{H:Hp}{P P0:Addr->Prop}(hs:∀a,P0 a->P a):∀ {v:List V}{t:List OT}{fp:List Addr},(∀a∈fp,¬ P0 a)->Ax K H P v t fp->Ak K (del H P0) v (bW t):=by
 intro _ _ _ k x_;cases x_ with
 |nil=>rw[bW];exact .nil
 |cons h r=>rw[bW];exact .cons (C6.has hs (λ a ha=>k a (zb4 _ ha)) h) (Ax.has hs (λ a ha=>k a (zad _ ha)) r)
end
inductive Df (K:za1) (H:Hp) (P:Addr->Prop):List Addr->List (List D)->Prop
 |nil:Df K H P [] []
 |cons {q:Addr} {xs:List V} {ds:List D} {ps:List Addr} {GR:List (List D)}:H q=some (.lst xs)->Ak K (del H P) xs ds->Df K H P ps GR->Df K H P (q::ps) (ds::GR)
abbrev Dd (K:za1)(H:Hp)(P:Addr->Prop):Cl->V->List Addr->Prop
 | .own ds,v,fp=>∃p xs,v=.ref p/\fp=[p]/\H p=some (.lst xs)/\Ak K (del H P) xs ds
 | .ow (.rows GR),v,fp=>∃p ps,v=.ref p/\fp=p::ps/\H p=some (.lst (ps.map V.ref))/\Df K H P ps GR
 | .ow (.OB _ ds),v,fp=>∃p xs,v=.ref p/\fp=[p]/\H p=some (.lst xs)/\Ak K (del H P) xs ds
 | .ow (.tree _ t),v,fp=>C6 K H P v t fp
 | .val _,_,_=>False
abbrev GU:Cl->Bool
 | .val _=>false
 |_=>true
def Df.move {K:za1}{H H':Hp}{P P':Addr->Prop}(sm:Aj (del H P) (del H' P')):∀ {ps:List Addr}{GR:List (List D)},(∀a∈ps,H' a=H a)->Df K H P ps GR->Df K H' P' ps GR:=by
 intro _ _ k x_;cases x_ with
 |nil=>exact .nil
 |cons h r t=>exact .cons ((k _ za3).trans h) (r.mono sm) (Df.move sm (λ a ha=>k a (za4 _ ha)) t)
def Df.at {K:za1}{H:Hp}{P:Addr->Prop}:∀ {ps:List Addr}{GR:List (List D)},Df K H P ps GR->∀a∈ps,∃xs,H a=some (.lst xs)
 |_,_,.nil,a,h=>by cases h
 |_,_,.cons h r t,a,ha=>by
  rcases zac.mp ha with rfl|ha
  ·exact⟨_,h⟩
  ·exact t.at a ha
def VP:∀ {ps qs:List Addr},ps.map V.ref=qs.map V.ref->ps=qs
 |[],[],_=>rfl
 |[],_::_,h|_::_,[],h=>by cases h
 |p::ps,q::qs,h=>by
  rw[za6,za6] at h;injection h with h1 h2
  injection h1 with h1
  rw[h1,VP h2]
def Dd.move {K}(sm:Aj (del H P) (del H' P'))(k:∀a∈fp,H' a=H a)(h:Dd K H P c v fp):Dd K H' P' c v fp:=by
 cases c with
 |val d=>exact h
 |own ds =>
  obtain⟨p,xs,rfl,rfl,h1,h2⟩:=h;exact⟨p,xs,rfl,rfl,(k p za3).trans h1,h2.mono sm⟩
 |ow o =>
  cases o with
  |rows GR =>
   obtain⟨p,ps,rfl,rfl,h1,h2⟩:=h;exact⟨p,ps,rfl,rfl,(k p za3).trans h1,h2.move sm λ a ha=>k a (za4 _ ha)⟩
  |OB p ds =>
   obtain⟨p,xs,rfl,rfl,h1,h2⟩:=h;exact⟨p,xs,rfl,rfl,(k p za3).trans h1,h2.mono sm⟩
  |tree p t=>exact C6.move sm k h
def Dd.at {K}(h:Dd K H P c v fp):∀a∈fp,∃o,H a=some o:=by
 cases c with
 |val d=>exact h.elim
 |own ds =>
  obtain⟨p,xs,rfl,rfl,h1,h2⟩:=h;exact λ a ha=>⟨.lst xs,by rw[za9.mp ha];exact h1⟩
 |ow o =>
  cases o with
  |rows GR =>
   obtain⟨p,ps,rfl,rfl,h1,h2⟩:=h;intro a ha;rcases zac.mp ha with rfl|ha
   ·exact⟨_,h1⟩
   ·obtain⟨xs,q⟩:=h2.at a ha;exact⟨_,q⟩
  |OB p ds =>
   obtain⟨p,xs,rfl,rfl,h1,h2⟩:=h;exact λ a ha=>⟨.lst xs,by rw[za9.mp ha];exact h1⟩
  |tree p t =>
   intro a ha;obtain⟨o,q,_⟩:=C6.Cb h a ha;exact⟨o,q⟩
def Dd.same {K}(e:Aj H H')(h:Dd K H P c v fp):Dd K H' P c v fp:=
 h.move e.del λ a ha=>by obtain⟨xs,q⟩:=h.at a ha;rw[q];exact e _ _ q
def Dd.Cj {K}(h:Dd K H P c v fp)(h':Dd K H P' c v ah):fp=ah:=by
 cases c with
 |val d=>exact h.elim
 |own ds =>
  obtain⟨p,xs,rfl,rfl,h1,h2⟩:=h;obtain⟨p',fm,e,rfl,nz,gz⟩:=h';cases e;rfl
 |ow o =>
  cases o with
  |rows GR =>
   obtain⟨p,ps,rfl,rfl,h1,h2⟩:=h;obtain⟨p',q0,e,rfl,nz,gz⟩:=h';cases e;rw[h1] at nz;injection nz with e
   injection e with e
   rw[VP e]
  |OB p ds =>
   obtain⟨p,xs,rfl,rfl,h1,h2⟩:=h;obtain⟨p',fm,e,rfl,nz,gz⟩:=h';cases e;rfl
  |tree p t=>exact C6.Cj h h'
structure Eh where
 pr:Addr->Prop
 g:Nat->Addr
instance:CoeFun Eh (λ _=>Addr->Prop):=⟨Eh.pr⟩
instance:Coe Eh (Addr->Prop):=⟨Eh.pr⟩
abbrev T7:Cl->Option Nat
 | .ow (.OB n _)=>some n
 | .ow (.tree (some n) _)=>some n
 |_=>none
structure Am (K:za1)(P0:Eh)(P:Addr->Prop)(H:Hp)(σ:St)(ρ:Ah):Prop where
 sub:∀a,P0 a->P a
 Cb:∀a,P a->EY H a
 val:∀(i:Nat) d,ρ[i]?=some (some (.val d))->∃v,σ[i]?=some (some v)/\BQ K (del H P) v d
 ows:∀(i:Nat) c,ρ[i]?=some (some c)->GU c=true->∃v fp,σ[i]?=some (some v)/\Dd K H P c v fp/\(∀a∈fp,P a/\¬ P0 a)/\fp.Nodup
 apart:∀(i j:Nat) c c' v v' fp ah,ρ[i]?=some (some c)->ρ[j]?=some (some c')->σ[i]?=some (some v)->σ[j]?=some (some v')->Dd K H P c v fp->Dd K H P c' v' ah->i≠j->∀a∈fp,a∉ah
 len:σ.length=ρ.length
 pin:∀(i:Nat) c n,ρ[i]?=some (some c)->T7 c=some n->σ[i]?=some (some (.ref (P0.g n)))
def Am.own {K}(E:Am K P0 P H σ ρ)(i:Nat)(ds:List D)(h:ρ[i]?=some (some (.own ds))):
 ∃p xs,σ[i]?=some (some (.ref p))/\H p=some (.lst xs)/\P p/\¬ P0 p/\Ak K (del H P) xs ds:=by
 obtain⟨v,fp,h1,⟨p,xs,rfl,rfl,h2,h3⟩,h4,_⟩:=E.ows i _ h rfl;exact⟨p,xs,h1,h2,(h4 p za3).1,(h4 p za3).2,h3⟩
def Am.iD {K}(E:Am K P0 P H σ ρ)(sm:Aj (del H P) (del H' P')){i:Nat}(ki:∀v fp,σ[i]?=some (some v)->Dd K H P c v fp->∀a∈fp,H' a=H a)(kj:∀v fp,σ[j]?=some (some v)->Dd K H P c' v fp->∀a∈fp,H' a=H a)(hi:ρ[i]?=some (some c))(hj:ρ[j]?=some (some c'))(si:σ[i]?=some (some v))(sj:σ[j]?=some (some v'))(h:Dd K H' P' c v fp)(h':Dd K H' P' c' v' ah)(ad:i≠j):∀a∈fp,a∉ah:=by
 have key:∀(k:Nat) (d:Cl) (w:V) (fq:List Addr),ρ[k]?=some (some d)->σ[k]?=some (some w)->(∀v fp,σ[k]?=some (some v)->Dd K H P d v fp->∀a∈fp,H' a=H a)->Dd K H' P' d w fq->Dd K H P d w fq:=λ k d w fq hk sk kk ho=>by
  have io:GU d=true:=by cases d<;>first|rfl|exact ho.elim
  obtain⟨w',b9,s2,o2,_⟩:=E.ows k d hk io;rw[sk] at s2;cases s2;have o3:=o2.move sm (kk _ _ sk o2);rw[ho.Cj o3];exact o2
 exact E.apart i j c c' v v' fp ah hi hj si sj (key i c v fp hi si ki h) (key j c' v' ah hj sj kj h') ad
def Am.same {K}(E:Am K P0 P H σ ρ)(e:Aj H H'):Am K P0 P H' σ ρ:=
 ⟨E.sub,λ a h=>(E.Cb a h).same e,λ i d h=>let ⟨v,h1,h2⟩:=E.val i d h;⟨v,h1,h2.mono e.del⟩,
  λ i c h io=>let ⟨v,fp,h1,h2,h3,h4⟩:=E.ows i c h io;⟨v,fp,h1,h2.same e,h3,h4⟩,
  λ i j c c' v v' fp ah hi hj si sj h h' ad=>E.iD e.del (λ v fp _ o a ha=>by obtain⟨xs,q⟩:=o.at a ha;rw[q];exact e _ _ q) (λ v fp _ o a ha=>by obtain⟨xs,q⟩:=o.at a ha;rw[q];exact e _ _ q) hi hj si sj h h' ad,E.len,E.pin⟩
abbrev gV (K:za1)(WX:Str->Hp->Prop)(P:Addr->Prop)(H:Hp)(Q:VK):M D->Prop
 | .ok d=>∀v H',Aj H H'->BQ K (del H' P) v d->Q v H'
 | .ex x=>∀H',Aj H H'->WX x H'
 | .bad=>False
abbrev gA (K:za1)(WX:Str->Hp->Prop)(P:Addr->Prop)(H:Hp)(Q:List V->Hp->Prop):M (List D)->Prop
 | .ok d=>∀v H',Aj H H'->Ak K (del H' P) v d->Q v H'
 | .ex x=>∀H',Aj H H'->WX x H'
 | .bad=>False
abbrev gT (WX:Str->Hp->Prop)(H:Hp)(Q:Bool->Hp->Prop):M Bool->Prop
 | .ok b=>∀H',Aj H H'->Q b H'
 | .ex x=>∀H',Aj H H'->WX x H'
 | .bad=>False
section
variable {K:za1}{P:Addr->Prop}{H':Hp}
def gV.same (h:gV K WX P H Q m)(e:Aj H H'):gV K WX P H' Q m:=by
 cases m with
 |ok d=>exact λ v H2 q hv=>h v H2 (e.trans q) hv
 |ex x=>exact λ H2 q=>h H2 (e.trans q)
 |bad=>exact h
def gA.same (h:gA K WX P H Q m)(e:Aj H H'):gA K WX P H' Q m:=by
 cases m with
 |ok d=>exact λ v H2 q hv=>h v H2 (e.trans q) hv
 |ex x=>exact λ H2 q=>h H2 (e.trans q)
 |bad=>exact h
def gT.same (h:gT WX H Q m)(e:Aj H H'):gT WX H' Q m:=by
 cases m with
 |ok d|ex x=>exact λ H2 q=>h H2 (e.trans q)
 |bad=>exact h
end
abbrev Lv (c:Bool)(P0:Eh)(P:Addr->Prop):Addr->Prop:=if c=true then P else P0.pr
abbrev DE (X:Cx)(WX:Str->Hp->Prop)(c:Bool)(e:Expr)(f:Ah->M D):Prop:=
 ∃t,PE X e t/\∀P0 P σ H Q ρ,Am X.K P0 P H σ ρ->gV X.K WX (Lv c P0 P) H Q (f ρ)->t σ H Q
abbrev DA (X:Cx)(WX:Str->Hp->Prop)(c:Bool)(es:List Expr)(f:Ah->M (List D)):Prop:=
 ∃t,PA X es t/\(∀P0 P σ H Q ρ,Am X.K P0 P H σ ρ->gA X.K WX (Lv c P0 P) H Q (f ρ)->t σ H Q)/\∀ρ ds,f ρ=.ok ds->ds.length=es.length
abbrev DT (X:Cx)(WX:Str->Hp->Prop)(e:Expr)(f:Ah->M Bool):Prop:=
 ∃t,PT X e t/\∀P0 P σ H Q ρ,Am X.K P0 P H σ ρ->gT WX H Q (f ρ)->t σ H Q
abbrev DW (X:Cx)(WX:Str->Hp->Prop)(e:Expr)(f:Ah->M Bool):Prop:=
 ∃t,PW X e t/\∀P0 P σ H Q ρ,Am X.K P0 P H σ ρ->gT WX H Q (f ρ)->t σ H Q
def DW.dt (h:DW X WX e f):DT X WX e f:=let ⟨t,h1,h2⟩:=h;⟨t,h1.pt,h2⟩
section
variable {c:Bool}{P0:Eh}{P:Addr->Prop}
def Am.lv (E:Am X.K P0 P H σ ρ)(c:Bool):∀a,Lv c P0 P a->P a:=λ a h=>by
 cases c with
 |true=>exact h
 |false=>exact E.sub a h
def Am.zV (E:Am X.K P0 P H σ ρ)(c:Bool):∀a,Lv c P0 P a->EY H a:=λ a h=>E.Cb a (E.lv c a h)
def XJ (h:DE X WX true e f):DE X WX false e f:=by
 obtain⟨t,h1,h2⟩:=h;refine⟨t,h1,λ P0 P σ H Q ρ E g=>h2 P0 P σ H Q ρ E ?_⟩;cases e:f ρ with
 |ok d=>rw[e] at g;exact λ v H' s hv=>g v H' s (hv.mono (De E.sub))
 |ex x|bad=>rw[e] at g;exact g
abbrev zW:D->Bool
 | .tup _ | .lst _ | .N5 _ | .BE _ _ _ | .ins _ _ _=>false
 |_=>true
abbrev fl (m:M D):M D:=m.bind λ d=>if zW d=true then .ok d else .bad
abbrev rv (i:Nat)(ρ:Ah):M D:=match ρ[i]? with | some (some (.val d))=>.ok d | _=>.bad
abbrev ra (i:Nat)(ρ:Ah):M D:=match ρ[i]? with | some (some (.val d))=>.ok d | some (some (.own ds))=>.ok (.lst ds) | some (some (.ow (.rows GR)))=>.ok (.lst (GR.map D.lst)) | some (some (.ow (.OB _ ds)))=>.ok (.lst ds) | some (some (.ow (.tree _ t)))=>.ok (er t) | _=>.bad
def vF (i:Nat)(h:PE X (.Name x pos) (Sf i)):DE X WX true (.Name x pos) (rv i):=by
 refine⟨_,h,λ P0 P σ H Q ρ E g=>?_⟩;unfold rv at g;split at g
 ·rename_i d e;obtain⟨v,h1,h2⟩:=E.val i d e;exact⟨v,h1,g v H (Aj.refl H) h2⟩
 ·exact g.elim
def A4 {i j pos}:DE X WX c (.Constant (.int i) j pos) (λ _=>.ok (.int i)):=⟨_,tO,λ P0 P σ H Q ρ E g=>g _ H (Aj.refl H) (.int i)⟩
def D3 {b j pos}:DE X WX c (.Constant (.bool b) j pos) (λ _=>.ok (.bl b)):=⟨_,yP,λ P0 P σ H Q ρ E g=>g _ H (Aj.refl H) (.bl b)⟩
def CM {j pos}:DE X WX c (.Constant .none j pos) (λ _=>.ok .Av):=⟨_,tP,λ P0 P σ H Q ρ E g=>g _ H (Aj.refl H) .Av⟩
abbrev Z4 (K:za1)(WX:Str->Hp->Prop)(r:R2)(aM:D->D->M D):Prop:=
 ∀(P:Addr->Prop) (H:Hp) (x y:D) (v w:V) (Q:VK),(∀a,P a->EY H a)->BQ K (del H P) v x->BQ K (del H P) w y->gV K WX P H Q (aM x y)->r v w H Q
variable {a b:Expr}{f:Ah->M D}
def VQ (ha:∀P0 P σ H Q ρ,Am X.K P0 P H σ ρ->gV X.K WX (Lv c P0 P) H Q (f ρ)->ta σ H Q)(hb:∀P0 P σ H Q ρ,Am X.K P0 P H σ ρ->gV X.K WX (Lv c P0 P) H Q (g ρ)->tb σ H Q)(hr:Z4 X.K WX r aM)(E:Am X.K P0 P H σ ρ)(h:gV X.K WX (Lv c P0 P) H Q ((f ρ).bind λ x=>(g ρ).bind λ y=>aM x y)):xY r ta tb σ H Q:=by
 refine ha P0 P σ H _ ρ E ?_;cases e:f ρ with
 |bad|ex x=>rw[e] at h;exact h
 |ok x =>
  rw[e] at h;intro v H1 s1 hv;refine hb P0 P σ H1 _ ρ (E.same s1) ?_;cases e2:g ρ with
  |bad=>rw[e2] at h;exact h
  |ex y=>rw[e2] at h;exact gV.same (m:=.ex y) h s1
  |ok y =>
   rw[e2] at h;intro w H2 s2 hw;exact hr _ H2 x y v w Q (λ a q=>((E.same s1).same s2).zV c a q) (hv.mono s2.del) hw ((gV.same h s1).same s2)
def T8 (ho:GN X (binaryOp op) r)(hr:Z4 X.K WX r aM)(ha:DE X WX c a f)(hb:DE X WX c b g):DE X WX c (.BinOp a op b pos) (λ ρ=>(f ρ).bind λ x=>(g ρ).bind λ y=>aM x y):=by
 obtain⟨ta,a1,a2⟩:=ha;obtain⟨tb,b1,b2⟩:=hb;exact⟨_,fO ho a1 b1,λ P0 P σ H Q ρ E h=>VQ a2 b2 hr E h⟩
def XM (ho:GN X (compareOp op) r)(hr:Z4 X.K WX r aM)(ha:DE X WX c a f)(hb:DE X WX c b g)(hm:behindInMarks op b=false):DE X WX c (.Compare a [op] [b] pos) (λ ρ=>(f ρ).bind λ x=>(g ρ).bind λ y=>aM x y):=by
 obtain⟨ta,a1,a2⟩:=ha;obtain⟨tb,b1,b2⟩:=hb;exact⟨_,mQ ho a1 b1 hm,λ P0 P σ H Q ρ E h=>VQ a2 b2 hr E h⟩
def zX (ho:mZ X r)(hr:Z4 X.K WX r aM)(ha:DE X WX c a f)(hb:DE X WX c b g)(hs:Pa b):DE X WX c (.Subscript a b pos) (λ ρ=>(f ρ).bind λ x=>(g ρ).bind λ y=>aM x y):=by
 obtain⟨ta,a1,a2⟩:=ha;obtain⟨tb,b1,b2⟩:=hb;exact⟨_,rM ho a1 b1 hs,λ P0 P σ H Q ρ E h=>VQ a2 b2 hr E h⟩
abbrev Bk (k:Int->Int->M D)(x y:D):M D:=match x,y with | .int i,.int j=>k i j | _,_=>.bad
def BQ.int_inv {K}(h:BQ K H v (.int i)):v=.int i:=by cases h;rfl
def BQ.Qf {K}(h:BQ K H v (.bl i)):v=.bl i:=by cases h;rfl
def Uo {C:Int->Int->Prop}{gv:Int->Int->V}{gd:Int->Int->D}[∀i j,Decidable (C i j)](hg:∀i j K H,BQ K H (gv i j) (gd i j)):Z4 X.K WX (rI C gv) (Bk λ i j=>if C i j then .ok (gd i j) else .bad):=by
 intro P H x y v w Q ht hx hy h;unfold Bk at h;split at h
 ·rename_i i j;rw[hx.int_inv,hy.int_inv];dsimp only at h;by_cases hc:C i j
  ·rw[if_pos hc] at h;exact⟨i,j,rfl,rfl,hc,h _ H (Aj.refl H) (hg i j _ _)⟩
  ·rw[if_neg hc] at h;exact h.elim
 ·exact h.elim
def Pb {gd:Int->Int->D}(hg:∀i j K H,BQ K H (gv i j) (gd i j)):Z4 X.K WX (eX gv) (Bk λ i j=>.ok (gd i j)):=by
 intro P H x y v w Q ht hx hy h;unfold Bk at h;split at h
 ·rename_i i j;rw[hx.int_inv,hy.int_inv];exact⟨i,j,rfl,rfl,h _ H (Aj.refl H) (hg i j _ _)⟩
 ·exact h.elim
instance (i j:Int):Decidable (fP i j):=by unfold fP;infer_instance
instance (i j:Int):Decidable (mO i j):=by unfold mO;infer_instance
instance (i j:Int):Decidable (fQ i j):=by unfold fQ;infer_instance
abbrev vG:=Bk λ i j=>.ok (.int (i+j))
abbrev zY:=Bk λ i j=>.ok (.int (i-j))
abbrev Fx:=Bk λ i j=>if 0<j then .ok (.int (i%j)) else .bad
abbrev EA:=Bk λ i j=>if fP i j then .ok (.int (i / j)) else .bad
abbrev bX:=Bk λ i j=>if mO i j then .ok (.int (i^j.toNat)) else .bad
abbrev dLt:=Bk λ i j=>.ok (.bl (decide (i<j)))
abbrev dLe:=Bk λ i j=>.ok (.bl (decide (i<=j)))
abbrev dGt:=Bk λ i j=>.ok (.bl (decide (j<i)))
abbrev dGe:=Bk λ i j=>.ok (.bl (decide (j<=i)))
def BS (ha:DE X WX c a f)(hb:DE X WX c b g):DE X WX c (.BinOp a .Add b pos) (λ ρ=>(f ρ).bind λ x=>(g ρ).bind λ y=>vG x y):=T8 uD (Pb λ _ _ _ _=>.int _) ha hb
def vH (ha:DE X WX c a f)(hb:DE X WX c b g):DE X WX c (.BinOp a .Sub b pos) (λ ρ=>(f ρ).bind λ x=>(g ρ).bind λ y=>zY x y):=T8 uE (Pb λ _ _ _ _=>.int _) ha hb
def BA (ha:DE X WX c a f)(hb:DE X WX c b g):DE X WX c (.BinOp a .Mod b pos) (λ ρ=>(f ρ).bind λ x=>(g ρ).bind λ y=>Fx x y):=T8 uF (Uo λ _ _ _ _=>.int _) ha hb
def BZ (ha:DE X WX c a f)(hb:DE X WX c b g):DE X WX c (.BinOp a .FloorDiv b pos) (λ ρ=>(f ρ).bind λ x=>(g ρ).bind λ y=>EA x y):=T8 mP (Uo λ _ _ _ _=>.int _) ha hb
def iE (ha:DE X WX c a f)(hb:DE X WX c b g):DE X WX c (.BinOp a .Pow b pos) (λ ρ=>(f ρ).bind λ x=>(g ρ).bind λ y=>bX x y):=T8 uG (Uo λ _ _ _ _=>.int _) ha hb
abbrev bY (n:Nat)(x y:D):M D:=if Ul x<=n/\CB x=true/\CB y=true then .ok (.bl (Bw x y)) else .bad
abbrev Xk (n:Nat)(x y:D):M D:=if Ul x<=n/\CB x=true/\CB y=true then .ok (.bl (!Bw x y)) else .bad
def iF (hu:X.A.units+n<cLine):Z4 X.K WX (nU X.K X.A false) (bY n):=by
 intro P H x y v w Q ht hx hy h;unfold bY at h;by_cases hd:Ul x<=n/\CB x=true/\CB y=true
 ·rw[if_pos hd] at h;exact⟨x,y,hx.mono EX,hy.mono EX,by omega,hd.2.1,hd.2.2,h _ H (Aj.refl H) (.bl _)⟩
 ·rw[if_neg hd] at h;exact h.elim
def iG (hu:X.A.units+n<cLine):Z4 X.K WX (nU X.K X.A true) (Xk n):=by
 intro P H x y v w Q ht hx hy h;unfold Xk at h;by_cases hd:Ul x<=n/\CB x=true/\CB y=true
 ·rw[if_pos hd] at h;exact⟨x,y,hx.mono EX,hy.mono EX,by omega,hd.2.1,hd.2.2,h _ H (Aj.refl H) (.bl _)⟩
 ·rw[if_neg hd] at h;exact h.elim
def VR (hu:X.A.units+n<cLine)(ha:DE X WX c a f)(hb:DE X WX c b g):DE X WX c (.Compare a [.Eq] [b] pos) (λ ρ=>(f ρ).bind λ x=>(g ρ).bind λ y=>bY n x y):=XM iB (iF hu) ha hb (Ik _)
def zZ (hu:X.A.units+n<cLine)(ha:DE X WX c a f)(hb:DE X WX c b g):DE X WX c (.Compare a [.NotEq] [b] pos) (λ ρ=>(f ρ).bind λ x=>(g ρ).bind λ y=>Xk n x y):=XM iC (iG hu) ha hb (Ik _)
abbrev Bl:D->Bool
 | .Av=>true
 |_=>false
def BQ.isN {K}(h:BQ K H v d):decide (v=.Av)=Bl d:=by
 cases h<;>simp[Bl]
def Up {j pos'}(ha:DE X WX c a f):DE X WX c (.Compare a [.Is] [.Constant .none j pos'] pos) (λ ρ=>(f ρ).bind λ x=>.ok (.bl (Bl x))):=by
 obtain⟨ta,a1,a2⟩:=ha;refine⟨_,fG (fF a1),λ P0 P σ H Q ρ E h=>?_⟩;dsimp only at h;refine a2 P0 P σ H _ ρ E ?_;cases e:f ρ with
 |bad|ex x=>rw[e] at h;exact h
 |ok x=>rw[e] at h;exact λ v H1 s1 hv=>h _ H1 s1 (by rw[hv.isN];exact .bl _)
def nV {j pos'}(ha:DE X WX c a f):DE X WX c (.Compare a [.IsNot] [.Constant .none j pos'] pos) (λ ρ=>(f ρ).bind λ x=>.ok (.bl (!Bl x))):=by
 obtain⟨ta,a1,a2⟩:=ha;refine⟨_,fG (YN a1),λ P0 P σ H Q ρ E h=>?_⟩;dsimp only at h;refine a2 P0 P σ H _ ρ E ?_;cases e:f ρ with
 |bad|ex x=>rw[e] at h;exact h
 |ok x=>rw[e] at h;exact λ v H1 s1 hv=>h _ H1 s1 (by rw[hv.isN];exact .bl _)
abbrev yB (x y:D):M D:=match x,y with
 | .tup ds,.int i| .lst ds,.int i=>(match Xj ds i with|some d=>.ok d|none=>.bad)
 |_,_=>.bad
def Ak.Xj {K}(h:Ak K H xs ds)(e:L2.Xj ds i=some d):∃v,L2.Xj xs i=some v/\BQ K H v d:=by
 unfold L2.Xj at e ⊢;rw[<-h.length] at e;cases q:YS xs.length i with
 |none=>rw[q] at e;cases e
 |some j =>
  rw[q] at e;exact h.get e
def DU.Be {K}{a}(h:DU K (del H P) a xs):DU K H a xs:=EX.seq h
def FE.Be {K}{a}(h:FE K (del H P) a xs):FE K H a xs:=EX.abT h
def Ir:Z4 X.K WX (λ x y H Q=>uP X.K x y H Q\/uQ X.K x y H Q) yB:=by
 intro P H x y v w Q ht hx hy h;unfold yB at h;split at h
 ·rename_i ds i;split at h
  ·rename_i d e;cases hy;cases hx with
   |tup hs hl =>
    obtain⟨u,h1,h2⟩:=hl.Xj e;exact .inr ⟨_,_,i,u,rfl,rfl,FE.of (Al hs).2,h1,h _ H (Aj.refl H) h2⟩
  ·exact h.elim
 ·rename_i ds i;split at h
  ·rename_i d e;cases hy;cases hx with
   |lst hs hl =>
    obtain⟨u,h1,h2⟩:=hl.Xj e;exact .inl ⟨_,_,i,u,rfl,rfl,hs.Be,h1,h _ H (Aj.refl H) h2⟩
  ·exact h.elim
 ·exact h.elim
def A6:DA X WX c [] (λ _=>.ok []):=⟨_,Ci,λ P0 P σ H Q ρ E h=>h [] H (Aj.refl H) .nil,λ ρ ds h=>by cases h;rfl⟩
def A1 (he:DE X WX c e f)(hr:DA X WX c es fs)(hs: ~~~(starEach (e::es) X.env=(false,eval e X.env)::starEach es X.env)):
 DA X WX c (e::es) (λ ρ=>(f ρ).bind λ d=>(fs ρ).bind λ ds=>.ok (d::ds)):=by
 obtain⟨te,e1,e2⟩:=he;obtain⟨tr,r1,r2,r3⟩:=hr;refine⟨_,Ba e1 r1 hs,λ P0 P σ H Q ρ E h=>?_,λ ρ ds h=>?_⟩
 rotate_left
 ·dsimp only at h;cases q:f ρ with
  |bad|ex x=>rw[q] at h;cases h
  |ok x =>
   rw[q] at h;cases q2:fs ρ with
   |bad|ex x=>rw[q2] at h;cases h
   |ok xs =>
    rw[q2] at h;cases h;rw[za8,za8,r3 ρ xs q2]
 dsimp only at h;refine e2 P0 P σ H _ ρ E ?_;cases q:f ρ with
 |bad|ex x=>rw[q] at h;exact h
 |ok x =>
  rw[q] at h;intro v H1 s1 hv;refine r2 P0 P σ H1 _ ρ (E.same s1) ?_;cases q2:fs ρ with
  |bad=>rw[q2] at h;exact h
  |ex y=>rw[q2] at h;exact gA.same (m:=.ex y) h s1
  |ok ds =>
   rw[q2] at h;exact λ vs H2 s2 a5=>h _ H2 (s1.trans s2) (.cons (hv.mono s2.del) a5)
def Lh (hn:H p=none)(ht:∀a,P a->EY H a):del (upd H p o) P p=some o:=by
 rw[AG λ z=>(ht p z).no hn];exact An
def AM {x1}(ha:DA X WX c es fs)(hz:es.length<=1000:=by decide):DE X WX c (.Tuple es x1 pos) (λ ρ=>(fs ρ).bind λ ds=>if ds.length<=1000 then .ok (.tup ds) else .bad):=by
 obtain⟨ta,a1,a2,a3⟩:=ha;refine⟨_,Xz a1,λ P0 P σ H Q ρ E h=>?_⟩;dsimp only at h;refine a2 P0 P σ H _ ρ E ?_;cases q:fs ρ with
 |bad|ex y=>rw[q] at h;exact h
 |ok ds =>
  rw[q] at h;simp only[M.A8] at h;by_cases hd:ds.length<=1000
  ·rw[if_pos hd] at h;intro vs H1 s1 a5;refine⟨zbq (AF (by rw[a5.length];exact hd)),λ p hp=>h _ _ (s1.trans (AL hp _)) (.tup (Lh hp λ a q=>(E.same s1).zV c a q) (a5.mono (AL hp _).del))⟩
  ·rw[if_neg hd] at h;exact h.elim
def Du (ha:DA X WX c es fs):DE X WX c (.List es pos) (λ ρ=>(fs ρ).bind λ ds=>if ds.length<=1000 then .ok (.lst ds) else .bad):=by
 obtain⟨ta,a1,a2,a3⟩:=ha;refine⟨_,XA a1,λ P0 P σ H Q ρ E h=>?_⟩;dsimp only at h;refine a2 P0 P σ H _ ρ E ?_;cases q:fs ρ with
 |bad|ex y=>rw[q] at h;exact h
 |ok ds =>
  rw[q] at h;simp only[M.A8] at h;by_cases hd:ds.length<=1000
  ·rw[if_pos hd] at h;intro vs H1 s1 a5;refine⟨zbq (AF (by rw[a5.length];exact hd)),λ p hp=>h _ _ (s1.trans (AL hp _)) (.lst (.of (Lh hp λ a q=>(E.same s1).zV c a q)) (a5.mono (AL hp _).del))⟩
  ·rw[if_neg hd] at h;exact h.elim
end
abbrev Sn (d:D):M Bool:=match d with | .bl b=>.ok b | _=>.bad
section
variable {c:Bool}{P0:Eh}{P:Addr->Prop}{a b:Expr}{f:Ah->M D}
def rR {K}(h:gT WX H Q (m.bind Sn)):gV K WX P H (λ x H'=>∃k,x=.bl k/\Q k H') m:=by
 cases m with
 |bad|ex x=>exact h
 |ok d =>
  intro v H' s hv;simp only[M.A8] at h;unfold Sn at h;split at h
  ·rename_i b;exact⟨b,hv.Qf,h H' s⟩
  ·exact h.elim
def GV (ho:GN X (compareOp op) r)(hr:Z4 X.K WX r aM)(ha:DE X WX c a f)(hb:DE X WX c b g)(hm:behindInMarks op b=false):DT X WX (.Compare a [op] [b] pos) (λ ρ=>((f ρ).bind λ x=>(g ρ).bind λ y=>aM x y).bind Sn):=by
 obtain⟨ta,a1,a2⟩:=ha;obtain⟨tb,b1,b2⟩:=hb;exact⟨_,mR ho a1 b1 hm,λ P0 P σ H Q ρ E h=>VQ a2 b2 hr E (rR h)⟩
def aaa (ha:DE X WX c a f)(hb:DE X WX c b g):DT X WX (.Compare a [.Lt] [b] pos) (λ ρ=>((f ρ).bind λ x=>(g ρ).bind λ y=>dLt x y).bind Sn):=GV fR (Pb λ _ _ _ _=>.bl _) ha hb (Ik _)
def aab (ha:DE X WX c a f)(hb:DE X WX c b g):DT X WX (.Compare a [.Gt] [b] pos) (λ ρ=>((f ρ).bind λ x=>(g ρ).bind λ y=>dGt x y).bind Sn):=GV zE (Pb λ _ _ _ _=>.bl _) ha hb (Ik _)
def Li (hu:X.A.units+n<cLine)(ha:DE X WX c a f)(hb:DE X WX c b g):DT X WX (.Compare a [.Eq] [b] pos) (λ ρ=>((f ρ).bind λ x=>(g ρ).bind λ y=>bY n x y).bind Sn):=GV iB (iF hu) ha hb (Ik _)
def FG (hu:X.A.units+n<cLine)(ha:DE X WX c a f)(hb:DE X WX c b g):DT X WX (.Compare a [.NotEq] [b] pos) (λ ρ=>((f ρ).bind λ x=>(g ρ).bind λ y=>Xk n x y).bind Sn):=GV iC (iG hu) ha hb (Ik _)
def EZ {j pos'}(ha:DE X WX c a f):DT X WX (.Compare a [.Is] [.Constant .none j pos'] pos) (λ ρ=>(f ρ).bind λ x=>.ok (Bl x)):=by
 obtain⟨ta,a1,a2⟩:=ha;refine⟨_,fH (fF a1),λ P0 P σ H Q ρ E h=>?_⟩;dsimp only at h;refine a2 P0 P σ H _ ρ E ?_;cases e:f ρ with
 |bad|ex x=>rw[e] at h;exact h
 |ok x=>rw[e] at h;exact λ v H1 s1 hv=>⟨_,rfl,by rw[hv.isN];exact h H1 s1⟩
def Lj {j pos'}(ha:DE X WX c a f):DT X WX (.Compare a [.IsNot] [.Constant .none j pos'] pos) (λ ρ=>(f ρ).bind λ x=>.ok (!Bl x)):=by
 obtain⟨ta,a1,a2⟩:=ha;refine⟨_,fH (YN a1),λ P0 P σ H Q ρ E h=>?_⟩;dsimp only at h;refine a2 P0 P σ H _ ρ E ?_;cases e:f ρ with
 |bad|ex x=>rw[e] at h;exact h
 |ok x=>rw[e] at h;exact λ v H1 s1 hv=>⟨_,rfl,by rw[hv.isN];exact h H1 s1⟩
def Bs (ha:DT X WX a ft):DT X WX (.UnaryOp .Not a pos) (λ ρ=>(ft ρ).bind λ b=>.ok (!b)):=by
 obtain⟨ta,a1,a2⟩:=ha;refine⟨_,tQ a1,λ P0 P σ H Q ρ E h=>?_⟩;dsimp only at h;refine a2 P0 P σ H _ ρ E ?_;cases e:ft ρ with
 |bad|ex x=>rw[e] at h;exact h
 |ok x=>rw[e] at h;exact λ H1 s1=>h H1 s1
def Lk (ha:DT X WX a ft):DW X WX (.BoolOp .And [a] pos) ft:=let ⟨ta,a1,a2⟩:=ha;⟨_,pw_and1 a1,a2⟩
def Ct (ha:DT X WX a ft):DW X WX (.BoolOp .Or [a] pos) ft:=let ⟨ta,a1,a2⟩:=ha;⟨_,pw_or1 a1,a2⟩
def Qg {rest}(ha:DT X WX a ft)(hb:DW X WX (.BoolOp .And (b::rest) pos) gt):DW X WX (.BoolOp .And (a::b::rest) pos) (λ ρ=>(ft ρ).bind λ k=>if k=true then gt ρ else .ok false):=by
 obtain⟨ta,a1,a2⟩:=ha;obtain⟨tb,b1,b2⟩:=hb;refine⟨_,pw_and a1 b1,λ P0 P σ H Q ρ E h=>?_⟩;dsimp only at h;refine a2 P0 P σ H _ ρ E ?_;cases e:ft ρ with
 |bad|ex x=>rw[e] at h;exact h
 |ok k =>
  rw[e] at h;intro H1 s1;cases k with
  |true =>
   simp only[M.A8,if_true] at h ⊢;exact b2 P0 P σ H1 _ ρ (E.same s1) (h.same s1)
  |false =>
   simp only[M.A8,zb1,if_false] at h ⊢;exact h H1 s1
def Dg {rest}(ha:DT X WX a ft)(hb:DW X WX (.BoolOp .Or (b::rest) pos) gt):DW X WX (.BoolOp .Or (a::b::rest) pos) (λ ρ=>(ft ρ).bind λ k=>if k=true then .ok true else gt ρ):=by
 obtain⟨ta,a1,a2⟩:=ha;obtain⟨tb,b1,b2⟩:=hb;refine⟨_,pw_or a1 b1,λ P0 P σ H Q ρ E h=>?_⟩;dsimp only at h;refine a2 P0 P σ H _ ρ E ?_;cases e:ft ρ with
 |bad|ex x=>rw[e] at h;exact h
 |ok k =>
  rw[e] at h;intro H1 s1;cases k with
  |true =>
   simp only[M.A8,if_true] at h ⊢;exact h H1 s1
  |false =>
   simp only[M.A8,zb1,if_false] at h ⊢;exact b2 P0 P σ H1 _ ρ (E.same s1) (h.same s1)
def Ng {op}(ha:DE X WX c a f):DE X WX c (.BoolOp op [a] pos) f:=let ⟨ta,a1,a2⟩:=ha;⟨_,tR a1,a2⟩
def KJ {rest}(ha:DE X WX c a f)(hb:DE X WX c (.BoolOp .And (b::rest) pos) g):DE X WX c (.BoolOp .And (a::b::rest) pos) (λ ρ=>((f ρ).bind Sn).bind λ k=>if k=true then g ρ else .ok (.bl false)):=by
 obtain⟨ta,a1,a2⟩:=ha;obtain⟨tb,b1,b2⟩:=hb;refine⟨_,tS a1 b1,λ P0 P σ H Q ρ E h=>?_⟩;dsimp only at h;refine a2 P0 P σ H _ ρ E ?_;cases e:f ρ with
 |bad|ex x=>rw[e] at h;exact h
 |ok d =>
  rw[e] at h;simp only[M.A8] at h;unfold Sn at h;split at h
  ·rename_i k;intro v H1 s1 hv;refine⟨k,hv.Qf,?_⟩;cases k with
   |true =>
    simp only[M.A8,if_true] at h ⊢;exact b2 P0 P σ H1 _ ρ (E.same s1) (h.same s1)
   |false =>
    simp only[M.A8,zb1,if_false] at h ⊢;exact h _ H1 s1 (.bl _)
  ·exact h.elim
def aac {rest}(ha:DE X WX c a f)(hb:DE X WX c (.BoolOp .Or (b::rest) pos) g):DE X WX c (.BoolOp .Or (a::b::rest) pos) (λ ρ=>((f ρ).bind Sn).bind λ k=>if k=true then .ok (.bl true) else g ρ):=by
 obtain⟨ta,a1,a2⟩:=ha;obtain⟨tb,b1,b2⟩:=hb;refine⟨_,yT a1 b1,λ P0 P σ H Q ρ E h=>?_⟩;dsimp only at h;refine a2 P0 P σ H _ ρ E ?_;cases e:f ρ with
 |bad|ex x=>rw[e] at h;exact h
 |ok d =>
  rw[e] at h;simp only[M.A8] at h;unfold Sn at h;split at h
  ·rename_i k;intro v H1 s1 hv;refine⟨k,hv.Qf,?_⟩;cases k with
   |true =>
    simp only[M.A8,if_true] at h ⊢;exact h _ H1 s1 (.bl _)
   |false =>
    simp only[M.A8,zb1,if_false] at h ⊢;exact b2 P0 P σ H1 _ ρ (E.same s1) (h.same s1)
  ·exact h.elim
def vI (ha:DE X WX c a f):DE X WX c (.UnaryOp .Not a pos) (λ ρ=>((f ρ).bind Sn).bind λ k=>.ok (.bl (!k))):=by
 obtain⟨ta,a1,a2⟩:=ha;refine⟨_,tT a1,λ P0 P σ H Q ρ E h=>?_⟩;dsimp only at h;refine a2 P0 P σ H _ ρ E ?_;cases e:f ρ with
 |bad|ex x=>rw[e] at h;exact h
 |ok d =>
  rw[e] at h;simp only[M.A8] at h;unfold Sn at h;split at h
  ·rename_i k;exact λ v H1 s1 hv=>⟨k,hv.Qf,h _ H1 s1 (.bl _)⟩
  ·exact h.elim
def abU (ha:DE X WX c a f):DE X WX c (.UnaryOp .USub a pos) (λ ρ=>(f ρ).bind λ d=>match d with | .int i=>.ok (.int (-i)) | _=>.bad):=by
 obtain⟨ta,a1,a2⟩:=ha;refine⟨_,zC uH a1,λ P0 P σ H Q ρ E h=>?_⟩;dsimp only at h;refine a2 P0 P σ H _ ρ E ?_;cases e:f ρ with
 |bad|ex x=>rw[e] at h;exact h
 |ok d =>
  rw[e] at h;simp only[M.A8] at h;split at h
  ·rename_i i;exact λ v H1 s1 hv=>⟨i,hv.int_inv,h _ H1 s1 (.int _)⟩
  ·exact h.elim
def bZ {p q:Int->Int->Bool}(ho:GN X (compareOp op) (eX λ i j=>.bl (p i j)))(aJ:GN X (compareOp bn) (eX λ i j=>.bl (q i j)))(ha:DE X WX c a f)(hb:DE X WX c b g)(hd:DE X WX c d h)(hm:lastMarks [op,bn] [b,d]=false:=by with_unfolding_all rfl):DE X WX c (.Compare a [op,bn] [b,d] pos) (λ ρ=>(f ρ).bind λ x=>(g ρ).bind λ y=>Bk (λ i j=>if p i j=true then (h ρ).bind λ z=>Bk (λ _ k=>.ok (.bl (q j k))) (.int 0) z else .ok (.bl false)) x y):=by
 obtain⟨ta,a1,a2⟩:=ha;obtain⟨tb,b1,b2⟩:=hb;obtain⟨td,d1,d2⟩:=hd;refine⟨_,fU ho aJ a1 b1 d1 hm,λ P0 P σ H Q ρ E hh=>?_⟩;dsimp only at hh;refine a2 P0 P σ H _ ρ E ?_;cases e:f ρ with
 |bad|ex x=>rw[e] at hh;exact hh
 |ok x =>
  rw[e] at hh;intro v H1 s1 hv;refine b2 P0 P σ H1 _ ρ (E.same s1) ?_;cases e2:g ρ with
  |bad=>rw[e2] at hh;exact hh
  |ex y=>rw[e2] at hh;exact gV.same (m:=.ex y) hh s1
  |ok y =>
   rw[e2] at hh;simp only[M.A8] at hh;unfold Bk at hh;split at hh
   ·rename_i i j;intro w H2 s2 hw;refine⟨i,j,hv.int_inv,hw.int_inv,p i j,rfl,?_⟩;dsimp only at hh;by_cases hp:p i j=true
    ·rw[if_pos hp] at hh ⊢;refine d2 P0 P σ H2 _ ρ ((E.same s1).same s2) ?_;cases e3:h ρ with
     |bad=>rw[e3] at hh;exact hh
     |ex z=>rw[e3] at hh;exact gV.same (gV.same (m:=.ex z) hh s1) s2
     |ok z =>
      rw[e3] at hh;simp only[M.A8] at hh;cases z with
      |int k=>exact λ u H3 s3 hu=>⟨j,k,hw.int_inv,hu.int_inv,hh _ H3 ((s1.trans s2).trans s3) (.bl _)⟩
      |_=>exact hh.elim
    ·rw[if_neg hp] at hh ⊢;exact hh _ H2 (s1.trans s2) (.bl _)
   ·exact hh.elim
abbrev Ll (K:za1)(WX:Str->Hp->Prop)(r:List V->Hp->VK->Prop)(dF:List D->M D):Prop:=
 ∀(P:Addr->Prop) (H:Hp) (ds:List D) (vs:List V) (Q:VK),(∀a,P a->EY H a)->Ak K (del H P) vs ds->gV K WX P H Q (dF ds)->r vs H Q
variable {x:Str}{p:Pos}{es:List Expr}{fs:Ah->M (List D)}{id T:String}{r:List V->Hp->VK->Prop}{dF:List D->M D}
def iH (ha:∀P0 P σ H Q ρ,Am X.K P0 P H σ ρ->gA X.K WX (Lv c P0 P) H Q (fs ρ)->ta σ H Q)(hr:Ll X.K WX r dF)(E:Am X.K P0 P H σ ρ)(h:gV X.K WX (Lv c P0 P) H Q ((fs ρ).bind dF)):tCB r ta σ H Q:=by
 refine ha P0 P σ H _ ρ E ?_;cases e:fs ρ with
 |bad|ex x=>rw[e] at h;exact h
 |ok ds =>
  rw[e] at h;exact λ vs H1 s1 a5=>hr _ H1 ds vs Q (λ a q=>(E.same s1).zV c a q) a5 (h.same s1)
def Lm (hc:Gd X (.builtin id) r)(hr:Ll X.K WX r dF)(hg:Gl X x)(hm:X.mg x=none)(hv:bootBuiltins x=some (.builtin id))(ha:DA X WX c (e::es) fs)(hn:x ≠ "__name__" := by decide)(aK:(x==("__debug__" : Str))=false:=by decide)(he: ~~~(starEach (e::es) X.env=(false,eval e X.env)::starEach es X.env))(hpl: ~~~((backTo pos (starEach es X.env)).any (·.1)=false)):DE X WX c (.Call (.Name x p) (e::es) [] pos) (λ ρ=>(fs ρ).bind dF):=by
 obtain⟨ta,a1,a2,a3⟩:=ha;exact⟨_,Vx hc hg hm hv a1 hn aK he hpl,λ P0 P σ H Q ρ E h=>iH a2 hr E h⟩
def T9 (hc:Gd X (.type T) r)(hr:Ll X.K WX r dF)(hg:Gl X x)(hm:X.mg x=none)(hv:bootBuiltins x=some (.type T))(ha:DA X WX c (e::es) fs)(hn:x ≠ "__name__" := by decide)(aK:(x==("__debug__" : Str))=false:=by decide)(he: ~~~(starEach (e::es) X.env=(false,eval e X.env)::starEach es X.env))(hpl: ~~~((backTo pos (starEach es X.env)).any (·.1)=false)):DE X WX c (.Call (.Name x p) (e::es) [] pos) (λ ρ=>(fs ρ).bind dF):=by
 obtain⟨ta,a1,a2,a3⟩:=ha;exact⟨_,Na hc hg hm hv a1 hn aK he hpl,λ P0 P σ H Q ρ E h=>iH a2 hr E h⟩
abbrev XN (ds:List D):M D:=match ds with
 |[.lst xs]|[.tup xs]=>.ok (.int xs.length)
 |_=>.bad
def Ak.one {K}(h:Ak K H vs [d]):∃v,vs=[v]/\BQ K H v d:=by
 cases h with
 |cons h t=>cases t;exact⟨_,rfl,h⟩
def Ak.two {K}{e}(h:Ak K H vs [d,e]):∃v w,vs=[v,w]/\BQ K H v d/\BQ K H w e:=by
 cases h with
 |cons h t =>
  obtain⟨w,rfl,hw⟩:=t.one;exact⟨_,w,rfl,h,hw⟩
def vJ:Ll X.K WX (λ xs H Q=>∃p ys,xs=[.ref p]/\(DU X.K H p ys\/FE X.K H p ys)/\Q (.int ys.length) H) XN:=by
 intro P H ds vs Q ht hl h;unfold XN at h;split at h
 ·obtain⟨v,rfl,hv⟩:=hl.one;cases hv with
  |lst hs hh=>exact⟨_,_,rfl,.inl hs.Be,by rw[hh.length];exact h _ H (Aj.refl H) (.int _)⟩
 ·obtain⟨v,rfl,hv⟩:=hl.one;cases hv with
  |tup hs hh=>exact⟨_,_,rfl,.inr (FE.of (Al hs).2),by rw[hh.length];exact h _ H (Aj.refl H) (.int _)⟩
 ·exact h.elim
def CN (hg:Gl X "len")(hm:X.mg "len" = none)(ha:DE X WX c e f)(hs: ~~~(starEach [e] X.env=[(false,eval e X.env)])):DE X WX c (.Call (.Name "len" p) [e] [] pos) (λ ρ=>((f ρ).bind λ d=>(M.ok []).bind λ ds=>.ok (d::ds)).bind XN):=
 Lm Ue vJ hg hm PySem.boot_len (A1 ha A6 hs) (he:=hs)
abbrev XO (ds:List D):M D:=match ds with
 |[.lst xs]|[.tup xs]=>.ok (.tup xs)
 |_=>.bad
def iI:Ll X.K WX (λ xs H Q=>∃p ys,xs=[.ref p]/\((DU X.K H p ys/\∀l,H l=none->Q (.ref l) (upd H l (.tup ys)))\/(FE X.K H p ys/\Q (.ref p) H))) XO:=by
 intro P H ds vs Q ht hl h;unfold XO at h;split at h
 ·obtain⟨v,rfl,hv⟩:=hl.one;cases hv with
  |lst hs hh=>exact⟨_,_,rfl,.inl ⟨hs.Be,λ l hn=>h _ _ (AL hn _) (.tup (Lh hn ht) (hh.mono (AL hn _).del))⟩⟩
 ·obtain⟨v,rfl,hv⟩:=hl.one;cases hv with
  |tup hs hh=>exact⟨_,_,rfl,.inr ⟨FE.of (Al hs).2,h _ H (Aj.refl H) (.tup hs hh)⟩⟩
 ·exact h.elim
def iJ (hg:Gl X "tuple")(hm:X.mg "tuple" = none)(ha:DE X WX c e f)(hb:bootBuiltins "tuple" = some (.type "tuple"):=by decide +kernel)(hs: ~~~(starEach [e] X.env=[(false,eval e X.env)])):DE X WX c (.Call (.Name "tuple" p) [e] [] pos) (λ ρ=>((f ρ).bind λ d=>(M.ok []).bind λ ds=>.ok (d::ds)).bind XO):=
 T9 Sj iI hg hm hb (A1 ha A6 hs) (he:=hs)
abbrev rS:D->String
 | .Av => "NoneType"
 | .bl _ => "bool"
 | .int _ => "int"
 | .str _ => "str"
 | .tup _ => "tuple"
 | .lst _ => "list"
 | .N5 _ => "NoneType"
 | .BE _ _ _ => "dict"
 | .ins _ _ _ => "NoneType"
abbrev Fy (T:String)(d:D):Bool:=(rS d==T)||(rS d == "bool" && T == "int")
abbrev K9 (T:String)(d:D):M D:=match d with
 | .N5 _| .ins _ _ _=>.bad
 |d=>.ok (.bl (Fy T d))
abbrev isX:D->Bool
 | .N5 _| .ins _ _ _=>true
 |_=>false
def iK (h:isX d=false):K9 T d=.ok (.bl (Fy T d)):=by cases d<;>first | rfl | cases h
abbrev abV (K:za1)(T:String):List V->Hp->VK->Prop:=λ xs H Q=>∃x d,xs=[x,.ty T]/\BQ K H x d/\isX d=false/\Q (.bl (Fy T d)) H
def iL (hk:∀d:D,PySem.W.kitOne X.K (.type (rS d)) (.type T)=some (Fy T d)):Gd X (.builtin "isinstance") (abV X.K T):=by
 intro pins s σ H xs us Q I r h;obtain⟨x,d,rfl,hd,hx,q⟩:=h;obtain⟨u,w,rfl,rx,aU⟩:=r.two;cases aU;have fin:∀tk,EP X pins σ Q (.bool (Fy T d)) {s with toks:=tk}:=λ tk=>⟨.bl _,H,I.tok tk,rfl,q⟩;have e:=hk d;cases hd with
 |N5 _ _|ins _ _ _=>cases hx
 |Vf hs hl =>
  cases rx;obtain⟨⟨o,h1,h2⟩,_,_⟩:=Ui I (.inl ⟨_,hs⟩);exact zcm PySem.W.kitx_dict I.NU ⟨o,h1,h2⟩ e (λ z=>nomatch z) fin
 |VN hs hl =>
  cases rx;obtain⟨⟨o,h1,h2⟩,_,_⟩:=Ui I (.inr ⟨_,hs⟩);exact zcm PySem.W.kitx_dict I.NU ⟨o,h1,h2⟩ e (λ z=>nomatch z) fin
 |Av=>cases rx;exact zcm PySem.W.kitx_none I.NU zct e (λ z=>nomatch z) fin
 |bl b=>cases rx;exact zcm PySem.W.kitx_bool I.NU zct e (λ z=>nomatch z) fin
 |int b=>obtain⟨t,rfl⟩:=rx;exact zcm PySem.W.kitx_int I.NU zct e (λ z=>nomatch z) fin
 |str b=>obtain⟨t,rfl⟩:=rx;exact zcm PySem.W.kitx_str I.NU zct e (λ z=>nomatch z) fin
 |tup hs hl =>
  cases rx;obtain⟨_,_,⟨o,h1,h2,_⟩,_⟩:=I.tuple (.of hs);exact zcm PySem.W.kitx_tuple I.NU ⟨o,h1,h2⟩ e (λ z=>nomatch z) fin
 |lst hs hl =>
  cases rx;obtain⟨_,_,⟨o,n,h1,h2,_⟩,_⟩:=I.list hs;exact zcm PySem.W.kitx_list I.NU ⟨o,h1,h2⟩ e (λ z=>nomatch z) fin
def Dv (hk:∀d:D,PySem.W.kitOne X.K (.type (rS d)) (.type T)=some (Fy T d))(hg:Gl X "isinstance")(hm:X.mg "isinstance" = none)(ka:Gl X x2)(aH:X.mg x2=none)(rb:bootBuiltins x2=some (.type T))(ha:DE X WX c e f)(hb:bootBuiltins "isinstance" = some (.builtin "isinstance"):=by decide +kernel)(a8:x2 ≠ "__name__" := by decide)(rc:(x2==("__debug__" : Str))=false:=by decide)(hs: ~~~(starEach [e,.Name x2 p2] X.env=(false,eval e X.env)::starEach [.Name x2 p2] X.env))(aB: ~~~(starEach [.Name x2 p2] X.env=[(false,eval (.Name x2 p2) X.env)]))(hpl: ~~~((backTo pos (starEach [.Name x2 p2] X.env)).any (·.1)=false)):
 DE X WX c (.Call (.Name "isinstance" p) [e,.Name x2 p2] [] pos) (λ ρ=>(f ρ).bind λ d=>K9 T d):=by
 obtain⟨ta,a1,a2⟩:=ha;refine⟨_,Vx (iL hk) hg hm hb (Ba a1 (Ba (mJ (v:=.ty T) ka aH rb rfl a8 rc) Ci aB) hs) (by decide) (by decide) hs hpl,λ P0 P σ H Q ρ E h=>?_⟩;dsimp only at h;refine a2 P0 P σ H _ ρ E ?_;refine bV h λ d h=>?_;cases hx:isX d with
 |true=>cases d<;>first|exact h.elim|cases hx
 |false =>
  rw[iK hx] at h;exact λ v H1 s1 hv=>⟨v,d,rfl,hv.mono EX,hx,h _ H1 s1 (.bl _)⟩
def GW (K:za1)(d:D):PySem.W.kitOne K (.type (rS d)) (.type "tuple")=some (Fy "tuple" d):=by cases d<;>rfl
def Nh (K:za1)(d:D):PySem.W.kitOne K (.type (rS d)) (.type "list")=some (Fy "list" d):=by cases d<;>rfl
def Ni (K:za1)(d:D):PySem.W.kitOne K (.type (rS d)) (.type "bool")=some (Fy "bool" d):=by cases d<;>rfl
def Qh (K:za1)(d:D):PySem.W.kitOne K (.type (rS d)) (.type "int")=some (Fy "int" d):=by cases d<;>rfl
abbrev rT (lo hi:Option Int)(d:D):M D:=match d with
 | .lst ds=>.ok (.lst ((ds.drop (HT.Q3 ds.length 0 lo)).take (HT.Q3 ds.length ds.length hi-HT.Q3 ds.length 0 lo)))
 |_=>.bad
abbrev DO (X:Cx)(WX:Str->Hp->Prop)(c:Bool)(e:Option Expr)(f:Ah->M (Option Int)):Prop:=
 ∃t,PO X e t/\∀P0 P σ H Q ρ,Am X.K P0 P H σ ρ->(match f ρ with | .ok o=>∀H',Aj H H'->Q o H' | .ex x=>∀H',Aj H H'->WX x H' | .bad=>False)->t σ H Q
def Ln:DO X WX c none (λ _=>.ok none):=⟨_,mX,λ P0 P σ H Q ρ E h=>h H (Aj.refl H)⟩
abbrev asI (d:D):M (Option Int):=match d with | .int i=>.ok (some i) | _=>.bad
def GX (ha:DE X WX c e f):DO X WX c (some e) (λ ρ=>(f ρ).bind asI):=by
 obtain⟨ta,a1,a2⟩:=ha;refine⟨_,mY a1,λ P0 P σ H Q ρ E h=>?_⟩;dsimp only at h;refine a2 P0 P σ H _ ρ E ?_;cases q:f ρ with
 |bad|ex x=>rw[q] at h;exact h
 |ok d =>
  rw[q] at h;cases d with
  |int i=>exact λ v H1 s1 hv=>⟨i,hv.int_inv,h H1 s1⟩
  |_=>exact h.elim
end
inductive Out where
 |ret (d:D)|next (ρ:Ah)|brk (ρ:Ah)|cont (ρ:Ah)|CC (c:Cl)|FX (t:OT) (ρ:Ah)
variable {g1 g2:Ah->M Out}
abbrev Tr (P0 P:Addr->Prop)(H:Hp)(P':Addr->Prop)(H':Hp):Prop:=Aj (del H P) (del H' P')/\∀a,P0 a->H' a=H a
def Tr.refl:Tr P0 P H P H:=⟨Aj.refl _,λ _ _=>rfl⟩
def Tr.trans (a:Tr P0 P H P1 H1)(b:Tr P0 P1 H1 P2 H2):Tr P0 P H P2 H2:=⟨a.1.trans b.1,λ x h=>(b.2 x h).trans (a.2 x h)⟩
def Am.tr {K}(E:Am K P0 P H σ ρ)(e:Aj H H'):Tr P0 P H P H':=
 ⟨e.del,λ a h=>by obtain⟨o,q,_⟩:=E.Cb a (E.sub a h);rw[e a o q,q]⟩
abbrev gS (K:za1)(WX:Str->Hp->Prop)(P0:Eh)(P:Addr->Prop)(H:Hp)(Z:Ends):M Out->Prop
 | .ok (.ret d)=>∀v H' P',Tr P0 P H P' H'->BQ K (del H' P0) v d->Z.rt v H'
 | .ok (.next ρ)=>∀σ' H' P',Tr P0 P H P' H'->Am K P0 P' H' σ' ρ->Z.nx σ' H'
 | .ok (.brk ρ)=>∀σ' H' P',Tr P0 P H P' H'->Am K P0 P' H' σ' ρ->Z.bk σ' H'
 | .ok (.cont ρ)=>∀σ' H' P',Tr P0 P H P' H'->Am K P0 P' H' σ' ρ->Z.ct σ' H'
 | .ok (.CC c)=>∀v fp H' P',Tr P0 P H P' H'->(∀a,P0 a->P' a)->(∀a,P' a->EY H' a)->Dd K H' P' c v fp->(∀a∈fp,P' a/\¬ P0 a)->fp.Nodup->Z.rt v H'
 | .ok (.FX t ρ)=>∀v fp σ' H' P',Tr P0 P H P' H'->Am K P0 P' H' σ' ρ->C6 K H' P' v t fp->fp.Nodup->(∀a∈fp,P' a/\¬ P0 a/\∀(j:Nat) c v' fq,ρ[j]?=some (some c)->σ'[j]?=some (some v')->Dd K H' P' c v' fq->a∉fq)->Z.rt v H'
 | .ex x=>∀H' P',Tr P0 P H P' H'->WX x H'
 | .bad=>False
def gS.tr {K}(h:gS K WX P0 P H Z m)(t:Tr P0 P H P' H'):gS K WX P0 P' H' Z m:=by
 cases m with
 |bad=>exact h
 |ex x=>exact λ H2 P2 t2=>h H2 P2 (t.trans t2)
 |ok o =>
  cases o with
  |ret d=>exact λ v H2 P2 t2 hv=>h v H2 P2 (t.trans t2) hv
  |next ρ|brk ρ|cont ρ=>exact λ σ2 H2 P2 t2 hv=>h σ2 H2 P2 (t.trans t2) hv
  |CC c=>exact λ v fp H2 P2 t2=>h v fp H2 P2 (t.trans t2)
  |FX c ρ=>exact λ v fp σ2 H2 P2 t2=>h v fp σ2 H2 P2 (t.trans t2)
abbrev DS (X:Cx)(WX:Str->Hp->Prop)(st:Stmt)(g:Ah->M Out):Prop:=
 ∃t,PS X st t/\∀P0 P σ H Z ρ,Am X.K P0 P H σ ρ->gS X.K WX P0 P H Z (g ρ)->t Z σ H
abbrev Vg (X:Cx)(WX:Str->Hp->Prop)(st:List Stmt)(g:Ah->M Out):Prop:=
 ∃t,YM X st t/\∀P0 P σ H Z ρ,Am X.K P0 P H σ ρ->gS X.K WX P0 P H Z (g ρ)->t Z σ H
abbrev cB (m:M Out)(k:Ah->M Out):M Out:=match m with
 | .ok (.next ρ)=>k ρ
 |m=>m
section
variable {c:Bool}{P0:Eh}{P:Addr->Prop}{a b:Expr}{f:Ah->M D}{st:Stmt}{rest:List Stmt}
def Ap:Vg X WX [] (λ ρ=>.ok (.next ρ)):=⟨_,mK,λ P0 P σ H Z ρ E h=>h σ H P Tr.refl E⟩
def A5 (h:DS X WX st g1):Vg X WX [st] g1:=let ⟨t,h1,h2⟩:=h;⟨_,mL h1,h2⟩
def A2 (h:DS X WX st g1)(hr:Vg X WX rest g2):Vg X WX (st::rest) (λ ρ=>cB (g1 ρ) g2):=by
 obtain⟨t,h1,h2⟩:=h;obtain⟨u,r1,r2⟩:=hr;refine⟨_,fI h1 r1,λ P0 P σ H Z ρ E h=>?_⟩;dsimp only at h;refine h2 P0 P σ H {Z with nx:=u Z} ρ E ?_;cases q:g1 ρ with
 |bad|ex x=>rw[q] at h;exact h
 |ok o =>
  rw[q] at h;cases o with
  |ret d|brk d|cont d|CC d|FX d ρ2=>exact h
  |next ρ'=>exact λ σ' H' P' t E'=>r2 P0 P' σ' H' Z ρ' E' (gS.tr h t)
def iM (ha:DE X WX false e f):DS X WX (.Return (some e) pos) (λ ρ=>(f ρ).bind λ d=>.ok (.ret d)):=by
 obtain⟨ta,a1,a2⟩:=ha;refine⟨_,U9 a1,λ P0 P σ H Z ρ E h=>?_⟩;dsimp only at h;refine a2 P0 P σ H _ ρ E ?_;cases q:f ρ with
 |bad=>rw[q] at h;exact h
 |ex x=>rw[q] at h;exact λ H' s=>h H' P (E.tr s)
 |ok d=>rw[q] at h;exact λ v H' s hv=>h v H' P (E.tr s) hv
def B0 {c}(hc:DT X WX c ft)(ha:Vg X WX sa g1)(hb:Vg X WX sb g2):DS X WX (.If c sa sb pos) (λ ρ=>(ft ρ).bind λ k=>if k=true then g1 ρ else g2 ρ):=by
 obtain⟨tc,c1,c2⟩:=hc;obtain⟨ta,a1,a2⟩:=ha;obtain⟨tb,b1,b2⟩:=hb;refine⟨_,yX c1 a1 b1,λ P0 P σ H Z ρ E h=>?_⟩;dsimp only at h;refine c2 P0 P σ H _ ρ E ?_;cases q:ft ρ with
 |bad=>rw[q] at h;exact h
 |ex x=>rw[q] at h;exact λ H' s=>h H' P (E.tr s)
 |ok k =>
  rw[q] at h;intro H1 s1;cases k with
  |true =>
   simp only[M.A8,if_true] at h ⊢;exact a2 P0 P σ H1 Z ρ (E.same s1) (h.tr (E.tr s1))
  |false =>
   simp only[M.A8,zb1,if_false] at h ⊢;exact b2 P0 P σ H1 Z ρ (E.same s1) (h.tr (E.tr s1))
def get_set {α:Type}{l:List α}{x y}(h:(l.set i x)[j]?=some y):(i=j/\i<l.length/\x=y)\/(i≠j/\l[j]?=some y):=by
 by_cases e:i=j
 ·subst e;rw[List.getElem?_set_self'] at h;cases q:l[i]? with
  |none=>rw[q] at h;cases h
  |some z =>
   rw[q] at h;exact .inl ⟨rfl,(zaf.mp q).1,by simpa using h⟩
 ·rw[zbu e] at h;exact .inr ⟨e,h⟩
def Am.XQ {K}(E:Am K P0 P H σ ρ)(hv:BQ K (del H P) v d):Am K P0 P H (σ.set i (some v)) (ρ.set i (some (.val d))):=by
 have gs:∀ {j:Nat},i≠j->(σ.set i (some v))[j]?=σ[j]? :=λ h=>zbu h;refine⟨E.sub,E.Cb,λ j e h=>?_,λ j c h io=>?_,λ j k c c' u u' fp ah h1 h2 h3 h4 h5 h6 ad=>?_,by rw[zcd,zcd];exact E.len,λ j c n h hp=>?_⟩
 rotate_left 3
 ·rcases get_set h with ⟨rfl,hl,e1⟩|⟨ad,h⟩
  ·cases e1;cases hp
  ·rw[gs ad];exact E.pin j c n h hp
 ·rcases get_set h with ⟨rfl,hl,e1⟩|⟨ad,h⟩
  ·cases e1;exact⟨v,zb5 (by rw[E.len];exact hl),hv⟩
  ·obtain⟨w,h1,h2⟩:=E.val j e h;exact⟨w,by rw[gs ad];exact h1,h2⟩
 ·rcases get_set h with ⟨rfl,hl,e1⟩|⟨ad,h⟩
  ·cases e1;cases io
  ·obtain⟨w,fp,h1,h2⟩:=E.ows j c h io;exact⟨w,fp,by rw[gs ad];exact h1,h2⟩
 ·rcases get_set h1 with ⟨rfl,hl,e1⟩|⟨c5,h1⟩
  ·cases e1;exact h5.elim
  ·rcases get_set h2 with ⟨rfl,hl,e1⟩|⟨a8,h2⟩
   ·cases e1;exact h6.elim
   ·rw[gs c5] at h3;rw[gs a8] at h4;exact E.apart j k c c' u u' fp ah h1 h2 h3 h4 h5 h6 ad
def Am.nW {K}(E:Am K P0 P H σ ρ){c}(hs:∀a,P a->P' a)(ht:∀a,P' a->EY H' a)(sm:Aj (del H P) (del H' P'))(keep:∀(j:Nat) c' v' ah,i≠j->ρ[j]?=some (some c')->σ[j]?=some (some v')->Dd K H P c' v' ah->∀a∈ah,H' a=H a/\a∉fp)(new:Dd K H' P' c v fp)(hp:∀a∈fp,P' a/\¬ P0 a)(nd:fp.Nodup)(h7:∀n,T7 c=some n->v=.ref (P0.g n):=by intro n z;cases z):Am K P0 P' H' (σ.set i (some v)) (ρ.set i (some c)):=by
 have gs:∀ {j:Nat},i≠j->(σ.set i (some v))[j]?=σ[j]? :=λ h=>zbu h;refine⟨λ a h=>hs a (E.sub a h),ht,λ j e h=>?_,λ j c' h io=>?_,λ j k c1 c2 u u' aq b9 h1 h2 h3 h4 h5 h6 ad=>?_,by rw[zcd,zcd];exact E.len,λ j c' n h hp=>?_⟩
 rotate_left 3
 ·rcases get_set h with ⟨rfl,hl,e1⟩|⟨ad,h⟩
  ·cases e1;rw[zb5 (by rw[E.len];exact hl),h7 n hp]
  ·rw[gs ad];exact E.pin j c' n h hp
 ·rcases get_set h with ⟨rfl,hl,e1⟩|⟨ad,h⟩
  ·cases e1;exact new.elim
  ·obtain⟨w,h1,h2⟩:=E.val j e h;exact⟨w,by rw[gs ad];exact h1,h2.mono sm⟩
 ·rcases get_set h with ⟨rfl,hl,e1⟩|⟨ad,h⟩
  ·cases e1;exact⟨v,fp,zb5 (by rw[E.len];exact hl),new,hp,nd⟩
  ·obtain⟨w,fq,h1,h2,h3,h4⟩:=E.ows j c' h io;exact⟨w,fq,by rw[gs ad];exact h1,h2.move sm λ a ha=>(keep j c' w fq ad h h1 h2 a ha).1,λ a ha=>⟨hs a (h3 a ha).1,(h3 a ha).2⟩,h4⟩
 ·have back:∀(l:Nat) (d:Cl) (w:V) (fq:List Addr),i≠l->ρ[l]?=some (some d)->σ[l]?=some (some w)->Dd K H' P' d w fq->∃fr,Dd K H P d w fr/\fr=fq:=λ l d w fq hn hk sk ho=>by
   have io:GU d=true:=by cases d<;>first|rfl|exact ho.elim
   obtain⟨w',b9,s2,o2,_⟩:=E.ows l d hk io;rw[sk] at s2;cases s2;exact⟨b9,o2,(o2.move sm λ a ha=>(keep l d w b9 hn hk sk o2 a ha).1).Cj ho⟩
  rcases get_set h1 with ⟨rfl,hl,e1⟩|⟨c5,h1⟩
  ·cases e1;rw[zb5 (by rw[E.len];exact hl)] at h3;cases h3;rcases get_set h2 with ⟨e,_⟩|⟨a8,h2⟩
   ·exact (ad e).elim
   ·rw[gs a8] at h4;obtain⟨fr,o,rfl⟩:=back k c2 u' b9 a8 h2 h4 h6;intro a ha hb;rw[new.Cj h5] at keep;exact (keep k c2 u' fr a8 h2 h4 o a hb).2 ha
  ·rw[gs c5] at h3;obtain⟨fr,o,rfl⟩:=back j c1 u aq c5 h1 h3 h5;rcases get_set h2 with ⟨rfl,hl,e1⟩|⟨a8,h2⟩
   ·cases e1;rw[zb5 (by rw[E.len];exact hl)] at h4;cases h4;intro a ha;rw[new.Cj h6] at keep;exact (keep j c1 u fr c5 h1 h3 o a ha).2
   ·rw[gs a8] at h4;obtain⟨re,o2,rfl⟩:=back k c2 u' b9 a8 h2 h4 h6;exact E.apart j k c1 c2 u u' fr re h1 h2 h3 h4 o o2 ad
def Am.aae {K}(E:Am K P0 P H σ ρ){c}(hs:∀a,P0 a->P' a)(ht:∀a,P' a->EY H' a)(sm:Aj (del H P) (del H' P'))(keep:∀(j:Nat) c' v' ah,i≠j->ρ[j]?=some (some c')->σ[j]?=some (some v')->Dd K H P c' v' ah->∀a∈ah,H' a=H a/\a∉fp/\P' a)(new:Dd K H' P' c v fp)(hp:∀a∈fp,P' a/\¬ P0 a)(nd:fp.Nodup)(h7:∀n,T7 c=some n->v=.ref (P0.g n):=by intro n z;cases z):Am K P0 P' H' (σ.set i (some v)) (ρ.set i (some c)):=by
 have gs:∀ {j:Nat},i≠j->(σ.set i (some v))[j]?=σ[j]? :=λ h=>zbu h;refine⟨hs,ht,λ j e h=>?_,λ j c' h io=>?_,λ j k c1 c2 u u' aq b9 h1 h2 h3 h4 h5 h6 ad=>?_,by rw[zcd,zcd];exact E.len,λ j c' n h hp=>?_⟩
 rotate_left 3
 ·rcases get_set h with ⟨rfl,hl,e1⟩|⟨ad,h⟩
  ·cases e1;rw[zb5 (by rw[E.len];exact hl),h7 n hp]
  ·rw[gs ad];exact E.pin j c' n h hp
 ·rcases get_set h with ⟨rfl,hl,e1⟩|⟨ad,h⟩
  ·cases e1;exact new.elim
  ·obtain⟨w,h1,h2⟩:=E.val j e h;exact⟨w,by rw[gs ad];exact h1,h2.mono sm⟩
 ·rcases get_set h with ⟨rfl,hl,e1⟩|⟨ad,h⟩
  ·cases e1;exact⟨v,fp,zb5 (by rw[E.len];exact hl),new,hp,nd⟩
  ·obtain⟨w,fq,h1,h2,h3,h4⟩:=E.ows j c' h io;exact⟨w,fq,by rw[gs ad];exact h1,h2.move sm λ a ha=>(keep j c' w fq ad h h1 h2 a ha).1,λ a ha=>⟨(keep j c' w fq ad h h1 h2 a ha).2.2,(h3 a ha).2⟩,h4⟩
 ·have back:∀(l:Nat) (d:Cl) (w:V) (fq:List Addr),i≠l->ρ[l]?=some (some d)->σ[l]?=some (some w)->Dd K H' P' d w fq->∃fr,Dd K H P d w fr/\fr=fq:=λ l d w fq hn hk sk ho=>by
   have io:GU d=true:=by cases d<;>first|rfl|exact ho.elim
   obtain⟨w',b9,s2,o2,_⟩:=E.ows l d hk io;rw[sk] at s2;cases s2;exact⟨b9,o2,(o2.move sm λ a ha=>(keep l d w b9 hn hk sk o2 a ha).1).Cj ho⟩
  rcases get_set h1 with ⟨rfl,hl,e1⟩|⟨c5,h1⟩
  ·cases e1;rw[zb5 (by rw[E.len];exact hl)] at h3;cases h3;rcases get_set h2 with ⟨e,_⟩|⟨a8,h2⟩
   ·exact (ad e).elim
   ·rw[gs a8] at h4;obtain⟨fr,o,rfl⟩:=back k c2 u' b9 a8 h2 h4 h6;intro a ha hb;rw[new.Cj h5] at keep;exact (keep k c2 u' fr a8 h2 h4 o a hb).2.1 ha
  ·rw[gs c5] at h3;obtain⟨fr,o,rfl⟩:=back j c1 u aq c5 h1 h3 h5;rcases get_set h2 with ⟨rfl,hl,e1⟩|⟨a8,h2⟩
   ·cases e1;rw[zb5 (by rw[E.len];exact hl)] at h4;cases h4;intro a ha;rw[new.Cj h6] at keep;exact (keep j c1 u fr c5 h1 h3 o a ha).2.1
   ·rw[gs a8] at h4;obtain⟨re,o2,rfl⟩:=back k c2 u' b9 a8 h2 h4 h6;exact E.apart j k c1 c2 u u' fr re h1 h2 h3 h4 o o2 ad
def Uq {α:Type}:∀ {l:List α}{i:Nat}{x:α},l[i]?=some x->l.set i x=l
 |[],_,_,h=>by cases h
 |y::r,0,x,h=>by cases h;rfl
 |y::r,i+1,x,h=>by rw[zae,Uq (by simpa using h)]
def Am.mut {K}(E:Am K P0 P H σ ρ)(ho:ρ[i]?=some (some (.own ds)))(hs:σ[i]?=some (some (.ref p)))(pP:P p)(n5:¬ P0 p)(hx:Ak K (del H P) xs n4):
 Am K P0 P (upd H p (.lst xs)) σ (ρ.set i (some (.own n4)))/\Tr P0 P H P (upd H p (.lst xs)):=by
 have sd:del (upd H p (.lst xs)) P=del H P:=by
  funext b;by_cases hb:P b
  ·rw[GS hb,GS hb]
  ·rw[AG hb,AG hb,Ai (λ z=>hb (by rw[z];exact pP))]
 have sm:Aj (del H P) (del (upd H p (.lst xs)) P):=by rw[sd];exact Aj.refl _
 obtain⟨v,fp,s1,o1,_⟩:=E.ows i _ ho rfl;rw[hs] at s1;cases s1;have key:=E.nW (P':=P) (H':=upd H p (.lst xs)) (i:=i) (v:=.ref p) (c:=.own n4) (fp:=[p]) (λ a h=>h) (λ a h=>?_) sm (λ j c' v' ah ad h1 h2 h3 a ha=>?_) ⟨p,xs,rfl,rfl,An,by rw[sd];exact hx⟩ (λ a ha=>by rw[za9.mp ha];exact⟨pP,n5⟩) (by simp)
 ·rw[Uq hs] at key;exact⟨key,sm,λ a h=>by rw[Ai (λ z=>n5 (by rw[<-z];exact h))]⟩
 ·by_cases ha:a=p
  ·subst ha;exact EY.lst An
  ·unfold EY;rw[Ai ha];exact E.Cb a h
 ·obtain⟨p',fm,e,rfl,_⟩:=o1;cases e;have hn:a≠p:=λ z=>E.apart j i c' _ v' _ ah [p] h1 ho h2 hs h3 ⟨p,fm,rfl,rfl,by assumption⟩ (zbm ad) a ha (by rw[z];exact za9.mpr rfl);exact⟨Ai hn,λ z=>hn (za9.mp z)⟩
def Am.grow {K}(E:Am K P0 P H σ ρ)(ho:ρ[i]?=some (some (.own ds)))(hs:σ[i]?=some (some (.ref p)))(hp:H p=some (.lst xs))(pP:P p)(n5:¬ P0 p)(hx:Ak K (del H P) xs ds)(hv:BQ K (del H P) v d):
 Am K P0 P (upd H p (.lst (xs++[v]))) σ (ρ.set i (some (.own (ds++[d]))))/\Tr P0 P H P (upd H p (.lst (xs++[v]))):=E.mut ho hs pP n5 (hx.snoc hv)
def As (i:Nat)(hN:X.N.Nodup)(hi:X.N[i]?=some x)(hx:Loc X.env.scope x)(ha:DE X WX true e f)(hs: ~~~(swapsWith e (some (.Name x pos')) pos.line X.env=pure false))(hf:X.fn x=true\/X.env.scope.names.lookup x=some .local:=by first | exact .inl rfl | exact .inr rfl | assumption):
 DS X WX (.Assign [.Name x pos'] e pos) (λ ρ=>(f ρ).bind λ d=>.ok (.next (ρ.set i (some (.val d))))):=by
 obtain⟨ta,a1,a2⟩:=ha;refine⟨_,Xo hN hi hx a1 hs hf,λ P0 P σ H Z ρ E h=>?_⟩;dsimp only at h;refine a2 P0 P σ H _ ρ E ?_;cases q:f ρ with
 |bad=>rw[q] at h;exact h
 |ex x=>rw[q] at h;exact λ H' s=>h H' P (E.tr s)
 |ok d=>rw[q] at h;exact λ v H' s hv=>h _ H' P (E.tr s) ((E.same s).XQ hv)
def iN {K}{α:Type}{m}{k}{R:M α->Prop}(h:gS K WX P0 P H Z (m.bind k))(E:Am K P0 P H σ ρ)(hk:∀a,gS K WX P0 P H Z (k a)->R (.ok a))(hb:False->R .bad:=by exact λ h=>h)(hx:∀x,(∀H',Aj H H'->WX x H')->R (.ex x):=by exact λ _ h=>h):R m:=by
 cases m with
 |ok a=>exact hk a h
 |ex x=>exact hx x λ H' s=>h H' P (E.tr s)
 |bad=>exact hb h
abbrev cC (i:Nat)(ρ:Ah)(m:M D):M Out:=match ρ[i]? with
 |some (some (.own ds))=>m.bind λ d=>if ds.length<1000 then .ok (.next (ρ.set i (some (.own (ds++[d]))))) else .bad
 |_=>.bad
def JE (i:Nat)(hv:PE X (.Name x p1) (Sf i))(ha:DE X WX true e f)(hs: ~~~(starEach [e] X.env=[(false,eval e X.env)]))(be: ~~~(swapsWith (.Call (.Attribute (.Name x p1) "append" apos) [e] [] ac) none pos.line X.env=pure false))(ai: ~~~(attributeBase (.Name x p1) "append" X.env (eval (.Name x p1) X.env)=eval (.Name x p1) X.env))(aI: ~~~(((backTo ac (starEach [e] X.env)).all (λ x => !x.1)&&(backToKw ac (keywordEach [] X.env)).all (λ x=>x.1.isSome)&&decide (([e]:List Expr).length+([]:List Keyword).length+(if ([]:List Keyword).isEmpty then 0 else 1)<30))=true))(aj: ~~~((apos.endLine==ac.line)=true))(ao: ~~~((backTo ac (starEach [] X.env)).any (·.1)=false)):
 DS X WX (.Expr (.Call (.Attribute (.Name x p1) "append" apos) [e] [] ac) pos) (λ ρ=>cC i ρ (f ρ)):=by
 obtain⟨ta,a1,a2⟩:=ha;refine⟨_,FF (VA zc2 PySem.F.slot_list_append PySem.F.type_list_append SX hv (Ba a1 Ci hs) ai aI aj hs ao) be,λ P0 P σ H Z ρ E h=>?_⟩;dsimp only at h;unfold cC at h;split at h
 ·rename_i ds e1;obtain⟨p,xs,h1,h2,h3,h4,h5⟩:=E.own i ds e1;refine⟨_,h1,.inl ⟨rfl,xs,.of h2⟩,?_⟩;refine a2 P0 P σ H _ ρ E ?_;refine iN h E λ d h=>?_;by_cases hl:ds.length<1000
  ·rw[if_pos hl] at h;intro v H1 s1 hv;have E1:=E.same s1;have gz:H1 p=some (.lst xs):=s1 _ _ h2;refine⟨p,xs,v,rfl,rfl,gz,AF (by rw[h5.length];omega),?_⟩;obtain⟨E2,t2⟩:=E1.grow e1 h1 gz h3 h4 (h5.mono s1.del) hv;exact h _ _ _ ((E.tr s1).trans t2) E2
  ·rw[if_neg hl] at h;exact h.elim
 ·exact h.elim
def Z5 (ha:DE X WX c e f)(hs: ~~~(swapsWith e none pos.line X.env=pure false)):DS X WX (.Expr e pos) (λ ρ=>(f ρ).bind λ _=>.ok (.next ρ)):=by
 obtain⟨ta,a1,a2⟩:=ha;refine⟨_,FF a1 hs,λ P0 P σ H Z ρ E h=>?_⟩;dsimp only at h;refine a2 P0 P σ H _ ρ E ?_;cases q:f ρ with
 |bad=>rw[q] at h;exact h
 |ex x=>rw[q] at h;exact λ H' s=>h H' P (E.tr s)
 |ok d=>rw[q] at h;exact λ v H' s hv=>h _ H' P (E.tr s) (E.same s)
end
abbrev gG (K:za1)(P0:Eh)(P:Addr->Prop)(H:Hp)(Q:St->Hp->Prop):M Ah->Prop
 | .ok ρ=>∀σ',Am K P0 P H σ' ρ->Q σ' H
 |_=>False
abbrev DG (X:Cx)(tg:Expr)(gt:D->Ah->M Ah):Prop:=
 ∃g:TG,PG X tg g/\∀P0 P σ H Q ρ v d,Am X.K P0 P H σ ρ->BQ X.K (del H P) v d->gG X.K P0 P H Q (gt d ρ)->g v σ H Q
abbrev DGs (X:Cx)(xq:List Expr)(gt:List D->Ah->M Ah):Prop:=
 ∃g:eW,xX X xq g/\∀P0 P σ H Q ρ v d,Am X.K P0 P H σ ρ->Ak X.K (del H P) v d->gG X.K P0 P H Q (gt d ρ)->g v σ H Q
structure XR (K:za1)(J:It)(P:Addr->Prop)(H:Hp)(ds:List D):Prop where
 go:∀(i:Nat) P' H',Aj (del H P) (del H' P')->i<ds.length->J.go i H'
 stop:∀(i:Nat) P' H',Aj (del H P) (del H' P')->ds.length<=i->J.stop i H'
 mM:∀(i:Nat) P' H' v d0 d,Aj (del H P) (del H' P')->(∀a,P' a->EY H' a)->ds[i]?=some d->J.mM i H' v d0->Aj H' d0/\BQ K (del d0 P') v d
abbrev DI (X:Cx)(WX:Str->Hp->Prop)(tg iter:Expr)(f:Ah->M (List D)):Prop:=
 ∃wi,PI X tg iter wi/\∀P0 P σ H R ρ,Am X.K P0 P H σ ρ->(match f ρ with | .ok ds=>∀J H',Aj H H'->XR X.K J P H' ds->R J H' | .ex x=>∀H',Aj H H'->WX x H' | .bad=>False)->wi σ H R
abbrev forM (gt:D->Ah->M Ah)(body:Ah->M Out):List D->Ah->M Out
 |[],ρ=>.ok (.next ρ)
 |d::r,ρ=>match gt d ρ with
  | .ok ρ1=>(match body ρ1 with
   | .ok (.next ρ2)| .ok (.cont ρ2)=>forM gt body r ρ2
   | .ok (.brk ρ2)=>.ok (.next ρ2)
   |m=>m)
  |_=>.bad
section
variable {c:Bool}{P0:Eh}{P:Addr->Prop}{a b:Expr}{f:Ah->M D}{gt:D->Ah->M Ah}{d4:List D->Ah->M Ah}{gb:Ah->M Out}
def AS (i:Nat)(hN:X.N.Nodup)(hi:X.N[i]?=some x)(hx:Loc X.env.scope x)(hf:X.fn x=true\/X.env.scope.names.lookup x=some .local:=by first | exact .inl rfl | exact .inr rfl | assumption):DG X (.Name x pos) (λ d ρ=>.ok (ρ.set i (some (.val d)))):=
 ⟨_,Ua hN hi hx hf,λ P0 P σ H Q ρ v d E hv h=>h _ (E.XQ hv)⟩
def Pc:DGs X [] (λ ds ρ=>match ds with | []=>.ok ρ | _=>.bad):=⟨_,YO,λ P0 P σ H Q ρ v d E hv h=>by
 cases hv with
 |nil=>exact⟨rfl,h σ E⟩
 |cons _ _=>exact h.elim⟩
def C7 (h1:DG X e gt)(h2:DGs X es d4)(hs: ~~~((assignEach (e::es) X.env).map (·.2)=assign e X.env::(assignEach es X.env).map (·.2))):
 DGs X (e::es) (λ ds ρ=>match ds with|d::r=>(gt d ρ).bind (d4 r)|[]=>.bad):=by
 obtain⟨t,a1,a2⟩:=h1;obtain⟨u,b1,b2⟩:=h2;refine⟨_,Vr a1 b1 hs,λ P0 P σ H Q ρ v d E hv h=>?_⟩;cases hv with
 |nil=>exact h.elim
 | @cons x d xs ds hx dk =>
  refine⟨x,xs,rfl,a2 P0 P σ H _ ρ x d E hx ?_⟩;dsimp only at h;cases q:gt d ρ with
  |bad|ex y=>rw[q] at h;exact h
  |ok ρ1=>rw[q] at h;exact λ σ' E'=>b2 P0 P σ' H Q ρ1 xs ds E' dk h
def Ur (hc:X.calm=true)(h:DGs X es d4)(hn: ~~~((assignEach es X.env).length=n))(ax: ~~~((assignEach es X.env).findIdx? (·.1)=none)):
 DG X (.Tuple es k pos) (λ d ρ=>match d with | .tup ds=>if ds.length=n then d4 ds ρ else .bad|_=>.bad):=by
 obtain⟨t,a1,a2⟩:=h;refine⟨_,fK hc a1 hn ax,λ P0 P σ H Q ρ v d E hv h=>?_⟩;cases hv with
 | @tup a xs ds hs hl =>
  dsimp only at h;by_cases hd:ds.length=n
  ·rw[if_pos hd] at h;exact⟨a,xs,rfl,FE.of (Al hs).2,by rw[hl.length];exact hd,a2 P0 P σ H Q ρ xs ds E hl h⟩
  ·rw[if_neg hd] at h;exact h.elim
 |_=>exact h.elim
def iO (ha:DE X WX true e f)(hg:DG X tg gt)(hs: ~~~(swapsWithSole [tg] e pos.line X.env=pure false))(hw: ~~~(swappedStores [tg] e X.env=pure none))(h1: ~~~((assignEach [tg] X.env).map (·.2)=[assign tg X.env])):
 DS X WX (.Assign [tg] e pos) (λ ρ=>(f ρ).bind λ d=>match gt d ρ with | .ok ρ'=>.ok (.next ρ')|_=>.bad):=by
 obtain⟨ta,a1,a2⟩:=ha;obtain⟨t,b1,b2⟩:=hg;refine⟨_,fL a1 b1 hs hw h1,λ P0 P σ H Z ρ E h=>?_⟩;dsimp only at h;refine a2 P0 P σ H _ ρ E ?_;refine iN h E λ d h=>?_;intro v H' s hv;refine b2 P0 P σ H' _ ρ v d (E.same s) hv ?_;cases q2:gt d ρ with
 |ok ρ'=>rw[q2] at h;exact λ σ' E'=>h σ' H' P (E.tr s) E'
 |_=>rw[q2] at h;exact h.elim
def B2 (ha:DE X WX true e f):DI X WX tg e (λ ρ=>(f ρ).bind λ d=>match d with | .lst ds=>.ok ds | _=>.bad):=by
 obtain⟨ta,a1,a2⟩:=ha;refine⟨_,mN a1,λ P0 P σ H R ρ E h=>?_⟩;dsimp only at h;refine a2 P0 P σ H _ ρ E ?_;cases q:f ρ with
 |bad|ex x=>rw[q] at h;exact h
 |ok d =>
  rw[q] at h;cases d with
  |lst ds =>
   intro v H1 s1 hv;cases hv with
   | @lst a xs _ hs hl =>
    refine⟨a,rfl,⟨xs,hs.Be⟩,h _ H1 s1 ⟨λ i P' H' s hi=>?_,λ i P' H' s hi=>?_,λ i P' H' v d0 d s ht hd y=>?_⟩⟩
    ·obtain⟨x,hx,_⟩:=hl.get (za7 hi);exact⟨xs,x,(s.seq hs).Be,hx⟩
    ·exact⟨xs,(s.seq hs).Be,by rw[hl.length];exact hi⟩
    ·obtain⟨rfl,y⟩:=y;obtain⟨x,hx,aZ⟩:=hl.get hd;have e:=y xs (s.seq hs).Be;rw[hx] at e;cases e;exact⟨Aj.refl _,aZ.mono s⟩
  |_=>exact h.elim
abbrev CO (lo:Int):Nat->List D
 |0=>[]
 |n+1=>.int lo::CO (lo+1) n
def CP (lo:Int):∀n:Nat,(CO lo n).length=n:=by
 intro n;induction n generalizing lo with
 |zero=>rfl
 |succ n ih=>rw[CO,za8,ih]
def GY {lo}{i:Nat}(h:(CO lo n)[i]?=some d):d=.int (lo+i)/\i<n:=by
 have hi:i<n:=by
  have:=(zaf.mp h).1;rw[CP] at this;exact this
 refine⟨?_,hi⟩;induction n generalizing lo i with
 |zero=>omega
 |succ n ih =>
  cases i with
  |zero=>rw[CO] at h;simp at h;rw[<-h];simp
  |succ i =>
   rw[CO,zaz] at h;rw[ih h (by omega)];congr 1;omega
def XS {K}(lo:Int)(n:Nat):XR K (Itr lo n) P H (CO lo n):=
 ⟨λ i P' H' _ hi=>by rw[CP] at hi;exact hi,λ i P' H' _ hi=>by rw[CP] at hi;exact hi,λ i P' H' v d0 d _ _ hd y=>by
  obtain⟨rfl,rfl⟩:=y;obtain⟨rfl,_⟩:=GY hd;exact⟨Aj.refl _,.int _⟩⟩
abbrev cD:D->M (List D)
 | .int j=>@ite _ (-(2^62)<=j/\j<2^62) (zdd _) (.ok (CO 0 j.toNat)) .bad
 |_=>.bad
def VS (h1 : -(2^62)<=j)(h2:j<2^62):cD (.int j)=.ok (CO 0 j.toNat):=if_pos ⟨h1,h2⟩
def Lo {n:Nat}(h:n<=1000):cD (.int (n:Int))=.ok (CO 0 n):=by
 rw[VS (by omega) (by omega),zbj]
def Gf (hg:Gl X "range")(hm:X.mg "range" = none)(ha:DE X WX c a f)(hs: ~~~(starEach [a] X.env=[(false,eval a X.env)])):
 DI X WX tg (.Call (.Name "range" p) [a] [] pos) (λ ρ=>(f ρ).bind cD):=by
 obtain⟨ta,a1,a2⟩:=ha;refine⟨_,bG hg hm (Ba a1 Ci hs) hs,λ P0 P σ H R ρ E h=>?_⟩;dsimp only at h;refine a2 P0 P σ H _ ρ E ?_;cases q:f ρ with
 |bad|ex x=>rw[q] at h;exact h
 |ok d =>
  rw[q] at h;cases d with
  |int j =>
   simp only[M.A8] at h;by_cases hj : -(2^62)<=j/\j<2^62
   ·rw[VS hj.1 hj.2] at h;exact λ v H1 s1 hv=>⟨j,by rw[hv.int_inv],hj.1,hj.2,h _ H1 s1 (XS 0 _)⟩
   ·have e:cD (.int j)=.bad:=if_neg hj;rw[e] at h;exact h.elim
  |_=>exact h.elim
abbrev HF (k:Nat):List D->List D
 |[]=>[]
 |d::r=>.tup [.int k,d]::HF (k+1) r
def D4 (k:Nat)(ds:List D):(HF k ds).length=ds.length:=by
 induction ds generalizing k with
 |nil=>rfl
 |cons d r ih=>rw[HF,za8,za8,ih]
def Gg {e:D}(h:(HF k ds)[i]?=some e):∃d,ds[i]?=some d/\e=.tup [.int ((k+i:Nat):Int),d]:=by
 induction ds generalizing k i with
 |nil=>rw[HF] at h;simp at h
 |cons d r ih =>
  cases i with
  |zero=>rw[HF] at h;simp at h;exact⟨d,rfl,by rw[<-h];rfl⟩
  |succ i =>
   rw[HF,zaz] at h;obtain⟨d',h1,h2⟩:=ih h;refine⟨d',by simpa using h1,?_⟩;rw[h2];congr 3;omega
def Lp {x1}(hg:Gl X "enumerate")(hm:X.mg "enumerate" = none)(ha:DE X WX true a f)(hb:bootBuiltins "enumerate" = some (.type "enumerate"):=by decide +kernel)(hs: ~~~(starEach [a] X.env=[(false,eval a X.env)])):
 DI X WX (.Tuple cu x1 aT) (.Call (.Name "enumerate" p) [a] [] pos) (λ ρ=>(f ρ).bind λ d=>match d with | .lst ds=>.ok (HF 0 ds)|_=>.bad):=by
 obtain⟨ta,a1,a2⟩:=ha;refine⟨_,nR hg hm (Ba a1 Ci hs) hb hs,λ P0 P σ H R ρ E h=>?_⟩;dsimp only at h;refine a2 P0 P σ H _ ρ E ?_;cases q:f ρ with
 |bad|ex x=>rw[q] at h;exact h
 |ok d =>
  rw[q] at h;cases d with
  |lst ds =>
   intro v H1 s1 hv;cases hv with
   | @lst a xs _ hs hl =>
    refine⟨a,rfl,⟨xs,hs.Be⟩,h _ H1 s1 ⟨λ i P' H' s hi=>?_,λ i P' H' s hi=>?_,λ i P' H' v d0 d s ht hd y=>?_⟩⟩
    ·rw[D4] at hi;obtain⟨x,hx,_⟩:=hl.get (za7 hi);exact⟨xs,x,(s.seq hs).Be,hx⟩
    ·rw[D4] at hi;exact⟨xs,(s.seq hs).Be,by rw[hl.length];exact hi⟩
    ·obtain⟨p,x,hn,rfl,y,rfl⟩:=y;obtain⟨d',c6,rfl⟩:=Gg hd;obtain⟨x',hx,aZ⟩:=hl.get c6;have e:=y xs (s.seq hs).Be;rw[hx] at e;cases e;refine⟨AL hn _,.tup (Lh hn ht) (.cons ?_ (.cons ((aZ.mono s).mono (AL hn _).del) .nil))⟩;rw[Nat.zero_add];exact .int _
  |_=>exact h.elim
def Iv {α:Type}{l:List α}(h:i<l.length):l.drop i=l[i]::l.drop (i+1):=zcl h
def C1 (hp:PassesOwn (model X.prog X.w) X.A X.env X.xe)(hc:X.calm=true)(hi:DI X WX tg iter fi)(hg:DG X tg gt)(hb:Vg X WX body gb)(hs:∀x,foldedSetIterable iter X.env x=pure x:=by intro _;rfl):
 DS X WX (.For tg iter body [] pos) (λ ρ=>(fi ρ).bind λ ds=>forM gt gb ds ρ):=by
 obtain⟨wi,i1,i2⟩:=hi;obtain⟨t,a1,a2⟩:=hg;obtain⟨tb,b1,b2⟩:=hb;refine⟨_,uA hp hc i1 a1 b1 hs,λ P0 P σ H Z ρ E h=>?_⟩;dsimp only at h;refine i2 P0 P σ H _ ρ E ?_;cases q:fi ρ with
 |bad=>rw[q] at h;exact h
 |ex x=>rw[q] at h;exact λ H' s=>h H' P (E.tr s)
 |ok ds =>
  rw[q] at h;simp only[M.A8] at h;intro J H1 s1 ok;refine⟨λ i m σ' H'=>m=ds.length-i/\i<=ds.length/\∃P' ρ',Tr P0 P H1 P' H'/\Am X.K P0 P' H' σ' ρ'/\gS X.K WX P0 P' H' Z (forM gt gb (ds.drop i) ρ'),
   ⟨ds.length,by simp,zbb _,P,ρ,Tr.refl,E.same s1,by rw[zd9];exact h.tr (E.tr s1)⟩,?_⟩
  rintro i m σ' H' ⟨rfl,hi,P',ρ',t',E',g'⟩;by_cases af:i<ds.length
  ·refine .inr ⟨ok.go i P' H' t'.1 af,λ σ2 H2=>i+1<=ds.length/\∃P2 ρ2,Tr P0 P H1 P2 H2/\Am X.K P0 P2 H2 σ2 ρ2/\gS X.K WX P0 P2 H2 Z (forM gt gb (ds.drop (i+1)) ρ2),λ σ2 H2 hq=>⟨ds.length-(i+1),by omega,rfl,hq.1,hq.2⟩,λ v H2 y=>?_⟩;obtain⟨s2,hv⟩:=ok.mM i P' H' v H2 ds[i] t'.1 E'.Cb (za7 af) y;rw[Iv af,forM] at g';have E2:=E'.same s2;refine a2 P0 P' σ' H2 _ ρ' v ds[i] E2 hv ?_;cases q1:gt ds[i] ρ' with
   |bad=>rw[q1] at g';exact g'
   |ex x=>rw[q1] at g';exact g'.elim
   |ok ρ1 =>
    rw[q1] at g';dsimp only at g';intro σ3 E3;refine b2 P0 P' σ3 H2 _ ρ1 E3 ?_;have tt:Tr P0 P H1 P' H2:=t'.trans (E'.tr s2);cases q2:gb ρ1 with
    |bad=>rw[q2] at g';exact g'
    |ex x=>rw[q2] at g';exact gS.tr (m:=.ex x) g' (E'.tr s2)
    |ok o =>
     rw[q2] at g';cases o with
     |ret d=>exact gS.tr (m:=.ok (.ret d)) g' (E'.tr s2)
     |CC d=>exact gS.tr (m:=.ok (.CC d)) g' (E'.tr s2)
     |FX d ρ2=>exact gS.tr (m:=.ok (.FX d ρ2)) g' (E'.tr s2)
     |next ρ2|cont ρ2=>exact λ σ4 H4 P4 t4 E4=>⟨af,P4,ρ2,tt.trans t4,E4,gS.tr g' ((E'.tr s2).trans t4)⟩
     |brk ρ2=>exact λ σ4 H4 P4 t4 E4=>g' σ4 H4 P4 ((E'.tr s2).trans t4) E4
  ·have e:i=ds.length:=by omega
   subst e;refine .inl ⟨ok.stop _ P' H' t'.1 (zag _),?_⟩;rw[zcs,forM] at g';exact g' σ' H' P' Tr.refl E'
end
abbrev XT (K:za1)(n:Nat)(F:List D->M D):Sp:=λ vs H Q _=>vs.length=n/\∃P ds,(∀a,P a->EY H a)/\Ak K (del H P) vs ds/\gV K (λ _ _=>False) P H Q (F ds)
abbrev D5 (N:List Str)(ds:List D):Ah:=ds.map (λ d=>some (.val d))++zak (N.length-ds.length) none
abbrev clD:Cl->M D
 | .val d=>.ok d
 | .own ds=>.ok (.lst ds)
 | .ow (.rows GR)=>.ok (.lst (GR.map D.lst))
 | .ow (.OB _ _)=>.bad
 | .ow (.tree _ t)=>.ok (er t)
abbrev fin (m:M Out):M D:=match m with
 | .ok (.ret d)=>.ok d
 | .ok (.CC c)=>clD c
 | .ok (.next _)=>.ok .Av
 |_=>.bad
def Nj {K}(ht:∀a,P a->EY H a)(h:Ak K (del H P) vs ds):Am K ⟨P,λ _=>0⟩ P H (start N vs) (D5 N ds):=by
 have hl:=h.length;have key:∀(i:Nat) (c:Cl),(D5 N ds)[i]?=some (some c)->∃d,ds[i]?=some d/\c=.val d:=λ i c e=>by
  unfold D5 at e;by_cases hi:i<ds.length
  ·rw[zcb (by simpa using hi),zax] at e;cases q:ds[i]? with
   |none=>rw[q] at e;cases e
   |some d=>rw[q] at e;cases e;exact⟨d,rfl,rfl⟩
  ·rw[zd5 (by simpa using hi),zcq] at e;split at e<;>cases e
 refine⟨λ _ h=>h,ht,λ i d e=>?_,λ i es e io=>?_,λ i j c c' v v' fp ah e _ _ _ ho _ _=>?_,?_,λ i c n e hp=>?_⟩
 rotate_left 4
 ·obtain⟨d',q,z⟩:=key i _ e;cases z;cases hp
 ·obtain⟨d',q,z⟩:=key i _ e;cases z;obtain⟨v,hv,hd⟩:=h.get q;refine⟨v,?_,hd⟩;unfold start;rw[zcb (by rw[za2];exact (zaf.mp hv).1),zax,hv];rfl
 ·obtain⟨d',q,z⟩:=key i _ e;cases z;cases io
 ·obtain⟨d',q,z⟩:=key i _ e;cases z;exact ho.elim
 ·unfold start D5;simp[hl]
def CI (t:Tr P P H P' H'):Aj H H':=λ b o e=>by
 by_cases hb:P b
 ·rw[t.2 b hb];exact e
 ·exact (Al (t.1 b o (by rw[AG hb];exact e))).2
def Df.vK {K:za1}{H:Hp}{P P0:Addr->Prop}(hs:∀a,P0 a->P a):∀ {ps:List Addr}{GR:List (List D)},(∀a∈ps,¬ P0 a)->Df K H P ps GR->Ak K (del H P0) (ps.map V.ref) (GR.map D.lst)
 |_,_,_,.nil=>.nil
 |_,_,k,.cons h r t=>.cons (.lst (.of (show del H P0 _=_ by rw[AG (k _ za3)];exact h)) (r.mono (De hs))) (Df.vK hs (λ a ha=>k a (za4 _ ha)) t)
def nX {K}(h:gV K WX P H Q (clD c))(t':Tr P P H P2 H')(hs:∀a,P a->P2 a)(ht:∀a,P2 a->EY H' a)(ho:Dd K H' P2 c v fp)(hp:∀a∈fp,P2 a/\¬ P a):Q v H':=by
 cases c with
 |val d=>exact ho.elim
 |own ds =>
  obtain⟨p,xs,rfl,rfl,h1,h2⟩:=ho;exact h _ H' (CI t') (.lst (.of (show del H' P p=_ by rw[AG (hp p za3).2];exact h1)) (h2.mono (De hs)))
 |ow o =>
  cases o with
  |rows GR =>
   obtain⟨p,ps,rfl,rfl,h1,h2⟩:=ho;exact h _ H' (CI t') (.lst (.of (show del H' P p=_ by rw[AG (hp p za3).2];exact h1)) (h2.vK hs λ a ha=>(hp a (za4 _ ha)).2))
  |OB p ds=>exact h.elim
  |tree p t=>exact h _ H' (CI t') (C6.has hs (λ a ha=>(hp a ha).2) ho)
section
variable {P:Program}{K:za1}
def aaf {st}(F:eY K x qual st f fd)(S:Ab N ps (A3 st))(g:Ah->M Out)(hb:∀(AZ:Value) (A:Around) (outer:List Env) (s:Shared) (H:Hp) (E:XK),Br k (A.deeper (envOfC qual (A3 st) s.heap.objs.size f AZ))->Vg (Vt nG P w K mg base N qual (A3 st) f AZ A outer s H E).yU (λ _ _=>False) (AE st) g):
 CL P w K mg base nG (k+1) f fd ps (XT K ps.length λ ds=>fin (g (D5 N ds))):=by
 refine F.ok S (λ vs H Q E h=>h.1) λ AZ A outer s H vs Q E hr h=>?_;obtain⟨hl,P',ds,ht,hv,hq⟩:=h;obtain⟨t,h1,h2⟩:=hb AZ A outer s H E hr;refine⟨t,h1,h2 ⟨P',λ _=>0⟩ P' _ H _ _ (Nj ht hv) ?_⟩;dsimp only at hq;revert hq;cases g (D5 N ds) with
 |bad|ex x=>exact λ h=>h.elim
 |ok o =>
  cases o with
  |ret d=>exact λ h v H' P2 t hv=>h v H' (CI t) hv
  |next ρ=>exact λ h σ' H' P2 t E=>h .Av H' (CI t) .Av
  |brk ρ|cont ρ=>exact λ h=>h.elim
  |CC c=>exact λ h v fp H' P2 t hs ht ho hp nd=>nX h t hs ht ho hp
  |FX d ρ=>exact λ h=>h.elim
end
section
variable {c:Bool}{P0:Eh}{P:Addr->Prop}{a b:Expr}{f:Ah->M D}{gt:D->Ah->M Ah}{es:List Expr}{fs:Ah->M (List D)}
abbrev Bf (μ:List (Option Nat))(ρ:Ah):Ah:=μ.map λ o=>o.bind λ i=>match ρ[i]? with | some (some (.val d))=>some (.val d) | _=>none
def JF {j:Nat}(h:(Bf μ ρ)[j]?=some (some cl)):∃i d,μ[j]?=some (some i)/\ρ[i]?=some (some (.val d))/\cl=.val d:=by
 unfold Bf at h;rw[zax] at h;cases q:μ[j]? with
 |none=>rw[q] at h;cases h
 |some o =>
  rw[q] at h;cases o with
  |none=>cases h
  |some i =>
   simp only[zbg,Option.bind_some,Option.some.injEq] at h;split at h
   ·rename_i d e;cases h;exact⟨i,d,rfl,e,rfl⟩
   ·cases h
def Am.block {K}(E:Am K P0 P H σ ρ)(μ:List (Option Nat)):Am K P0 P H (FW μ σ) (Bf μ ρ):=by
 refine⟨E.sub,E.Cb,λ j d h=>?_,λ j ds h io=>?_,λ j k c c' v v' fp ah h _ _ _ ho _ _=>?_,by unfold FW Bf;simp,λ j c n h hp=>by obtain⟨i,d',h1,h2,h3⟩:=JF h;subst h3;cases hp⟩
 ·obtain⟨i,d',h1,h2,h3⟩:=JF h;cases h3;obtain⟨v,h4,h5⟩:=E.val i d h2;refine⟨v,?_,h5⟩;unfold FW;rw[zax,h1];simp[h4]
 ·obtain⟨i,d',h1,h2,h3⟩:=JF h;cases h3;cases io
 ·obtain⟨i,d',h1,h2,h3⟩:=JF h;cases h3;exact ho.elim
abbrev Bb (gt:D->Ah->M Ah)(ft:Ah->M Bool)(fe:Ah->M D):List D->Ah->M (List D)
 |[],_=>.ok []
 |d::r,ρ=>match gt d ρ with
  | .ok ρ1=>(match ft ρ1 with
   | .ok k=>if k=true then (match fe ρ1 with
    | .ok y=>(match Bb gt ft fe r ρ with | .ok ys=>.ok (y::ys)|_=>.bad)
    |_=>.bad) else Bb gt ft fe r ρ
   |_=>.bad)
  |_=>.bad
abbrev yC (X:Cx)(scope:Scope)(NB:List Str)(μ:List (Option Nat))(tg:Expr)(gt:D->Ah->M Ah):Prop:=
 ∃g:TG,(∀s H C ex,PG (blockOf X s H scope C NB ex) tg g)/\Nc μ g/\∀P0 P σ H Q ρ v d,Am X.K P0 P H σ ρ->BQ X.K (del H P) v d->gG X.K P0 P H Q (gt d ρ)->g v σ H Q
def BI (i:Nat)(hN:NB.Nodup)(hi:NB[i]?=some x)(hx:(relabel scope X.env).names.lookup x=some .local)(hm:μ[i]?=some none):yC X scope NB μ (.Name x pos) (λ d ρ=>.ok (ρ.set i (some (.val d)))):=
 ⟨SQ i,λ s H C ex=>Ua (X:=blockOf X s H scope C NB ex) hN hi (.inl hx) (.inr hx),nQ hm,λ P0 P σ H Q ρ v d E hv h=>h _ (E.XQ hv)⟩
abbrev yD (X:Cx)(cs:List Expr)(f:Ah->M Bool):Prop:=
 ∃t,yA X cs t/\∀P0 P σ H Q ρ,Am X.K P0 P H σ ρ->gT (λ _ _=>False) H Q (f ρ)->t σ H Q
def DY:yD X [] (λ _=>.ok true):=⟨_,nN,λ P0 P σ H Q ρ E h=>h H (Aj.refl H)⟩
def EE (h:DT X (λ _ _=>False) a ft):yD X [a] ft:=let ⟨t,h1,h2⟩:=h;⟨_,nO h1,h2⟩
abbrev Lq (m:M (List D)):M D:=match m with | .ok ys=>.ok (.lst ys) | _=>.bad
def vL (i2:∀P0 P σ H R ρ,Am X.K P0 P H σ ρ->(match fi ρ with | .ok ds=>∀J H',Aj H H'->XR X.K J P H' ds->R J H' | .ex x=>∀H',Aj H H'->WX x H' | .bad=>False)->wi σ H R)(g2:∀P0 P σ H Q ρ v d,Am X.K P0 P H σ ρ->BQ X.K (del H P) v d->gG X.K P0 P H Q (gt d ρ)->gg v σ H Q)(t2:∀s H' C ex P0 P σ H Q ρ,Am X.K P0 P H σ ρ->gT (λ _ _=>False) H Q (ft ρ)->tc s H' C ex σ H Q)(e2:∀s H' C ex P0 P σ H Q ρ,Am X.K P0 P H σ ρ->gV X.K (λ _ _=>False) (Lv c P0 P) H Q (fe ρ)->te s H' C ex σ H Q)(E:Am X.K P0 P H σ ρ)(h:gV X.K WX (Lv c P0 P) H Q ((fi ρ).bind λ ds=>if ds.length<=1000 then Lq (Bb gt ft fe ds (Bf μ ρ)) else .bad)):VM wi μ gg tc te σ H Q:=by
 refine i2 P0 P σ H _ ρ E ?_;cases q:fi ρ with
 |bad|ex x=>rw[q] at h;exact h
 |ok ds =>
  rw[q] at h;simp only[M.A8] at h;by_cases hd:¬ ds.length<=1000
  ·rw[if_neg hd] at h;exact h.elim
  have hd:ds.length<=1000:=by omega
  rw[if_pos hd] at h;intro J H1 s1 ok s C ex;cases qc:Bb gt ft fe ds (Bf μ ρ) with
  |bad|ex x=>rw[qc] at h;exact h.elim
  |ok total =>
   rw[qc] at h;unfold Lq at h;dsimp only at h;have E1:=E.same s1;refine⟨λ i m ys H2=>m=ds.length-i/\i<=ds.length/\ys.length<=i/\Aj H1 H2/\∃es rest,Ak X.K (del H2 (Lv c P0 P)) ys es/\Bb gt ft fe (ds.drop i) (Bf μ ρ)=.ok rest/\es++rest=total,
    ⟨ds.length,by simp,zbb _,zag _,Aj.refl _,[],total,.nil,by rw[zd9];exact qc,rfl⟩,?_⟩
   rintro i m ys H2 ⟨rfl,hi,hy,s2,es,rest,ci,ae,a9⟩;by_cases af:i<ds.length
   ·refine .inr ⟨ok.go i P H2 s2.del af,Nat.lt_of_le_of_lt hy (AF (by omega)),λ aR H'=>i+1<=ds.length/\aR.length<=i+1/\Aj H1 H'/\∃es rest,Ak X.K (del H' (Lv c P0 P)) aR es/\Bb gt ft fe (ds.drop (i+1)) (Bf μ ρ)=.ok rest/\es++rest=total,λ aR H' hq=>⟨ds.length-(i+1),by omega,rfl,hq.1,hq.2.1,hq.2.2.1,hq.2.2.2⟩,λ v H3 y=>?_⟩;have E2:=E1.same s2;obtain⟨s3,hv⟩:=ok.mM i P H2 v H3 ds[i] s2.del E2.Cb (za7 af) y;rw[Iv af,Bb] at ae;have E3:=(E2.same s3).block μ;refine g2 P0 P _ H3 _ (Bf μ ρ) v ds[i] E3 hv ?_;cases q1:gt ds[i] (Bf μ ρ) with
    |bad|ex x=>rw[q1] at ae;cases ae
    |ok ρ1 =>
     rw[q1] at ae;dsimp only at ae;intro σ4 E4;refine t2 s H1 C ex P0 P σ4 H3 _ ρ1 E4 ?_;cases q2:ft ρ1 with
     |bad|ex x=>rw[q2] at ae;cases ae
     |ok k =>
      rw[q2] at ae;dsimp only at ae;intro H5 s5;cases k with
      |false =>
       simp only[zb1,if_false] at ae ⊢;exact⟨af,by omega,(s2.trans s3).trans s5,es,rest,(ci.mono s3.del).mono s5.del,ae,a9⟩
      |true =>
       simp only[if_true] at ae ⊢;refine e2 s H1 C ex P0 P σ4 H5 _ ρ1 (E4.same s5) ?_;cases q3:fe ρ1 with
       |bad|ex x=>rw[q3] at ae;cases ae
       |ok y' =>
        rw[q3] at ae;dsimp only at ae;cases q4:Bb gt ft fe (ds.drop (i+1)) (Bf μ ρ) with
        |bad|ex x=>rw[q4] at ae;cases ae
        |ok kb =>
         rw[q4] at ae;cases ae;intro w H6 s6 hw;refine⟨af,by rw[zai,zbk];omega,((s2.trans s3).trans s5).trans s6,es++[y'],kb,(((ci.mono s3.del).mono s5.del).mono s6.del).snoc hw,rfl,?_⟩;rw[zbi];exact a9
   ·have e:i=ds.length:=by omega
    subst e;rw[zcs,Bb] at ae;cases ae;rw[zba] at a9;subst a9;refine .inl ⟨ok.stop _ P H2 s2.del (zag _),λ D0 hn=>h _ _ ((s1.trans s2).trans (AL hn _)) (.lst (.of (Lh hn λ a q=>(E1.same s2).zV c a q)) (ci.mono (AL hn _).del))⟩
def Lr (i:Nat)(μ:List (Option Nat))(hN:X.N.Nodup)(j6:X.N[i]?=some x)(hx:Loc X.env.scope x)(hc:X.calm=true)(hi:DI X WX tg iter fi)(av:Ia scope X.env.scope=true)(bd:Sl X.N NB scope μ=true)(hg:yC X scope NB μ tg gt)(ht:∀s H C ex,yD (blockOf X s H scope C NB ex) ifs ft)(he:∀s H C ex,DE (blockOf X s H scope C NB ex) (λ _ _=>False) true elt fe)(be: ~~~(swapsWith (.ListComp elt [⟨tg,iter,ifs,0⟩] scope pos) (some (.Name x px)) az.line X.env=pure true))(hs:∀x,foldedSetIterable iter X.env x=pure x:=by intro _;rfl)(hf:X.fn x=true\/X.env.scope.names.lookup x=some .local:=by first|exact .inl rfl|exact .inr rfl|assumption):
 DS X WX (.Assign [.Name x px] (.ListComp elt [⟨tg,iter,ifs,0⟩] scope pos) az) (λ ρ=>((fi ρ).bind λ ds=>if ds.length<=1000 then Lq (Bb gt ft fe ds (Bf μ ρ)) else .bad).bind λ d=>.ok (.next (ρ.set i (some (.val d))))):=by
 obtain⟨wi,i1,i2⟩:=hi;obtain⟨gg,g1,gk,g2⟩:=hg;refine⟨_,YZ hN j6 hx hc i1 av bd gk (λ s H C ex=>⟨g1 s H C ex,(za0 (ht s H C ex)).1,(za0 (he s H C ex)).1⟩) be hs hf,λ P0 P σ H Z ρ E h=>?_⟩;refine vL (c:=true) i2 g2 (λ s H' C ex P0 P σ H Q ρ E h=>(za0 (ht s H' C ex)).2 P0 P σ H Q ρ E h) (λ s H' C ex P0 P σ H Q ρ E h=>(za0 (he s H' C ex)).2 P0 P σ H Q ρ E h) E ?_;dsimp only at h;revert h;cases ((fi ρ).bind λ ds=>if ds.length<=1000 then Lq (Bb gt ft fe ds (Bf μ ρ)) else .bad) with
 |bad=>exact λ h=>h
 |ex y=>exact λ h H' s=>h H' P (E.tr s)
 |ok d=>exact λ h v H' s hv=>h _ H' P (E.tr s) ((E.same s).XQ hv)
end
section
variable {c:Bool}{P0:Eh}{P:Addr->Prop}{a b k:Expr}{f:Ah->M D}{te tk:TE}{p2:Pos}
abbrev acR (x y:D):M D:=match x,y with | .lst ds,.int i=>if i = -1 then .ok (.lst ds.reverse) else .bad | _,_=>.bad
abbrev Dh:List D->Option (List Int)
 |[]=>some []
 | .int i::r=>(Dh r).map (i::·)
 |_=>none
abbrev iP:D->Option (List Int)
 | .tup ds=>Dh ds
 |_=>none
abbrev Iw:List D->Option (List (D×List Int))
 |[]=>some []
 |d::r=>(iP d).bind λ k=>(Iw r).map ((d,k)::·)
abbrev Z6 (l d:D):M D:=match l with
 | .lst ds=>(match Iw ds with|some ks=>.ok (match Bj ks with|none=>d|some b=>b.1)|none=>.bad)
 |_=>.bad
def Nk {K:za1}{H:Hp}:∀ {xs:List V}{ds:List D}{ns:List Int},Ak K H xs ds->Dh ds=some ns->xs=ns.map V.int
 |_,_,_,.nil,e=>by simp only[Dh] at e;cases e;rfl
 |_,_,_,.cons (d:=d) h t,e=>by
  cases d with
  |int i =>
   simp only[Dh] at e;cases q:Dh _ with
   |none=>rw[q] at e;cases e
   |some ns =>
    rw[q] at e;cases e;rw[h.int_inv,Nk t q];rfl
  |_=>simp[Dh] at e
noncomputable abbrev Alike (K:za1)(H:Hp):List (Addr×List Int)->List (D×List Int)->Prop:=Paired λ p q=>p.2=q.2/\BQ K H (.ref p.1) q.1
def KL {K:za1}{H:Hp}:∀ {xs:List V}{ds:List D}{ks:List (D×List Int)},Ak K H xs ds->Iw ds=some ks->∃bs:List (Addr×List Int),xs=bs.map (λ b=>V.ref b.1)/\(∀b∈bs,FE K H b.1 (b.2.map V.int))/\Alike K H bs ks
 |_,_,_,.nil,e=>by simp only[Iw] at e;cases e;exact⟨[],rfl,by simp,.nil⟩
 |_,_,_,.cons (d:=d) h t,e=>by
  simp only[Iw] at e;cases q:iP d with
  |none=>rw[q] at e;cases e
  |some k =>
   rw[q] at e;simp only[Option.bind_some] at e;cases q2:Iw _ with
   |none=>rw[q2] at e;cases e
   |some ks =>
    rw[q2] at e;cases e;obtain⟨bs,h1,h2,h3⟩:=KL t q2;cases d with
    |tup es =>
     have h':=h;cases h with
     | @tup a xs _ hs hl =>
      simp only[iP] at q;have e1:=Nk hl q;subst e1;refine⟨(a,k)::bs,by rw[h1];rfl,λ b hb=>?_,.cons ⟨rfl,h'⟩ h3⟩;rcases zac.mp hb with z|z
      ·subst z;exact FE.of hs
      ·exact h2 b z
    |_=>simp[iP] at q
def Qi {K}(h:Alike K H bs ks):(Bj bs=none/\Bj ks=none)\/∃b k,Bj bs=some b/\Bj ks=some k/\b.2=k.2/\BQ K H (.ref b.1) k.1:=by
 unfold Bj
 suffices z:∀(o:Option (Addr×List Int)) (o':Option (D×List Int)),((o=none/\o'=none)\/∃b k,o=some b/\o'=some k/\b.2=k.2/\BQ K H (.ref b.1) k.1)->
  ((bs.foldl BY o=none/\ks.foldl BY o'=none) \/
   ∃b k,bs.foldl BY o=some b/\ks.foldl BY o'=some k/\b.2=k.2/\BQ K H (.ref b.1) k.1) from z none none (.inl ⟨rfl,rfl⟩)
 induction h with
 |nil=>intro o o' h;exact h
 | @cons b k bs ks hh t ih =>
  intro o o' h;rw[zam,zam];refine ih _ _ ?_;rcases h with ⟨rfl,rfl⟩|⟨b',k',rfl,rfl,e1,e2⟩
  ·exact .inr ⟨b,k,rfl,rfl,hh⟩
  ·unfold BY;dsimp only;rw[hh.1,e1];by_cases hl:HT.lexLt k.2 k'.2=true
   ·rw[if_pos hl,if_pos hl];exact .inr ⟨b,k,rfl,rfl,hh⟩
   ·rw[if_neg hl,if_neg hl];exact .inr ⟨b',k',rfl,rfl,e1,e2⟩
def nY (hc:X.calm=true)(hu:X.A.units+1<cLine)(hg:Gl X "min")(hm:X.mg "min" = none)(ha:DE X WX c e f)(hb:DE X WX c e2 g)(ax: ~~~(starEach [e] X.env=[(false,eval e X.env)]))(a7: ~~~((backToKw pos (keywordEach [⟨some "default",e2,kp⟩] X.env)).all (·.1.isSome)=true))(gy: ~~~((backToKw pos (keywordEach [⟨some "default",e2,kp⟩] X.env)).filterMap (·.1)=([("default" : Str)]:List Str)))(qy: ~~~((backToKw pos (keywordEach [⟨some "default",e2,kp⟩] X.env)).any (·.1.isNone)=false))(cz: ~~~(backTo pos (starEach [e] X.env)=(false,eval e X.env)::backTo pos (starEach [] X.env)))(hpl: ~~~((backTo pos (starEach [e] X.env)).any (·.1)=false)):
 DE X WX c (.Call (.Name "min" p) [e] [⟨some "default",e2,kp⟩] pos) (λ ρ=>(f ρ).bind λ x=>(g ρ).bind λ y=>Z6 x y):=by
 obtain⟨ta,a1,a2⟩:=ha;obtain⟨tb,b1,b2⟩:=hb;refine⟨_,nS hc hu hg hm a1 b1 ax a7 gy qy cz hpl,λ P0 P σ H Q ρ E h=>VQ (r:=λ x d H2 Q=>∃(a:Addr) (bs:List (Addr×List Int)),x=.ref a/\DU X.K H2 a (bs.map λ b=>V.ref b.1)/\(∀b∈bs,FE X.K H2 b.1 (b.2.map V.int))/\Q (match Bj bs with|none=>d|some b=>.ref b.1) H2) a2 b2 ?_ E h⟩;intro P H x y v w Q ht hx hy h;unfold Z6 at h;split at h
 ·rename_i ds;split at h
  ·rename_i ks e1;cases hx with
   | @lst a xs _ hs hl =>
    obtain⟨bs,rfl,h2,h3⟩:=KL hl e1;refine⟨a,bs,rfl,hs.Be,λ b hb=>(h2 b hb).Be,?_⟩;rcases Qi h3 with ⟨q1,q2⟩|⟨b,k,q1,q2,_,q3⟩
    ·rw[q1];rw[q2] at h;exact h _ H (Aj.refl H) hy
    ·rw[q1];rw[q2] at h;exact h _ H (Aj.refl H) q3
  ·exact h.elim
 ·exact h.elim
end
def huR (hr:Br k A)(n:Nat)(hn:n<=64):A.units+n<cLine:=by have:=hr.units;omega
structure Ay (K:za1)(mg:Str->Option Value)(x:Str)(st:Stmt)(ps:List Str):Prop where
 ex:∃f fd,eY K x x st f fd/\mg x=some (.ref f)/\Binds K fd ps []
def iQ (ds:List D)(n:Nat):rT none (some (n:Int)) (.lst ds)=.ok (.lst (ds.take n)):=by
 unfold rT;dsimp only;rw[HT.Vy,HT.P9,zd9,Nat.sub_zero];congr 2;rw[Nat.min_def];split
 ·rfl
 ·rw[zci (zag _),zci (by omega)]
abbrev S6 (P:Program)(w:World)(base:Heap):YQ:=λ _ _ _ _ _ _=>False
noncomputable abbrev mC (P:Program)(w:World)(K:za1)(mg:Str->Option Value)(base:Heap)(N:List Str)(qual:Str)(scope:Scope)(f:Addr)(cd:Value)(A:Around)(outer:List Env)(s:Shared)(H:Hp)(E:XK):Cx:=
 Vt (S6 P w base) P w K mg base N qual scope f cd A outer s H E
structure Gh (X:Cx)(E:XK):Prop where
 call:FU (S6 X.prog X.w X.base) X E
 own:PassesOwn (model X.prog X.w) X.A X.env X.xe
def A7 {K}{E}:
 Gh (mC P w K mg base N qual scope f cd A outer s H E) E:=⟨λ _ _ _ _ _ _ _ h=>h.elim,PassesOwn.leaving⟩
def BK (h:X.xe=λ _ _=>False):Gh X E0:=⟨λ _ _ _ _ _ _ _ h=>h.elim,by rw[h];exact PassesOwn.never⟩
def Gh.toXCall {E}(h:Gh X E):Gh X E:=h
abbrev CQ (K:za1)(E:XK):Str->Hp->Prop:=λ x H=>∃c,zau K mainGlobals x=some (some (.ref c))/\E (.ref c) none H
section
variable {c:Bool}{a b:Expr}{f:Ah->M D}{p:Pos}
abbrev rV (K:za1):R2:=λ x y H Q=>∃l b xs zs,x=.ref l/\y=.ref b/\DU K H l xs/\DU K H b zs/\xs.length+zs.length<=sizeLine/\∀p,H p=none->Q (.ref p) (upd H p (.lst (xs++zs)))
def nZ:GN X (binaryOp .Add) (rV X.K):=by
 intro pins s σ H x y v u Q I rx ry h;obtain⟨l,b,xs,zs,rfl,rfl,h1,h2,hz,q⟩:=h;cases rx;cases ry;obtain⟨aa,r,⟨⟨c1,d1,t1,xr⟩,n,e1,q1,q2,q3⟩,c7⟩:=I.list h1;obtain⟨aL,r2,⟨⟨c2,d2,t2,jx⟩,n2,e2,q4,q5,q6⟩,hz2⟩:=I.list h2;dsimp only at q1 q2 q3 q4 q5 q6;subst q1 q2 q3 q4 q5 q6;have l1:=r.length;have l2:=r2.length;refine concat_meets ⟨_,e1,rfl⟩ ⟨_,e2,rfl⟩ noFill_list_add seq_list_add PySem.F.slot_list_add PySem.F.entry_list_add (PySem.F.args_list_add_2 _ _) (list_addW l b aa.toArray aL.toArray n n2 none none xr jx (by rw[zab,zab];omega)) ⟨e1,e2,?_⟩;rw[show aa.toArray++aL.toArray=(aa++aL).toArray by simp];exact⟨.ref _,_,I.zM (t':=s.toks) (r.append r2) (by rw[zai];omega),rfl,q _ I.fresh⟩
abbrev acv (x y:D):M D:=match x,y with
 | .int i,.int j=>.ok (.int (i+j))
 | .lst ds,.lst es=>if ds.length+es.length<=1000 then .ok (.lst (ds++es)) else .bad
 |_,_=>.bad
def Ak.app {K:za1}{H:Hp}:∀ {xs ys:List V}{ds es:List D},Ak K H xs ds->Ak K H ys es->Ak K H (xs++ys) (ds++es)
 |_,_,_,_,.nil,h=>h
 |_,_,_,_,.cons a t,h=>.cons a (t.app h)
abbrev dIn (neg:Bool)(x y:D):M D:=match x,y with
 | .int i,.lst ds=>(match Dh ds with|some ns=>.ok (.bl (if neg then !ns.contains i else ns.contains i))|none=>.bad)
 |_,_=>.bad
def iR (i:Int)(ns:List Int):inV (.int i) (ns.map V.int)=ns.contains i:=by
 unfold inV;induction ns with
 |nil=>rfl
 |cons n r ih =>
  rw[za6,zd4,ih,List.contains_cons];congr 1;show (n==i)=(i==n);rw[zcp,beq_iff_eq,beq_iff_eq];exact eq_comm
def cE (ns:List Int):(ns.map V.int).all Lb=true:=by
 induction ns with
 |nil=>rfl
 |cons n r ih=>rw[za6,List.all_cons,ih];rfl
def Iy:Z4 X.K WX (rIn X.K neg) (dIn neg):=by
 intro P H x y v w Q ht hx hy h;unfold dIn at h;split at h
 ·rename_i i ds;split at h
  ·rename_i ns hn;cases hx;cases hy with
   |lst h1 h2 =>
    have e:=Nk h2 hn;subst e;refine⟨_,_,rfl,.inl h1.Be,rfl,cE ns,?_⟩;rw[iR];exact h _ H (Aj.refl H) (.bl _)
  ·exact h.elim
 ·exact h.elim
end
def Qj {st}:DS X WX st (λ _=>.bad):=⟨λ _ _ _=>False,λ _ _ _ _ _ _ h=>h.elim,λ _ _ _ _ _ _ _ h=>h.elim⟩
abbrev VT (i j:Int):Prop:=(i.natAbs<2^1000/\j.natAbs<2^1000)\/fQ i j
instance (i j:Int):Decidable (VT i j):=by unfold VT;infer_instance
def Ta (h:i.natAbs<2^1000):zbw i<=2^20:=by
 unfold zbw;split
 ·exact zbb _
 ·rename_i z;have h0:i.natAbs≠0:=λ q=>z (by rw[Int.natAbs_eq_zero.mp q];rfl);have:=(Nat.log2_lt h0).mpr h;have h3:(1000:Nat)<=2^20:=by decide
  exact zbv this h3
def VT.ok (h:VT i j):IntMulOk i j:=by
 rcases h with ⟨h1,h2⟩|h
 ·exact IntMulOk.of_bits (Ta h1) (Ta h2)
 ·exact h.ok
def Qk (n:Nat):CO 0 n=(zb9 n).map λ i:Nat=>D.int (i:Int):=by
 apply zd3;intro i;rw[zax];by_cases h:i<n
 ·have hi:i<(CO 0 n).length:=by rw[CP];exact h
  have e:=za7 hi;obtain⟨h1,_⟩:=GY e;rw[e,h1,List.getElem?_range h,Int.zero_add];rfl
 ·rw[zbp (by rw[CP];omega),zbp (by simp;omega)];rfl
def Gi (ns:List Int):Dh (ns.map D.int)=some ns:=by
 induction ns with
 |nil=>rfl
 |cons n r ih=>rw[za6,Dh,ih];rfl
def iS (ds:List D)(n:Nat):rT (some (n:Int)) none (.lst ds)=.ok (.lst (ds.drop n)):=by
 unfold rT;dsimp only;rw[HT.Vy,HT.P9];congr 2;by_cases h:n<=ds.length
 ·rw[Nat.min_eq_left h,zci (by rw[zck];exact zag _)]
 ·rw[Nat.min_eq_right (by omega),List.drop_of_length_le (zag _),List.drop_of_length_le (by omega),List.take_nil]
abbrev Pl (n:Nat)(d:D):Prop:=Ul d<=n/\CB d=true
def Us:∀ {ds:List D},(∀d∈ds,Ul d<=n)->Um ds<=n
 |[],_=>by rw[Um];exact zbb _
 |d::r,h=>by
  rw[Um];exact Nat.max_le.mpr ⟨h d za3,Us λ d hd=>h d (za4 _ hd)⟩
def Ut:∀ {ds:List D},(∀d∈ds,CB d=true)->Nf ds=true
 |[],_=>by rw[Nf]
 |d::r,h=>by
  rw[Nf,h d za3,Ut λ d hd=>h d (za4 _ hd)];rfl
def Cu (i:Int):Pl n (.int i):=⟨by rw[Ul];exact zbb _;all_goals simp,by rw[CB];all_goals simp⟩
def iT:Pl n .Av:=⟨by rw[Ul];exact zbb _;all_goals simp,by rw[CB];all_goals simp⟩
def Uu (h:∀d∈ds,Pl n d):Pl (n+1) (.tup ds):=
 ⟨by rw[Ul];exact Nat.succ_le_succ (Us λ d hd=>(h d hd).1),by rw[CB];exact Ut λ d hd=>(h d hd).2⟩
def Ql (h:∀d∈ds,Pl n d):Pl (n+1) (.lst ds):=
 ⟨by rw[Ul];exact Nat.succ_le_succ (Us λ d hd=>(h d hd).1),by rw[CB];exact Ut λ d hd=>(h d hd).2⟩
def Pd (ns:List Int):Pl (n+1) (.lst (ns.map D.int)):=Ql λ d hd=>by
 obtain⟨i,_,rfl⟩:=zaq.mp hd;exact Cu i
def Pl.le (h:Pl n d)(k:n<=m):Pl m d:=⟨zbv h.1 k,h.2⟩
def Uv:∀d∈([]:List D),Pl n d:=λ d h=>by cases h
def DZ (h:Pl n d)(t:∀d∈ds,Pl n d):∀e∈d::ds,Pl n e:=λ e he=>by
 rcases zac.mp he with rfl|he
 ·exact h
 ·exact t e he
def Qm (h:Pl n x)(k:Pl n y):bY n x y=.ok (.bl (Bw x y)):=by
 unfold bY;rw[if_pos ⟨h.1,h.2,k.2⟩]
def Qn (h:Pl n x)(k:Pl n y):Xk n x y=.ok (.bl (!Bw x y)):=by
 unfold Xk;rw[if_pos ⟨h.1,h.2,k.2⟩]
def Qo (h:Pl n x):Xk n x x=.ok (.bl false):=by rw[Qn h h,Qe];rfl
def oA (ds:List D)(a b:Nat):rT (some (a:Int)) (some (b:Int)) (.lst ds)=.ok (.lst ((ds.drop a).take (b-a))):=by
 unfold rT;dsimp only;rw[HT.P9,HT.P9];congr 2;by_cases h:a<=ds.length
 ·rw[Nat.min_eq_left h];by_cases h2:b<=ds.length
  ·rw[Nat.min_eq_left h2]
  ·rw[Nat.min_eq_right (by omega),zci (by rw[zck];exact zag _),zci (by rw[zck];omega)]
 ·rw[Nat.min_eq_right (show ds.length<=a by omega),List.drop_of_length_le (zag _),List.drop_of_length_le (show ds.length<=a by omega),List.take_nil,List.take_nil]
section
variable {c:Bool}{P0:Eh}{P:Addr->Prop}{a b:Expr}{f:Ah->M D}{st:Stmt}{rest:List Stmt}
def VU {K}(h:BQ K H v d):∀n:Nat,Ak K H (zak n v) (zak n d)
 |0=>.nil
 |n+1=>by rw[zc8,zc8];exact .cons h (VU h n)
def VW {K}(h:BQ K H v d):∀ {vs:List V}{ds:List D}(n:Nat),Ak K H vs ds->Ak K H (vs.set n v) (ds.set n d)
 |_,_,_,.nil=>.nil
 |_,_,0,.cons _ t=>.cons h t
 |_,_,n+1,.cons a t=>.cons a (VW h n t)
abbrev acS (i:Nat)(ρ:Ah)(d k:D):M Out:=match k with
 | .int j=>if 0<=j/\j.toNat<=1000 then .ok (.next (ρ.set i (some (.own (zak j.toNat d))))) else .bad
 |_=>.bad
def Tb {α:Type}(v:α):∀n:Nat,(zak n [v]).flatten=zak n v
 |0=>rfl
 |n+1=>by rw[zc8,List.flatten_cons,Tb v n];rfl
abbrev vM (i:Nat)(ρ:Ah)(ds:List D)(d k:D):M Out:=match k with
 | .int j=>(match YS ds.length j with|some n=>.ok (.next (ρ.set i (some (.own (ds.set n d)))))|none=>.bad)
 |_=>.bad
abbrev oB (i:Nat)(ρ:Ah)(m:M D)(d:D):M Out:=match ρ[i]? with
 |some (some (.own ds))=>m.bind (vM i ρ ds d)
 |_=>.bad
def XU (i:Nat)(hv:PE X (.Name x p1) (Sf i))(ha:DE X WX true a f)(hk:DE X WX true b g)(hs: ~~~(swapsWithSole [.Subscript (.Name x p1) b az] a pos.line X.env=pure false))(hw: ~~~(swappedStores [.Subscript (.Name x p1) b az] a X.env=pure none))(h1: ~~~((assignEach [.Subscript (.Name x p1) b az] X.env).map (·.2)=[assign (.Subscript (.Name x p1) b az) X.env]))(rf:∀v,assign (.Subscript (.Name x p1) b az) X.env v=(do
  let ov <-holding [v] (eval (.Name x p1) X.env);let iv <-holding [v,ov] (eval b X.env)
  standAt az
  holding [v,ov,iv] (setItem ov iv v)
  release [v,ov,iv] []):=by intro _;rfl):
 DS X WX (.Assign [.Subscript (.Name x p1) b az] a pos) (λ ρ=>(f ρ).bind (oB i ρ (g ρ))):=by
 obtain⟨ta,a1,a2⟩:=ha;obtain⟨tb,b1,b2⟩:=hk;refine⟨_,fL a1 (tX hv b1 set_list rf) hs hw h1,λ P0 P σ H Z ρ E h=>?_⟩;dsimp only at h;refine a2 P0 P σ H _ ρ E ?_;refine iN h E λ d h=>?_;intro v H1 s1 hv;have E1:=E.same s1;unfold oB at h;split at h
 ·rename_i ds e1;obtain⟨p,xs,h1,h2,h3,h4,h5⟩:=E1.own i ds e1;refine⟨_,h1,b2 P0 P σ H1 _ ρ E1 ?_⟩;cases q2:g ρ with
  |bad=>rw[q2] at h;exact h.elim
  |ex x=>rw[q2] at h;exact λ H' s2=>h H' P ((E.tr s1).trans (E1.tr s2))
  |ok k =>
   rw[q2] at h;simp only[M.A8] at h;unfold vM at h;intro w H2 s2 hw;split at h
   ·rename_i j;cases hw;split at h
    ·rename_i n en;have E2:=E1.same s2;refine⟨p,xs,j,n,rfl,rfl,s2 _ _ h2,by rw[h5.length];exact en,?_⟩;obtain⟨E3,t3⟩:=E2.mut e1 h1 h3 h4 (VW (hv.mono s2.del) n (h5.mono s2.del));exact h _ _ _ ((E.tr s1).trans ((E1.tr s2).trans t3)) E3
    ·exact h.elim
   ·exact h.elim
 ·exact h.elim
abbrev AA (c:Ah->M Bool)(b:Ah->M Out):Nat->Ah->M Out
 |0,_=>.bad
 |n+1,ρ=>match c ρ with
  | .ok true=>(match b ρ with
   | .ok (.next ρ')| .ok (.cont ρ')=>AA c b n ρ'
   | .ok (.brk ρ')=>.ok (.next ρ')
   |r=>r)
  | .ok false=>.ok (.next ρ)
  | .ex x=>.ex x
  | .bad=>.bad
abbrev NY (c:Ah->M Bool)(b:Ah->M Out)(ρ:Ah):M Out:=
 @dite _ (∃n,AA c b n ρ≠.bad) (zdd _) (λ h=>AA c b (za5 h) ρ) (λ _=>.bad)
def D6 {c}{b}:∀ {n:Nat}{ρ:Ah},AA c b n ρ≠.bad->∀m,AA c b (n+m) ρ=AA c b n ρ
 |0,ρ,h,m=>(h rfl).elim
 |n+1,ρ,h,m=>by
  rw[show n+1+m=(n+m)+1 by omega];rw[AA] at h;rw[AA,AA];cases q:c ρ with
  |bad|ex x=>rfl
  |ok k =>
   rw[q] at h;cases k with
   |false=>rfl
   |true =>
    dsimp only at h ⊢;cases q2:b ρ with
    |bad|ex x=>rfl
    |ok o =>
     rw[q2] at h;cases o with
     |next ρ'=>dsimp only at h ⊢;exact D6 h m
     |cont ρ'=>dsimp only at h ⊢;exact D6 h m
     |brk ρ'=>rfl
     |ret d|CC d|FX d ρ2=>rfl
def iU {c}{b}(h:AA c b n ρ≠.bad):NY c b ρ=AA c b n ρ:=by
 unfold NY;have hx:∃n,AA c b n ρ≠.bad:=⟨n,h⟩;rw[dif_pos hx];have hc:=za0 hx;have e1:=D6 h (za5 hx);have e2:=D6 hc n;rw[Nat.add_comm] at e2;rw[<-e1,e2]
def cF {c}{b}(h:NY c b ρ≠.bad):∃n,AA c b n ρ≠.bad/\NY c b ρ=AA c b n ρ:=by
 by_cases hx:∃n,AA c b n ρ≠.bad
 ·obtain⟨n,hn⟩:=hx;exact⟨n,hn,iU hn⟩
 ·exact (h (by unfold NY;rw[dif_neg hx])).elim
def aah {K}(h:gS K WX P0 P H Z m):m≠.bad:=λ e=>by rw[e] at h;exact h
def Ls (hp:PassesOwn (model X.prog X.w) X.A X.env X.xe)(hc:DT X WX a ft)(hb:Vg X WX body g1):DS X WX (.While a body [] pos) (NY ft g1):=by
 obtain⟨tc,c1,c2⟩:=hc;obtain⟨tb,b1,b2⟩:=hb;refine⟨_,fM hp c1 b1,λ P0 P σ H Z ρ E h=>?_⟩;obtain⟨n,hn,en⟩:=cF (aah h);rw[en] at h;refine⟨λ m σ' H'=>∃ρ' P',Am X.K P0 P' H' σ' ρ'/\Tr P0 P H P' H'/\gS X.K WX P0 P' H' Z (AA ft g1 m ρ'),⟨n,ρ,P,E,Tr.refl,h⟩,?_⟩;rintro m σ1 H1 ⟨ρ1,P1,E1,t1,h1⟩;cases m with
 |zero=>exact h1.elim
 |succ m =>
  rw[AA] at h1;refine c2 P0 P1 σ1 H1 _ ρ1 E1 ?_;cases q:ft ρ1 with
  |bad=>rw[q] at h1;exact h1
  |ex x=>rw[q] at h1;exact λ H2 s2=>h1 H2 P1 (E1.tr s2)
  |ok k =>
   rw[q] at h1;intro H2 s2;have E2:=E1.same s2;cases k with
   |false =>
    rw[if_neg (by simp)];exact h1 σ1 H2 P1 (E1.tr s2) E2
   |true =>
    rw[if_pos rfl];dsimp only at h1;refine⟨λ σ' H'=>∃ρ' P',Am X.K P0 P' H' σ' ρ'/\Tr P0 P H P' H'/\gS X.K WX P0 P' H' Z (AA ft g1 m ρ'),λ σ' H' z=>⟨m,Nat.lt_succ_self m,z⟩,?_⟩;refine b2 P0 P1 σ1 H2 _ ρ1 E2 ?_;cases q2:g1 ρ1 with
    |bad=>rw[q2] at h1;exact h1
    |ex x=>rw[q2] at h1;exact λ H3 P3 t3=>h1 H3 P3 ((E1.tr s2).trans t3)
    |ok o =>
     rw[q2] at h1;have t2:=t1.trans (E1.tr s2);cases o with
     |next ρ'=>exact λ σ3 H3 P3 t3 E3=>⟨ρ',P3,E3,t2.trans t3,h1.tr ((E1.tr s2).trans t3)⟩
     |cont ρ'=>exact λ σ3 H3 P3 t3 E3=>⟨ρ',P3,E3,t2.trans t3,h1.tr ((E1.tr s2).trans t3)⟩
     |brk ρ'=>exact λ σ3 H3 P3 t3 E3=>h1 σ3 H3 P3 ((E1.tr s2).trans t3) E3
     |ret d=>exact λ v H3 P3 t3 hv=>h1 v H3 P3 ((E1.tr s2).trans t3) hv
     |CC d=>exact λ v fp H3 P3 t3=>h1 v fp H3 P3 ((E1.tr s2).trans t3)
     |FX d ρ2=>exact λ v fp σ3 H3 P3 t3=>h1 v fp σ3 H3 P3 ((E1.tr s2).trans t3)
abbrev Z7 (ds:List D):M D:=match ds with
 |[.int i]=>.ok (.int i)
 |[.bl b]=>.ok (.int (if b then 1 else 0))
 |_=>.bad
def oC:Ll X.K WX (λ xs H Q=>(∃i,xs=[.int i]/\Q (.int i) H)\/∃k,xs=[.bl k]/\Q (.int (if k then 1 else 0)) H) Z7:=by
 intro P H ds vs Q ht hl h;unfold Z7 at h;split at h
 ·obtain⟨v,rfl,hv⟩:=hl.one;cases hv;exact .inl ⟨_,rfl,h _ H (Aj.refl H) (.int _)⟩
 ·obtain⟨v,rfl,hv⟩:=hl.one;cases hv;exact .inr ⟨_,rfl,h _ H (Aj.refl H) (.int _)⟩
 ·exact h.elim
def oE (hg:Gl X "int")(hm:X.mg "int" = none)(ha:DE X WX c e f)(hb:bootBuiltins "int" = some (.type "int"):=by decide +kernel)(hs: ~~~(starEach [e] X.env=[(false,eval e X.env)])):DE X WX c (.Call (.Name "int" p) [e] [] pos) (λ ρ=>((f ρ).bind λ d=>(M.ok []).bind λ ds=>.ok (d::ds)).bind Z7):=
 T9 bI oC hg hm hb (A1 ha A6 hs) (he:=hs)
abbrev Iz:List D->Option (List Bool)
 |[]=>some []
 | .bl b::r=>(Iz r).map (b::·)
 |_=>none
def Qp (bs:List Bool):Iz (bs.map D.bl)=some bs:=by
 induction bs with
 |nil=>rfl
 |cons b r ih=>rw[za6,Iz,ih];rfl
def Qq:∀ {ds:List D}{bs:List Bool},Iz ds=some bs->ds=bs.map D.bl
 |[],bs,h=>by cases h;rfl
 | .bl b::r,bs,h=>by
  rw[Iz] at h;cases q:Iz r with
  |none=>rw[q] at h;cases h
  |some xt=>rw[q] at h;cases h;rw[Qq q];rfl
 | .Av::r,bs,h| .int _::r,bs,h| .str _::r,bs,h| .tup _::r,bs,h| .lst _::r,bs,h| .N5 _::r,bs,h| .BE _ _ _::r,bs,h| .ins _ _ _::r,bs,h=>by cases h
def Qr {K}:∀ {vs:List V}{bs:List Bool},Ak K H vs (bs.map D.bl)->vs=bs.map V.bl
 |_,[],.nil=>rfl
 |_,b::r,.cons h t=>by cases h;rw[Qr t];rfl
def Qs:∀ {bs:List Bool}{us:List Value},Vals (bs.map V.bl) us->LSm.BoolsAre us bs
 |[],_,.nil=>.nil
 |b::r,_,.cons h t=>by cases h;exact .cons b (Qs t)
def Qt (hc:X.calm=true):Gd X (.builtin "all") (λ xs H Q=>∃p bs,xs=[.ref p]/\DU X.K H p (List.map V.bl bs)/\Q (.bl (bs.all id)) H):=by
 intro pins s σ H xs us Q I r h;obtain⟨p,bs,rfl,hq,q⟩:=h;obtain⟨u,rfl,rx⟩:=vals1 r;cases rx;obtain⟨aa,r',pl,hz⟩:=I.list hq;have hl:=pl.isList;have hb:=Qs r';have af:p<s.heap.objs.size:=by obtain⟨_,e,_⟩:=hl;exact zaj e
 refine call_all_walk (wpAny_pyIter_list hl ?_);refine⟨s.heap.objs.size,[s.heap.objs.size,p],[s.heap.objs.size],aa.toArray.size,_,_,λ i=>(bs[i]?).getD true,rfl,Walks.list (A:=X.A.in1) (I.ok.hd hc) _ p (zar af) aa.toArray,
  ⟨⟨_,zap _ rfl,rfl,rfl⟩,hl.push _⟩,λ i v s' Q' E' hP hQ=>?_,λ h' tk hk=>?_⟩
 ·obtain⟨b,e,rfl⟩:=hb.get i v (by simpa using hP);simp only[e,Option.getD_some] at hQ;exact wpAny_truthy_bool hQ
 ·have e:((zb9 aa.toArray.size).all λ i=>(bs[i]?).getD true)=bs.all id:=by
   rw[zab,hb.length];exact LSm.range_all bs
  rw[e];exact⟨.bl _,H,I.kept (t':=tk) (LSm.kept_iter hk),rfl,q⟩
abbrev cG (ds:List D):M D:=match ds with
 |[.lst xs]=>(match Iz xs with|some bs=>.ok (.bl (bs.all id))|none=>.bad)
 |_=>.bad
def vN:Ll X.K WX (λ xs H Q=>∃p bs,xs=[.ref p]/\DU X.K H p (List.map V.bl bs)/\Q (.bl (bs.all id)) H) cG:=by
 intro P H ds vs Q ht hl h;unfold cG at h;split at h
 ·rename_i xs;obtain⟨v,rfl,hv⟩:=hl.one;split at h
  ·rename_i bs eb;have:=Qq eb;subst this;cases hv with
   |lst hs hh =>
    have:=Qr hh;subst this;exact⟨_,bs,rfl,hs.Be,h _ H (Aj.refl H) (.bl _)⟩
  ·exact h.elim
 ·exact h.elim
def iV (hc:X.calm=true)(hg:Gl X "all")(hm:X.mg "all" = none)(ha:DE X WX c e f)(hb:bootBuiltins "all" = some (.builtin "all"):=by decide +kernel)(hs: ~~~(starEach [e] X.env=[(false,eval e X.env)])):DE X WX c (.Call (.Name "all" p) [e] [] pos) (λ ρ=>((f ρ).bind λ d=>(M.ok []).bind λ ds=>.ok (d::ds)).bind cG):=
 Lm (Qt hc) vN hg hm hb (A1 ha A6 hs) (he:=hs)
end
abbrev Sm (n:Int):Prop:=zbw n<=2^20
def iW:∀ {ns:List Int},W.WData.weightAll (ns.map W.WData.int)<=2^20->∀n∈ns,Sm n
 |m::r,h,n,hn=>by
  rw[za6,W.WData.weightAll,W.WData.weight] at h;rcases zac.mp hn with rfl|hn
  ·unfold Sm zbw;omega
  ·exact iW (by omega) n hn
def aai {ns:List Int}(h:W.WData.layableAll [W.WData.list (ns.map W.WData.int)]=true):∀n∈ns,Sm n:=by
 unfold W.WData.layableAll at h;rw[List.all_cons,zb6] at h;have h1:=h.1;unfold W.WData.layable at h1;rw[zb6,decide_eq_true_eq,W.WData.weight] at h1;exact iW h1.2
end L2
namespace HT
open PySem PySem.W PyProof.Rows Spec Calls vd
def Tc {l:OpenLaw}(hn:l.most=some n)(h8:d.params.defaults=[])(run:∀(w:World) (s₀ s₁:Shared) (mg mb:Str->Option Value) (fa:Addr) (o:Obj) (pm cd doc:Value) (a:Addr) (vs:List Value) (ns:List Int),(∀n∈ns,L2.Sm n)->
  Ground q loose [] XP w s₀ mg mb s₁.heap->YP w s₁.heap->s₁.heap.get? fa=some o->o.data=.func (docDef d.name d.params d.body d.scope pm cd doc)->s₁.heap.CodeRec cd d.name->mg d.name=some (.ref fa)->
  s₁.heap.get? a=some {cls:=.type "list",data:=.seq vs.toArray}->IntsAre vs ns->ns.length<=n->s₁.gens=#[]->
  codeAny (model l.prog w) callerA (.call (.ref fa) ⟨[.ref a],[]⟩) (λ r s'=>r=.ok (.ret (.bool true))/\OldK s₁.heap s'.heap/\s'.os=s₁.os/\AllBare s'.gens) s₁):
 WalkO q loose XP YP l.row.toRowW d [] (λ f vs=>PySem.call f vs):=by
 intro w s₀ s₁ mg mb G Y fa o pm cd doc dV kV ho hd aQ hD h9 hg args vals as dq rh aN gn hlo;obtain rfl:dV=.none:=Dflts.none hD h8;obtain rfl:kV=.none:=Dflts.noKw hD;obtain⟨a,vs,ns,rfl,rfl,c8,bh,hlen⟩:=bP hn dq gn;refine enter_call (codeAny_mono (run w s₀ s₁ mg mb fa o pm cd doc a vs ns (L2.aai rh) G Y ho (fd_plain hd) aQ h9 c8 bh hlen hg) λ r s' hq=>?_);obtain⟨rfl,h2,h3,h4⟩:=hq;exact⟨.inl ⟨.bool true,.bool true,[],rfl,λ _=>rfl,.bool true,bQ l _,λ _=>⟨List.Pairwise.nil,λ _ hm=>(nomatch hm)⟩⟩,h2,h3,h4⟩
end HT
namespace L2
open PySem PySem.Spec PyProof.Rows
def aa7 {l:PySem.W.OpenLaw}{K:Params->za1}{CX:World->YQ}{sp:World->Sp}(hn:l.most=some n)(a8:n<=sizeLine)(h8:d.params.defaults=[])(hr:Br k callerA)(hY:∀(w:World) (h:Heap),YP w h->(K w.params).In h)(F:∀(w:World) (mg:Str->Option Value) (fa:Addr) (h:Heap),(K w.params).In h->h.Ns mainGlobals mg->mg d.name=some (.ref fa)->∃fd:FuncData,(∀(s:Shared) (u:Value),BindsTo s fd ⟨[u],[]⟩ [(x,u)])/\
  ∀base:Heap,(K w.params).In base->base.Ns mainGlobals mg->CL l.prog w (K w.params) mg base (CX w) k fa fd [x] (sp w))(b7:∀(w:World) (H:Hp) (a:Addr) (ns:List Int),(∀n∈ns,Sm n)->ns.length<=n->nF H->DU (K w.params) H a (ns.map V.int)->sp w [.ref a] H (λ v _=>v=.bl true) λ _ _ _=>False)(j1:∀(w:World) (H:Hp) (s:Shared) (e:Value) (s':Shared),CX w [] H s (λ _ _ _=>False) e s'->False):PySem.W.WalkO q loose XP YP l.row.toRowW d [] (λ f vs=>PySem.call f vs):=by
 refine HT.Tc hn h8 λ w s₀ s₁ mg mb fa o pm cd doc a vs ns aW G Y ho hd aQ h9 c8 bh hlen hg=>?_;have KX:=hY w _ Y;obtain⟨fd,hb,hF⟩:=F w mg fa _ KX G.T.g h9;exact VD KX G.T.g G.T.b G.T.builtins G.T.nolimit hg c8 bh (zbv hlen a8) hr hF hb (λ H hO hS=>b7 w H a ns aW hlen hO hS) λ H e s'=>j1 w H s₁ e s'
variable {X:Cx}{WX:Str->Hp->Prop}{c:Bool}{P0:Eh}{P P':Addr->Prop}{H H':Hp}{σ:St}{ρ ρ':Ah}{a b e:Expr}{f g g2:Ah->M D}{pos:Pos}{fn:Ah->M OT}{es:List Expr}{mg:Str->Option Value}{base:Heap}{E:XK}{ft:Ah->M Bool}{gt:D->Ah->M Ah}{fx:Ah->M (Ah×OT)}
def oF (h:∀ns:List Int,ns.length<=63->(∀n∈ns,Sm n)->F [.lst (ns.map D.int)]=.ok (.bl true))(K:za1)(H:Hp)(a:Addr)(ns:List Int)(aW:∀n∈ns,Sm n)(hl:ns.length<=63)(hS:DU K H a (ns.map V.int)):XT K 1 F [.ref a] H (λ v _=>v=.bl true) λ _ _ _=>False:=by
 refine⟨rfl,λ _=>False,[.lst (ns.map D.int)],λ _ z=>z.elim,.cons (.lst ?_ (Ak.ints ns)) .nil,?_⟩
 ·have e:del H (λ _=>False)=H:=by funext b;exact AG (λ z=>z)
  rw[e];exact hS
 ·rw[h ns hl aW];exact λ v H' s hv=>hv.Qf
abbrev Td (i j:Int):Prop:=(zbw i<=2^20+1/\zbw j<=2^10)\/VT i j
def cH {a b}(h:zbw a+zbw b<=2^21):IntMulOk a b:=by
 have e:(2:Nat)^21=2097152:=by decide
 have h2:Builtin.Int.intTooBig (zbw a+zbw b)=false:=by
  unfold Builtin.Int.intTooBig bitsLine;exact decide_eq_false (by omega)
 unfold IntMulOk;rw[h2];simp
def Td.ok (h:Td i j):IntMulOk i j:=by
 rcases h with ⟨h1,h2⟩|h
 ·exact cH (by omega)
 ·exact h.ok
def oG:GN X (binaryOp .Mult) (rI Td λ i j=>.int (i*j)):=opI λ _ _ _ _ _ _ _ hc q=>mul_int q hc.ok
noncomputable instance (i j:Int):Decidable (Td i j):=zdd _
abbrev IA:=Bk λ i j=>if Td i j then .ok (.int (i*j)) else .bad
def F1 (h:Td i j):IA (.int i) (.int j)=.ok (.int (i*j)):=by
 unfold IA Bk;dsimp only;rw[if_pos h]
def JG (ha:DE X WX c a f)(hb:DE X WX c b g):DE X WX c (.BinOp a .Mult b pos) (λ ρ=>(f ρ).bind λ x=>(g ρ).bind λ y=>IA x y):=T8 oG (Uo λ _ _ _ _=>.int _) ha hb
mutual
noncomputable def Lu:D->Bool
 | .tup a=>Lw a
 | .lst _| .N5 _| .BE _ _ _| .ins _ _ _=>false
 |_=>true
noncomputable def Lw:List D->Bool
 |[]=>true
 |a::r=>Lu a&&Lw r
end
def Z8 {P0}{a}(ht:∀a,P a->EY H a)(h:del H P0 a=some (.tup xs)):del H P a=some (.tup xs):=by
 obtain⟨h1,h2⟩:=Al h;rw[AG λ z=>by
  obtain⟨o',q,r⟩:=ht a z;rw[h2] at q;cases q;exact (r xs).1 rfl]
 exact h2
mutual
theorem BQ.Lu {K:za1}{H:Hp}{P0 P:Addr->Prop}(ht:∀a,P a->EY H a):∀ {v:V}{d:D},Lu d=true->BQ K (del H P0) v d->BQ K (del H P) v d
 |_,_,_,.Av=>.Av
 |_,_,_,.bl b=>.bl b
 |_,_,_,.int i=>.int i
 |_,_,_,.str x=>.str x
 |_,_,n,.tup h r=>.tup (Z8 ht h) (Ak.Lu ht (by rw[L2.Lu] at n;exact n) r)
 |_,_,n,.lst h r|_,_,n,.N5 h r|_,_,n,.Vf h r|_,_,n,.VN h r|_,_,n,.ins _ h r=>by rw[L2.Lu] at n;cases n
theorem Ak.Lu {K:za1}{H:Hp}{P0 P:Addr->Prop}(ht:∀a,P a->EY H a):∀ {vs:List V}{ds:List D},Lw ds=true->Ak K (del H P0) vs ds->Ak K (del H P) vs ds:=by
 intro _ _ n x_;cases x_ with
 |nil=>exact .nil
 |cons h t =>
  rw[Lw,zb6] at n;exact .cons (BQ.Lu ht n.1 h) (Ak.Lu ht n.2 t)
end
abbrev dp (m:M D):M D:=m.bind λ d=>if Lu d=true then .ok d else .bad
def Z9 (h:DE X WX false e f):DE X WX true e (λ ρ=>dp (f ρ)):=by
 obtain⟨t,h1,h2⟩:=h;refine⟨t,h1,λ P0 P σ H Q ρ E g=>h2 P0 P σ H Q ρ E ?_⟩;unfold dp at g;dsimp only at g;cases e:f ρ with
 |ok d =>
  rw[e] at g;simp only[M.A8] at g;by_cases hf:Lu d=true
  ·rw[if_pos hf] at g;exact λ v H' s hv=>g v H' s (hv.Lu (E.same s).Cb hf)
  ·rw[if_neg hf] at g;exact g.elim
 |ex x|bad=>rw[e] at g;exact g
section
variable {α:Type}(lt:α->α->Prop)
abbrev S7:List α->List α->Prop
 |y::ys,x::xs=>(lt y x/\ys.length=xs.length)\/(y=x/\S7 ys xs)
 |_,_=>False
def S7.len:∀ {ys xs:List α},S7 lt ys xs->ys.length=xs.length
 |y::ys,x::xs,h=>by
  rcases h with ⟨_,h⟩|⟨_,h⟩
  ·rw[za8,za8,h]
  ·rw[za8,za8,S7.len h]
 |[],[],h|[],_::_,h|_::_,[],h=>h.elim
def iX (n:Nat)(ih:∀xs:List α,xs.length=n->Acc (S7 lt) xs){x:α}(hx:Acc lt x):∀ {xs:List α},xs.length=n->Acc (S7 lt) xs->Acc (S7 lt) (x::xs):=by
 induction hx with
 |intro x _ xu =>
  intro xs hl dk;induction dk with
  |intro xs _ rj =>
   refine .intro _ λ zs h=>?_;cases zs with
   |nil=>exact h.elim
   |cons y ys =>
    rcases h with ⟨h1,h2⟩|⟨h1,h2⟩
    ·exact xu y h1 (h2.trans hl) (ih ys (h2.trans hl))
    ·subst h1;exact rj ys h2 ((S7.len lt h2).trans hl)
def Qu (h:∀x,Acc lt x):∀(n:Nat) (xs:List α),xs.length=n->Acc (S7 lt) xs
 |0,[],_=>.intro _ λ zs h=>by cases zs<;>exact h.elim
 |n+1,x::xs,e=>iX lt n (Qu h n) (h x) (by simpa using e) (Qu h n xs (by simpa using e))
def Za:∀ {xs:List α}{i:Nat}{y:α}{x:α},xs[i]?=some x->lt y x->S7 lt (xs.set i y) xs
 |[],_,_,_,h,_=>by cases h
 |z::zs,0,y,x,h,hl=>by
  cases h;exact .inl ⟨hl,rfl⟩
 |z::zs,i+1,y,x,h,hl=>.inr ⟨rfl,Za (by simpa using h) hl⟩
def S7.trans (ht:∀a b c,lt a b->lt b c->lt a c):∀ {xs ys zs:List α},S7 lt xs ys->S7 lt ys zs->S7 lt xs zs
 |x::xs,y::ys,z::zs,h1,h2=>by
  rcases h1 with ⟨a,b⟩|⟨rfl,b⟩
  ·rcases h2 with ⟨c,d⟩|⟨rfl,d⟩
   ·exact .inl ⟨ht _ _ _ a c,b.trans d⟩
   ·exact .inl ⟨a,b.trans (S7.len lt d)⟩
  ·rcases h2 with ⟨c,d⟩|⟨rfl,d⟩
   ·exact .inl ⟨c,(S7.len lt b).trans d⟩
   ·exact .inr ⟨rfl,S7.trans ht b d⟩
 |[],_,_,h,_|_::_,[],_,h,_|_::_,_::_,[],_,h=>by cases h
end
def iY (h:YS m k=some n):n<m:=by
 unfold YS at h;split at h
 ·split at h
  ·cases h;omega
  ·cases h
 ·split at h
  ·cases h;omega
  ·cases h
def Gj:∀ {ds:List D}{ns:List Int},Dh ds=some ns->ds=ns.map D.int
 |[],ns,h=>by cases h;rfl
 | .int b::r,bs,h=>by
  rw[Dh] at h;cases q:Dh r with
  |none=>rw[q] at h;cases h
  |some xt=>rw[q] at h;cases h;rw[Gj q];rfl
 | .Av::r,bs,h| .bl _::r,bs,h| .str _::r,bs,h| .tup _::r,bs,h| .lst _::r,bs,h| .N5 _::r,bs,h| .BE _ _ _::r,bs,h| .ins _ _ _::r,bs,h=>by cases h
def F2 {K}:∀ {vs:List V}{bs:List Int},Ak K H vs (bs.map D.int)->vs=bs.map V.int
 |_,[],.nil=>rfl
 |_,b::r,.cons h t=>by cases h;rw[F2 t];rfl
abbrev gN (K:za1)(P:Addr->Prop)(H:Hp)(Q:VK):M Cl->Prop
 | .ok c=>∀v fp H' P',Aj H H'->(∀a,P a->P' a)->(∀a,P' a->EY H' a)->Aj (del H P) (del H' P')->Dd K H' P' c v fp->(∀a∈fp,P' a/\H a=none)->fp.Nodup->Q v H'
 |_=>False
abbrev spN (K:za1)(n:Nat)(F:List D->M Cl):Sp:=λ vs H Q _=>vs.length=n/\∃P ds,(∀a,P a->EY H a)/\Ak K (del H P) vs ds/\gN K P H Q (F ds)
def vP (t:Tr P P H P2 H'){a}(h:P2 a)(hn:¬ P a):H a=none:=by
 cases q:H a with
 |none=>rfl
 |some o =>
  have:=t.1 a o (by rw[AG hn];exact q);exact ((Al this).1 h).elim
abbrev oH:V->List V->Hp->VK->Prop:=λ x vs H Q=>∃(l:Addr) (xs:List V) (k:Nat) (y:V),x=.ref l/\vs=[.int (k:Int),y]/\H l=some (.lst xs)/\k<=xs.length/\xs.length<sizeLine/\Q .Av (upd H l (.lst (xs.take k++y::xs.drop k)))
def VX:∀ {xs:List V}{us:List Value}{y:V}{w:Value},Vals xs us->∀k:Nat,RelV y w->Vals (xs.take k++y::xs.drop k) (us.take k++w::us.drop k)
 |_,_,_,_,r,0,h=>.cons h r
 |_,_,_,_,.nil,k+1,h=>.cons h .nil
 |_,_,_,_,.cons a t,k+1,h=>.cons a (VX t k h)
def iZ {E}(x:Int)(u:Tok)(y:Value)(hc:¬(!Builtin.List.listFitsIndex x)=true)(hs:items.size<=sizeLine)(e:s.heap.get? l=some {cls:=.type "list",data:=.seq items n})(h:Q .none {s with heap:=s.heap.update l (Obj.mapSeq λ xs=>(xs.extract 0 (if x<0 then (x+(xs.size:Int)).toNat else min x.toNat xs.size)).push y++xs.extract (if x<0 then (x+(xs.size:Int)).toNat else min x.toNat xs.size)),toks:=s.toks}):wpAny (model prog wd) A (call (.builtin "list.insert") [.ref l,.int x u,y]) Q E s:=by
 have hm:=PySem.AutoSeq1.list_insert_list_int_val_1 l items n x u y hc hs;have ha:=PySem.F.args_list_insert_3 (.ref l) (.int x u) y;exact call_meets PySem.F.slot_list_insert ⟨_,e,rfl⟩ PySem.F.entry_list_insert ha hm ⟨e,h⟩
def cI:xZ X "list.insert" oH:=by
 intro pins s σ H x vs v us Q I rx rv h;obtain⟨l,xs,k,y,rfl,rfl,hH,hk,hz,q⟩:=h;cases rx;obtain⟨u,w,rfl,ru,aU⟩:=rv.two;obtain⟨tk,rfl⟩:=ru;obtain⟨z,aa,n,r,hl,e⟩:=I.VB hH;have hlen:=r.length;have h63:=N7;have gm:¬ (!Builtin.List.listFitsIndex (k:Int))=true:=by
  unfold Builtin.List.listFitsIndex;simp;omega
 have hsz:aa.toArray.size<=sizeLine:=by rw[zab,<-hl];exact zbq hz
 refine iZ (k:Int) tk w gm hsz e ?_;refine⟨.Av,_,I.bN (its':=aa.take k++w::aa.drop k) hH e ?_ ?_ ?_,rfl,q⟩
 ·have e1:¬ ((k:Int)<0):=by omega
  have e2:min (k:Int).toNat aa.toArray.size=k:=by rw[zbj,zab];omega
  simp only[e1,if_false,e2];apply Array.toList_inj.mp;simp;rw[zci (by rw[zck];exact zag _)]
 ·exact VX r k aU
 ·rw[zai,za8,zbh,zck];omega
abbrev cJ (i:Nat)(ρ:Ah)(mk md:M D):M Out:=match ρ[i]? with
 |some (some (.own ds))=>mk.bind λ k=>md.bind λ d=>match k with
  | .int j=>if 0<=j/\j.toNat<=ds.length/\ds.length<1000 then .ok (.next (ρ.set i (some (.own (ds.take j.toNat++d::ds.drop j.toNat))))) else .bad
  |_=>.bad
 |_=>.bad
def Nl {K}:∀ {vs:List V}{ds:List D}(n:Nat),Ak K H vs ds->Ak K H (vs.take n) (ds.take n)
 |_,_,0,_=>by rw[List.take_zero,List.take_zero];exact .nil
 |_,_,_+1,.nil=>.nil
 |_,_,n+1,.cons h t=>by rw[List.take_succ_cons,List.take_succ_cons];exact .cons h (Nl n t)
def Te {K}:∀ {vs:List V}{ds:List D}(n:Nat),Ak K H vs ds->Ak K H (vs.drop n) (ds.drop n)
 |_,_,0,h=>h
 |_,_,_+1,.nil=>.nil
 |_,_,n+1,.cons h t=>by rw[List.drop_succ_cons,List.drop_succ_cons];exact Te n t
def VY {K:za1}{H:Hp}:∀ {vs ws:List V}{ds es:List D},Ak K H vs ds->Ak K H ws es->Ak K H (vs++ws) (ds++es)
 |_,_,_,_,.nil,k=>k
 |_,_,_,_,.cons h t,k=>.cons h (VY t k)
def Tf (i:Nat)(hv:PE X (.Name x p1) (Sf i))(hk:DE X WX true a f)(hd:DE X WX true b g)(hs: ~~~(starEach [a,b] X.env=(false,eval a X.env)::starEach [b] X.env))(aB: ~~~(starEach [b] X.env=[(false,eval b X.env)]))(be: ~~~(swapsWith (.Call (.Attribute (.Name x p1) "insert" apos) [a,b] [] ac) none pos.line X.env=pure false))(ai: ~~~(attributeBase (.Name x p1) "insert" X.env (eval (.Name x p1) X.env)=eval (.Name x p1) X.env))(aI: ~~~(((backTo ac (starEach [a,b] X.env)).all (λ x => !x.1)&&(backToKw ac (keywordEach [] X.env)).all (λ x=>x.1.isSome)&&decide (([a,b]:List Expr).length+([]:List Keyword).length+(if ([]:List Keyword).isEmpty then 0 else 1)<30))=true))(aj: ~~~((apos.endLine==ac.line)=true))(ao: ~~~((backTo ac (starEach [b] X.env)).any (·.1)=false)):
 DS X WX (.Expr (.Call (.Attribute (.Name x p1) "insert" apos) [a,b] [] ac) pos) (λ ρ=>cJ i ρ (f ρ) (g ρ)):=by
 obtain⟨ta,a1,a2⟩:=hk;obtain⟨tb,b1,b2⟩:=hd;refine⟨_,FF (VA zc2 PySem.F.slot_list_insert PySem.F.type_list_insert cI hv (Ba a1 (Ba b1 Ci aB) hs) ai aI aj hs ao) be,λ P0 P σ H Z ρ E h=>?_⟩;dsimp only at h;unfold cJ at h;split at h
 ·rename_i ds e1;obtain⟨p,xs,h1,h2,h3,h4,h5⟩:=E.own i ds e1;refine⟨_,h1,.inl ⟨rfl,xs,.of h2⟩,a2 P0 P σ H _ ρ E ?_⟩;refine iN h E λ k h=>?_;intro w H1 s1 hw;have E1:=E.same s1;refine b2 P0 P σ H1 _ ρ E1 ?_;cases q2:g ρ with
  |bad=>rw[q2] at h;exact h
  |ex y=>rw[q2] at h;exact λ H' s=>h H' P ((E.tr s1).trans (E1.tr s))
  |ok d =>
   rw[q2] at h;simp only[M.A8] at h;intro v H2 s2 xv;have E2:=E1.same s2;have rm:=s1.trans s2;split at h
   ·rename_i j;cases hw;by_cases hj:0<=j/\j.toNat<=ds.length/\ds.length<1000
    ·rw[if_pos hj] at h;have xw:((j.toNat:Nat):Int)=j:=Int.toNat_of_nonneg hj.1;have vn:=h5.mono rm.del;refine⟨p,xs,j.toNat,v,rfl,by rw[xw],rm _ _ h2,by rw[h5.length];exact hj.2.1,AF (by rw[h5.length];exact zbq hj.2.2),?_⟩;obtain⟨E3,t3⟩:=E2.mut e1 h1 h3 h4 (VY (Nl j.toNat vn) (.cons xv (Te j.toNat vn)));exact h _ _ _ ((E.tr rm).trans t3) E3
    ·rw[if_neg hj] at h;exact h.elim
   ·exact h.elim
 ·exact h.elim
abbrev aaj (ds:List D):M D:=match ds with
 |[.lst xs]=>(match Iz xs with|some bs=>.ok (.bl (bs.any id))|none=>.bad)
 |_=>.bad
abbrev kids:OT->List OT
 | .sh _=>[]
 | .lst ts| .tup ts| .BE _ _ ts| .ins _ _ ts=>ts
abbrev Pe:OT->List OT->OT
 | .sh d,_=>.sh d
 | .lst _,ts=>.lst ts
 | .tup _,ts=>.tup ts
 | .BE b ks _,ts=>.BE b ks ts
 | .ins x ns _,ts=>.ins x ns ts
abbrev Nm:OT->List Nat->Option OT
 |t,[]=>some t
 |t,j::π=>match (kids t)[j]? with|some s=>Nm s π|none=>none
abbrev F3:OT->List Nat->OT->OT
 |_,[],u=>u
 |t,j::π,u=>match (kids t)[j]? with|some s=>Pe t ((kids t).set j (F3 s π u))|none=>t
@[simp] theorem Qv (t:OT):Nm t []=some t:=by unfold Nm;rfl
@[simp] theorem E6 (t u:OT):F3 t [] u=u:=by unfold F3;rfl
def cK (h:(kids t)[j]?=some s):Nm t (j::π)=Nm s π:=by rw[Nm,h]
def cL (h:(kids t)[j]?=some s):F3 t (j::π) u=Pe t ((kids t).set j (F3 s π u)):=by rw[F3,h]
section
variable {K:za1}
abbrev CD (K:za1)(H:Hp)(P:Addr->Prop)(v:V)(t:OT)(q:List Addr)(xs:List V):Prop:=match t with
 | .sh _=>False
 | .lst ts=>∃p,v=.ref p/\q=[p]/\H p=some (.lst xs)
 | .tup ts=>∃p,v=.ref p/\q=[]/\del H P p=some (.tup xs)
 | .BE false ks ts=>∃p kvs,v=.ref p/\q=[p]/\H p=some (.dK kvs)/\ks=(kvs.map λ kv=>Cz kv.1)/\xs=kvs.map zbs
 | .BE true ks ts=>∃p kvs,v=.ref p/\q=[p]/\H p=some (.dT kvs)/\ks=(kvs.map λ kv=>.tup (kv.1.map Cz))/\xs=kvs.map zbs
 | .ins x ns ts=>∃p C dx fs,v=.ref p/\q=[p]/\zau K mainGlobals x=some (some (.ref C))/\H p=some (.ins C dx fs)/\ns=fs.map zb0/\xs=fs.map zbs
def CD.own (h:CD K H P v t q xs)(r:Ax K H P xs (kids t) fp):C6 K H P v t (q++fp):=by
 cases t with
 |sh d=>exact h.elim
 |lst ts=>obtain⟨p,rfl,rfl,h⟩:=h;exact .lst h r
 |tup ts=>obtain⟨p,rfl,rfl,h⟩:=h;exact .tup h r
 |BE b ks ts =>
  cases b with
  |false=>obtain⟨p,kvs,rfl,rfl,h,rfl,rfl⟩:=h;exact .dK h r
  |true=>obtain⟨p,kvs,rfl,rfl,h,rfl,rfl⟩:=h;exact .dT h r
 |ins x ns ts=>obtain⟨p,C,dx,fs,rfl,rfl,n,h,rfl,rfl⟩:=h;exact .ins n h r
def C6.node (h:C6 K H P v t fp)(hk:kids t≠[]\/∀d,t≠.sh d):∃q xs fq,fp=q++fq/\CD K H P v t q xs/\Ax K H P xs (kids t) fq:=by
 cases h with
 |sh h=>rcases hk with hk|hk;exact (hk rfl).elim;exact (hk _ rfl).elim
 |lst h r=>exact⟨[_],_,_,rfl,⟨_,rfl,rfl,h⟩,r⟩
 |tup h r=>exact⟨[],_,_,rfl,⟨_,rfl,rfl,h⟩,r⟩
 |dK h r|dT h r=>exact⟨[_],_,_,rfl,⟨_,_,rfl,rfl,h,rfl,rfl⟩,r⟩
 |ins n h r=>exact⟨[_],_,_,rfl,⟨_,_,_,_,rfl,rfl,n,h,rfl,rfl⟩,r⟩
def CD.move (sm:Aj (del H P) (del H' P'))(k:∀a∈q,H' a=H a)(h:CD K H P v t q xs):CD K H' P' v t q xs:=by
 cases t with
 |sh d=>exact h.elim
 |lst ts=>obtain⟨p,rfl,rfl,h⟩:=h;exact⟨p,rfl,rfl,(k p za3).trans h⟩
 |tup ts=>obtain⟨p,rfl,rfl,h⟩:=h;exact⟨p,rfl,rfl,sm _ _ h⟩
 |BE b ks ts =>
  cases b with
  |false|true=>obtain⟨p,kvs,rfl,rfl,h,rfl,rfl⟩:=h;exact⟨p,kvs,rfl,rfl,(k p za3).trans h,rfl,rfl⟩
 |ins x ns ts=>obtain⟨p,C,dx,fs,rfl,rfl,n,h,rfl,rfl⟩:=h;exact⟨p,C,dx,fs,rfl,rfl,n,(k p za3).trans h,rfl,rfl⟩
def CD.kids (h:CD K H P v t q xs)(ts:List OT):CD K H P v (Pe t ts) q xs:=by
 cases t with
 |sh d=>exact h.elim
 |lst us|tup us=>exact h
 |BE b ks us=>cases b<;>exact h
 |ins x ns us=>exact h
def Uw (h:CD K H P v t q xs)(ts:List OT):L2.kids (Pe t ts)=ts:=by
 cases t with
 |sh d=>exact h.elim
 |lst us|tup us|BE b ks us|ins x ns us=>rfl
def CD.inj (h:CD K H P v t q xs)(h':CD K H P v t q' fm):q=q'/\xs=fm:=by
 cases t with
 |sh d=>exact h.elim
 |lst ts|tup ts=>obtain⟨p,rfl,rfl,h⟩:=h;obtain⟨p',e,rfl,h'⟩:=h';cases e;rw[h] at h';cases h';exact⟨rfl,rfl⟩
 |BE b ks ts =>
  cases b with
  |false|true=>obtain⟨p,kvs,rfl,rfl,h,_,rfl⟩:=h;obtain⟨p',rn,e,rfl,h',_,rfl⟩:=h';cases e;rw[h] at h';cases h';exact⟨rfl,rfl⟩
 |ins x ns ts=>obtain⟨p,C,dx,fs,rfl,rfl,n,h,_,rfl⟩:=h;obtain⟨p',C',dx',cj,e,rfl,n',h',_,rfl⟩:=h';cases e;rw[h] at h';cases h';exact⟨rfl,rfl⟩
inductive IB (K:za1) (H:Hp) (P:Addr->Prop):V->OT->List Nat->V->OT->Prop
 |nil {v t}:IB K H P v t [] v t
 |cons {v t q xs j x s π v1 t1}:CD K H P v t q xs->xs[j]?=some x->(kids t)[j]?=some s->IB K H P x s π v1 t1->IB K H P v t (j::π) v1 t1
def IB.sub (h:IB K H P v t π v1 t1):Nm t π=some t1:=by
 induction h with
 |nil=>exact Qv _
 |cons _ _ hs _ ih=>rw[cK hs];exact ih
def IB.snoc (h:IB K H P v t π v1 t1)(n:CD K H P v1 t1 q xs)(hx:xs[j]?=some x)(hs:(kids t1)[j]?=some s):IB K H P v t (π++[j]) x s:=by
 induction h with
 |nil=>exact .cons n hx hs .nil
 |cons n' n6 xx _ ih=>exact .cons n' n6 xx (ih n hs)
def Ax.get:∀ {xs:List V}{ts:List OT}{fp:List Addr}{j:Nat}{x:V}{s:OT},Ax K H P xs ts fp->xs[j]?=some x->ts[j]?=some s->∃pre fs post,fp=pre++fs++post/\C6 K H P x s fs
 |_,_,_,_,_,_,.nil,e,_=>by simp at e
 |_,_,_,0,_,_,.cons h r,e,e'=>by
  simp at e e';subst e;subst e';exact⟨[],_,_,rfl,h⟩
 |_,_,_,j+1,_,_,.cons (fp:=f1) h r,e,e'=>by
  obtain⟨pre,fs,post,z,q⟩:=Ax.get r (by simpa using e) (by simpa using e');exact⟨f1++pre,fs,post,by rw[z];simp,q⟩
def Ax.len:∀ {xs:List V}{ts:List OT}{fp:List Addr},Ax K H P xs ts fp->xs.length=ts.length
 |_,_,_,.nil=>rfl
 |_,_,_,.cons _ r=>by rw[za8,za8,r.len]
def Ax.exV:∀ {xs:List V}{ts:List OT}{fp:List Addr}{j:Nat}{s:OT},Ax K H P xs ts fp->ts[j]?=some s->∃x,xs[j]?=some x:=fun {xs ts fp j s} h e=>by
 have hl:j<xs.length:=by rw[h.len];exact (zaf.mp e).1
 exact⟨_,za7 hl⟩
def C6.part (h:C6 K H P v t fp)(s:IB K H P v t π v1 t1):∃aq,C6 K H P v1 t1 aq/\(∀a∈aq,a∈fp)/\(fp.Nodup->aq.Nodup):=by
 induction s generalizing fp with
 |nil=>exact⟨fp,h,λ _ h=>h,λ h=>h⟩
 |cons n hx hs _ ih =>
  obtain⟨q,xs,fq,rfl,n',r⟩:=h.node (.inl λ z=>by rw[z] at hs;cases hs);obtain⟨rfl,rfl⟩:=n.inj n';obtain⟨pre,fs,post,rfl,o⟩:=r.get hx hs;obtain⟨aq,o1,k,kn⟩:=ih o;exact⟨aq,o1,λ a ha=>zad _ (zb4 _ (zad _ (k a ha))),λ nd=>kn (zaw.mp (zaw.mp (zaw.mp nd).2.1).1).2.1⟩
def Ax.put (sm:Aj (del H P) (del H' P')):∀ {xs:List V}{ts:List OT}{fp:List Addr}{j:Nat}{x:V}{s s':OT}{fs cj:List Addr},Ax K H P xs ts fp->xs[j]?=some x->ts[j]?=some s->C6 K H P x s fs->C6 K H' P' x s' cj->(∀a∈fp,a∉fs->H' a=H a)->fp.Nodup->cj.Nodup->(∀a∈cj,a∈fp->a∈fs)->
 ∃ah,Ax K H' P' xs (ts.set j s') ah/\ah.Nodup/\∀a∈ah,a∈cj\/(a∈fp/\a∉fs)
 |_,_,_,_,_,_,_,_,_,.nil,e,_,_,_,_,_,_,_=>by simp at e
 |_,_,_,0,x,s,s',fs,cj,.cons (fp:=f1) (fq:=f2) h r,e,e',o,o',k,nd,kc,dj=>by
  simp at e e';subst e;subst e';have:=h.Cj o;subst this;have aO:=zaw.mp nd;have k2:∀a∈f2,a∉f1:=λ a ha hb=>aO.2.2 a hb a ha rfl;refine⟨cj++f2,.cons o' (r.move sm λ a ha=>k a (zad _ ha) (k2 a ha)),zaw.mpr ⟨kc,aO.2.1,λ a ha b hb z=>?_⟩,λ a ha=>?_⟩
  ·subst z;exact k2 a hb (dj a ha (zad _ hb))
  ·rcases zal.mp ha with ha|ha
   ·exact .inl ha
   ·exact .inr ⟨zad _ ha,k2 a ha⟩
 |_,_,_,j+1,x,s,s',fs,cj,.cons (vs:=vg) (ts:=xy) (fp:=f1) (fq:=f2) h r,e,e',o,o',k,nd,kc,dj=>by
  have aO:=zaw.mp nd;have e2:vg[j]?=some x:=by simpa using e
  have e3:xy[j]?=some s:=by simpa using e'
  obtain⟨pre,fx,post,hf,ox⟩:=r.get e2 e3;have:=ox.Cj o;subst this;have k1:∀a∈f1,a∉fx:=λ a ha hb=>aO.2.2 a ha a (by rw[hf];exact zb4 _ (zad _ hb)) rfl;obtain⟨ah,q1,q2,q3⟩:=Ax.put sm r e2 e3 o o' (λ a ha hn=>k a (zad _ ha) hn) aO.2.1 kc (λ a ha hb=>dj a ha (zad _ hb));refine⟨f1++ah,.cons (h.move sm λ a ha=>k a (zb4 _ ha) (k1 a ha)) q1,zaw.mpr ⟨aO.1,q2,λ a ha b hb z=>?_⟩,λ a ha=>?_⟩
  ·subst z;rcases q3 a hb with z|z
   ·exact k1 a ha (dj a z (zb4 _ ha))
   ·exact aO.2.2 a ha a z.1 rfl
  ·rcases zal.mp ha with ha|ha
   ·exact .inr ⟨zb4 _ ha,k1 a ha⟩
   ·rcases q3 a ha with z|z
    ·exact .inl z
    ·exact .inr ⟨zad _ z.1,z.2⟩
def C6.put (sm:Aj (del H P) (del H' P'))(h:C6 K H P v t fp)(s:IB K H P v t π v1 t1)(o:C6 K H P v1 t1 aq)(o':C6 K H' P' v1 u fu)(k:∀a∈fp,a∉aq->H' a=H a)(nd:fp.Nodup)(kc:fu.Nodup)(dj:∀a∈fu,a∈fp->a∈aq):
 ∃ah,C6 K H' P' v (F3 t π u) ah/\ah.Nodup/\∀a∈ah,a∈fu\/(a∈fp/\a∉aq):=by
 induction s generalizing fp with
 |nil =>
  rw[E6];exact⟨fu,o',kc,λ a ha=>.inl ha⟩
 | @cons v t q xs j x s π v1 t1 n hx hs s1 ih =>
  obtain⟨q',fm,fq,rfl,n',r⟩:=h.node (.inl λ z=>by rw[z] at hs;cases hs);obtain⟨rfl,rfl⟩:=n.inj n';have ke:=zaw.mp nd;obtain⟨pre,fs,post,hf,ox⟩:=r.get hx hs;have sub:∀a∈fs,a∈fq:=λ a ha=>by rw[hf];exact zb4 _ (zad _ ha)
  have xz:fs.Nodup:=by
   have:=ke.2.1;rw[hf] at this;exact (zaw.mp (zaw.mp this).1).2.1
  obtain⟨fz,oz,kz,_⟩:=ox.part s1;have:=oz.Cj o;subst this;obtain⟨cj,q1,q2,q3⟩:=ih ox o o' (λ a ha hn=>k a (zad _ (sub a ha)) hn) xz (λ a ha hb=>dj a ha (zad _ (sub a hb)));have qf:∀a∈q,a∉fs:=λ a ha hb=>ke.2.2 a ha a (sub a hb) rfl;have kq:∀a∈q,H' a=H a:=λ a ha=>k a (zb4 _ ha) λ z=>qf a ha (kz a z);obtain⟨ah,p1,p2,p3⟩:=r.put sm hx hs ox q1 (λ a ha hn=>k a (zad _ ha) λ z=>hn (kz a z)) ke.2.1 q2 (λ a ha hb=>by
   rcases q3 a ha with z|z
   ·exact kz a (dj a z (zad _ hb))
   ·exact z.1)
  rw[cL hs];have n2:=(n.move sm kq).kids ((kids t).set j (F3 s π u));have o2:=n2.own (fp:=ah) (by rw[Uw n];exact p1);refine⟨q++ah,o2,zaw.mpr ⟨ke.1,p2,λ a ha b hb z=>?_⟩,λ a ha=>?_⟩
  ·subst z;rcases p3 a hb with z|z
   ·rcases q3 a z with y|y
    ·exact qf a ha (kz a (dj a y (zb4 _ ha)))
    ·exact qf a ha y.1
   ·exact ke.2.2 a ha a z.1 rfl
  ·rcases zal.mp ha with ha|ha
   ·exact .inr ⟨zb4 _ ha,λ z=>qf a ha (kz a z)⟩
   ·rcases p3 a ha with z|z
    ·rcases q3 a z with y|y
     ·exact .inl y
     ·exact .inr ⟨zad _ (sub a y.1),y.2⟩
    ·exact .inr ⟨zad _ z.1,λ y=>z.2 (kz a y)⟩
end
abbrev PU (P:Addr->Prop)(fp:List Addr):Addr->Prop:=λ a=>P a\/a∈fp
def Nn:∀a,P a->PU P fp a:=λ a h=>.inl h
def Cr (s:Aj H H')(hn:∀a∈fp,H a=none):Aj (del H P) (del H' (PU P fp)):=λ b o e=>by
 obtain⟨h1,h2⟩:=Al e;rw[AG λ z=>z.elim h1 λ w=>by rw[hn b w] at h2;cases h2];exact s b o h2
def Qw:del H (PU P [])=del H P:=by
 funext b;by_cases h:P b
 ·rw[GS h,GS (.inl h)]
 ·rw[AG h,AG λ z=>z.elim h λ w=>by cases w]
def GZ {K}(hP:∀a,P a->EY H' a)(o:C6 K H' Q v t fp):∀a,PU P fp a->EY H' a:=λ a h=>h.elim (hP a) (o.Cb a)
def Zb {K}(hP:∀a,P a->EY H' a)(o:Ax K H' Q v t fp):∀a,PU P fp a->EY H' a:=λ a h=>h.elim (hP a) (o.Cb a)
def Am.more {K}(E:Am K P0 P H σ ρ)(e:Aj H H')(hs:∀a,P a->P' a)(ht:∀a,P' a->EY H' a)(sm:Aj (del H P) (del H' P')):Am K P0 P' H' σ ρ:=by
 have keep:∀(c:Cl) (v:V) (fp:List Addr),Dd K H P c v fp->∀a∈fp,H' a=H a:=λ c v fp o a ha=>by
  obtain⟨xs,q⟩:=o.at a ha;rw[q];exact e _ _ q
 exact⟨λ a h=>hs a (E.sub a h),ht,λ i d h=>let ⟨v,h1,h2⟩:=E.val i d h;⟨v,h1,h2.mono sm⟩,
  λ i c h io=>let ⟨v,fp,h1,h2,h3,h4⟩:=E.ows i c h io;⟨v,fp,h1,h2.move sm (keep c v fp h2),λ a ha=>⟨hs a (h3 a ha).1,(h3 a ha).2⟩,h4⟩,
  λ i j c c' v v' fp ah hi hj si sj h h' ad=>E.iD sm (λ v fp _ o a ha=>keep _ _ _ o a ha) (λ v fp _ o a ha=>keep _ _ _ o a ha) hi hj si sj h h' ad,E.len,E.pin⟩
abbrev eZ (K:za1)(WX:Str->Hp->Prop)(P:Addr->Prop)(H:Hp)(Q:VK):M OT->Prop
 | .ok t=>∀v fp H',Aj H H'->(∀a∈fp,H a=none)->fp.Nodup->C6 K H' (PU P fp) v t fp->Q v H'
 | .ex x=>∀H',Aj H H'->WX x H'
 | .bad=>False
abbrev gNs (K:za1)(WX:Str->Hp->Prop)(P:Addr->Prop)(H:Hp)(Q:List V->Hp->Prop):M (List OT)->Prop
 | .ok t=>∀v fp H',Aj H H'->(∀a∈fp,H a=none)->fp.Nodup->Ax K H' (PU P fp) v t fp->Q v H'
 | .ex x=>∀H',Aj H H'->WX x H'
 | .bad=>False
def Dw (s:Aj H H'){a}(h:H' a=none):H a=none:=by
 cases q:H a with
 |none=>rfl
 |some o=>rw[s a o q] at h;cases h
section
variable {K:za1}
def eZ.same (h:eZ K WX P H Q m)(e:Aj H H'):eZ K WX P H' Q m:=by
 cases m with
 |ok d=>exact λ v fp H2 q hn nd o=>h v fp H2 (e.trans q) (λ a ha=>Dw e (hn a ha)) nd o
 |ex x=>exact λ H2 q=>h H2 (e.trans q)
 |bad=>exact h
end
abbrev DN (X:Cx)(WX:Str->Hp->Prop)(e:Expr)(f:Ah->M OT):Prop:=
 ∃t,PE X e t/\∀P0 P σ H Q ρ,Am X.K P0 P H σ ρ->eZ X.K WX P H Q (f ρ)->t σ H Q
abbrev DNs (X:Cx)(WX:Str->Hp->Prop)(es:List Expr)(f:Ah->M (List OT)):Prop:=
 ∃t,PA X es t/\(∀P0 P σ H Q ρ,Am X.K P0 P H σ ρ->gNs X.K WX P H Q (f ρ)->t σ H Q)/\∀ρ ts,f ρ=.ok ts->ts.length=es.length
abbrev yE (d:D):M OT:=.ok (.sh d)
abbrev yF (t:OT):M D:=.ok (er t)
def AH (h:DE X WX true e f):DN X WX e (λ ρ=>(f ρ).bind yE):=by
 obtain⟨t,h1,h2⟩:=h;refine⟨t,h1,λ P0 P σ H Q ρ E g=>h2 P0 P σ H Q ρ E ?_⟩;dsimp only at g;cases q:f ρ with
 |bad|ex x=>rw[q] at g;exact g
 |ok d=>rw[q] at g;exact λ v H' s hv=>g v [] H' s (λ a ha=>by cases ha) zbn (.sh (by rw[Qw];exact hv))
def Ag (h:DN X WX e fn):DE X WX c e (λ ρ=>(fn ρ).bind yF):=by
 suffices z:DE X WX true e (λ ρ=>(fn ρ).bind yF) by
  cases c with
  |true=>exact z
  |false=>exact XJ z
 obtain⟨t,h1,h2⟩:=h;refine⟨t,h1,λ P0 P σ H Q ρ E g=>h2 P0 P σ H Q ρ E ?_⟩;dsimp only at g;cases q:fn ρ with
 |bad|ex x=>rw[q] at g;exact g
 |ok d =>
  rw[q] at g;exact λ v fp H' s hn nd o=>g v H' s (o.has Nn λ a ha z=>(E.Cb a z).no (hn a ha))
def C2:DNs X WX [] (λ _=>.ok []):=⟨_,Ci,λ P0 P σ H Q ρ E h=>h [] [] H (Aj.refl H) (λ a ha=>by cases ha) zbn .nil,λ ρ ds h=>by cases h;rfl⟩
def Ck (he:DN X WX e fn)(hr:DNs X WX es fs)(hs: ~~~(starEach (e::es) X.env=(false,eval e X.env)::starEach es X.env)):
 DNs X WX (e::es) (λ ρ=>(fn ρ).bind λ d=>(fs ρ).bind λ ds=>.ok (d::ds)):=by
 obtain⟨te,e1,e2⟩:=he;obtain⟨tr,r1,r2,r3⟩:=hr;refine⟨_,Ba e1 r1 hs,λ P0 P σ H Q ρ E h=>?_,λ ρ ds h=>?_⟩
 rotate_left
 ·dsimp only at h;cases q:fn ρ with
  |bad|ex x=>rw[q] at h;cases h
  |ok x =>
   rw[q] at h;cases q2:fs ρ with
   |bad|ex x=>rw[q2] at h;cases h
   |ok xs =>
    rw[q2] at h;cases h;rw[za8,za8,r3 ρ xs q2]
 dsimp only at h;refine e2 P0 P σ H _ ρ E ?_;cases q:fn ρ with
 |bad|ex x=>rw[q] at h;exact h
 |ok x =>
  rw[q] at h;intro v fp H1 s1 n1 d5 o1;have E1:Am X.K P0 (PU P fp) H1 σ ρ:=E.more s1 Nn (GZ (E.same s1).Cb o1) (Cr s1 n1);refine r2 P0 (PU P fp) σ H1 _ ρ E1 ?_;cases q2:fs ρ with
  |bad=>rw[q2] at h;exact h
  |ex y=>rw[q2] at h;exact λ H' s=>h H' (s1.trans s)
  |ok ds =>
   rw[q2] at h;intro vs fq H2 s2 n2 aO o2;have dj:∀a∈fp,a∉fq:=λ a ha hb=>(o1.Cb a ha).no (n2 a hb);have eP:PU (PU P fp) fq=PU P (fp++fq):=by
    funext a;simp only[PU,zal,or_assoc]
   have sm:Aj (del H1 (PU P fp)) (del H2 (PU P (fp++fq))):=by rw[<-eP];exact Cr s2 n2
   refine h _ (fp++fq) H2 (s1.trans s2) (λ a ha=>?_) (zaw.mpr ⟨d5,aO,λ a ha b hb z=>dj a ha (by rw[z];exact hb)⟩) (.cons (o1.move sm λ a ha=>?_) (by rw[<-eP];exact o2))
   ·rcases zal.mp ha with ha|ha
    ·exact n1 a ha
    ·exact Dw s1 (n2 a ha)
   ·obtain⟨o,z,_⟩:=o1.Cb a ha;rw[z];exact s2 _ _ z
def vQ (hn:H p=none)(hP:∀a,PU P fp a->EY H a):Aj (del H (PU P fp)) (del (upd H p o) (PU P (p::fp))):=λ b u e=>by
 obtain⟨h1,h2⟩:=Al e;have hb:b≠p:=AR h2 hn;rw[AG λ z=>z.elim (λ z=>h1 (.inl z)) λ w=>(zac.mp w).elim hb λ w=>h1 (.inr w),Ai hb];exact h2
def FY (ha:DNs X WX es fs)(hz:es.length<=1000:=by decide):DN X WX (.List es pos) (λ ρ=>(fs ρ).bind λ ts=>.ok (.lst ts)):=by
 obtain⟨ta,a1,a2,a3⟩:=ha;refine⟨_,XA a1,λ P0 P σ H Q ρ E h=>?_⟩;dsimp only at h;refine a2 P0 P σ H _ ρ E ?_;cases q:fs ρ with
 |bad|ex y=>rw[q] at h;exact h
 |ok ts =>
  rw[q] at h;simp only[M.A8] at h;intro vs fp H1 s1 n1 d5 o1;have hP:=Zb (E.same s1).Cb o1;refine⟨zbq (AF (by rw[o1.len,a3 ρ ts q];exact hz)),λ p hp=>?_⟩;have ad:∀a∈fp,a≠p:=λ a ha z=>(o1.Cb a ha).no (by rw[z];exact hp);exact h _ (p::fp) _ (s1.trans (AL hp _)) (λ a ha=>(zac.mp ha).elim (λ z=>by rw[z];exact Dw s1 hp) (n1 a)) (zbd.mpr ⟨λ z=>ad p z rfl,d5⟩) (.lst An (o1.move (vQ hp hP) λ a ha=>Ai (ad a ha)))
def Zc (hn:H p=none)(hP:∀a,PU P fp a->EY H a):Aj (del H (PU P fp)) (del (upd H p o) (PU P fp)):=λ b u e=>by
 obtain⟨h1,h2⟩:=Al e;have hb:b≠p:=AR h2 hn;rw[AG h1,Ai hb];exact h2
def Qx {x1}(ha:DNs X WX es fs)(hz:es.length<=1000:=by decide):DN X WX (.Tuple es x1 pos) (λ ρ=>(fs ρ).bind λ ts=>.ok (.tup ts)):=by
 obtain⟨ta,a1,a2,a3⟩:=ha;refine⟨_,Xz a1,λ P0 P σ H Q ρ E h=>?_⟩;dsimp only at h;refine a2 P0 P σ H _ ρ E ?_;cases q:fs ρ with
 |bad|ex y=>rw[q] at h;exact h
 |ok ts =>
  rw[q] at h;simp only[M.A8] at h;intro vs fp H1 s1 n1 d5 o1;have hP:=Zb (E.same s1).Cb o1;refine⟨zbq (AF (by rw[o1.len,a3 ρ ts q];exact hz)),λ p hp=>?_⟩;have ad:∀a∈fp,a≠p:=λ a ha z=>(o1.Cb a ha).no (by rw[z];exact hp);refine h _ fp _ (s1.trans (AL hp _)) n1 d5 (.tup ?_ (o1.move (Zc hp hP) λ a ha=>Ai (ad a ha)));rw[AG λ z=>(hP p z).no hp];exact An
def Ak.ows {K}:∀ {xs:List V}{ds:List D},Ak K (del H P) xs ds->Ax K H P xs (ds.map .sh) []:=by
 intro _ _ x_;cases x_ with
 |nil=>exact .nil
 |cons h t=>exact .cons (.sh h) t.ows
def eZ.K3 {K}(h:eZ K WX P H Q (.ok (.lst (ds.map .sh))))(s1:Aj H H1)(hx:Ak K (del H1 P) xs ds):∀p,H1 p=none->Q (.ref p) (upd H1 p (.lst xs)):=λ p hp=>by
 have hn:∀a∈[p],H1 a=none:=λ a ha=>by rw[za9.mp ha];exact hp
 exact h _ [p] _ (s1.trans (AL hp _)) (λ a ha=>Dw s1 (hn a ha)) (by simp) (.lst An (hx.mono (Cr (AL hp _) hn)).ows)
def Ax.vR {K}:∀ {xs:List V}{ds:List D}{fp:List Addr},Ax K H P xs (ds.map .sh) fp->fp=[]/\Ak K (del H P) xs ds
 |_,[],_,.nil=>⟨rfl,.nil⟩
 |_,d::ds,_,.cons (.sh h) r=>by
  obtain⟨rfl,q⟩:=Ax.vR r;exact⟨rfl,.cons h q⟩
abbrev Np:Cl->Cl
 | .val d=>.val d
 | .own ds=>.val (.lst ds)
 | .ow (.rows GR)=>.val (.lst (GR.map D.lst))
 | .ow (.OB _ ds)=>.val (.lst ds)
 | .ow (.tree _ t)=>.val (er t)
abbrev FA (ρ:Ah):Ah:=ρ.map λ o=>o.map Np
@[simp] theorem Lx:FA []=[]:=rfl
@[simp] theorem JH (ρ:Ah):FA (none::ρ)=none::FA ρ:=rfl
@[simp] theorem JI (c:Cl) (ρ:Ah):FA (some c::ρ)=some (Np c)::FA ρ:=rfl
def Am.low {K}(E:Am K P0 P H σ ρ):Am K P0 P0 H σ (FA ρ):=by
 have key:∀(i:Nat) (c:Cl),(FA ρ)[i]?=some (some c)->∃c',ρ[i]?=some (some c')/\c=Np c':=λ i c h=>by
  unfold FA at h;rw[zax] at h;cases q:ρ[i]? with
  |none=>rw[q] at h;cases h
  |some o =>
   rw[q] at h;cases o with
   |none=>cases h
   |some c'=>cases h;exact⟨c',rfl,rfl⟩
 have rp:∀c,GU (Np c)=false:=λ c=>by
  cases c with
  |val d|own ds=>rfl
  |ow o=>cases o<;>rfl
 have kg:∀c,T7 (Np c)=none:=λ c=>by
  cases c with
  |val d|own ds=>rfl
  |ow o=>cases o<;>rfl
 have x3:∀c v fp,¬ Dd K H P0 (Np c) v fp:=λ c v fp h=>by
  cases c with
  |val d|own ds=>exact h
  |ow o=>cases o<;>exact h
 refine⟨λ _ h=>h,λ a h=>E.Cb a (E.sub a h),λ i d h=>?_,λ i c h io=>?_,λ i j c c' v v' fp ah hi hj si sj h h' ad=>?_,by unfold FA;rw[za2];exact E.len,λ i c n h hp=>by obtain⟨c',h1,rfl⟩:=key i _ h;rw[kg] at hp;cases hp⟩
 ·obtain⟨c,h1,h2⟩:=key i _ h;cases c with
  |val d' =>
   cases h2;obtain⟨v,q1,q2⟩:=E.val i d h1;exact⟨v,q1,q2.mono (De E.sub)⟩
  |own ds =>
   cases h2;obtain⟨p,xs,q1,q2,q3,q4,q5⟩:=E.own i ds h1;exact⟨_,q1,.lst (.of (show del H P0 p=_ by rw[AG q4];exact q2)) (q5.mono (De E.sub))⟩
  |ow o =>
   obtain⟨v,fp,q1,q2,q3,q4⟩:=E.ows i _ h1 rfl;cases o with
   |rows GR =>
    cases h2;obtain⟨p,ps,rfl,rfl,q5,q6⟩:=q2;exact⟨_,q1,.lst (.of (show del H P0 p=_ by rw[AG (q3 p za3).2];exact q5)) (q6.vK E.sub λ a ha=>(q3 a (za4 _ ha)).2)⟩
   |OB p ds =>
    cases h2;obtain⟨p,xs,rfl,rfl,q5,q6⟩:=q2;exact⟨_,q1,.lst (.of (show del H P0 p=_ by rw[AG (q3 p za3).2];exact q5)) (q6.mono (De E.sub))⟩
   |tree p t =>
    cases h2;exact⟨_,q1,C6.has E.sub (λ a ha=>(q3 a ha).2) q2⟩
 ·obtain⟨c',h1,rfl⟩:=key i _ h;rw[rp] at io;cases io
 ·obtain⟨c1,h1,rfl⟩:=key i _ hi;exact (x3 _ _ _ h).elim
def jA (h:DE X WX c e f):DE X WX false e (λ ρ=>f (FA ρ)):=by
 obtain⟨t,h1,h2⟩:=h;refine⟨t,h1,λ P0 P σ H Q ρ E g=>h2 P0 P0 σ H Q (FA ρ) E.low ?_⟩;have e:Lv c P0 P0=P0:=by cases c<;>rfl
 rw[e];exact g
def H9 (h:DT X WX e ft):DT X WX e (λ ρ=>ft (FA ρ)):=by
 obtain⟨t,h1,h2⟩:=h;exact⟨t,h1,λ P0 P σ H Q ρ E g=>h2 P0 P0 σ H Q (FA ρ) E.low g⟩
mutual
noncomputable def IC:OT->Bool
 | .sh d=>Lu d
 | .lst ts| .tup ts| .BE _ _ ts| .ins _ _ ts=>HG ts
noncomputable def HG:List OT->Bool
 |[]=>true
 |t::r=>IC t&&HG r
end
mutual
theorem C6.clean {K:za1}{H:Hp}{P P':Addr->Prop}(ht:∀a,P' a->EY H a):∀ {v:V}{t:OT}{fp:List Addr},IC t=true->C6 K H P v t fp->C6 K H P' v t fp:=by
 intro _ _ _ n x_;cases x_ with
 |sh h=>exact .sh (h.Lu ht (by rw[IC] at n;exact n))
 |lst h r=>exact .lst h (Ax.clean ht (by rw[IC] at n;exact n) r)
 |tup h r=>exact .tup (Z8 ht h) (Ax.clean ht (by rw[IC] at n;exact n) r)
 |dK h r=>exact .dK h (Ax.clean ht (by rw[IC] at n;exact n) r)
 |dT h r=>exact .dT h (Ax.clean ht (by rw[IC] at n;exact n) r)
 |ins x h r=>exact .ins x h (Ax.clean ht (by rw[IC] at n;exact n) r)
theorem Ax.clean {K:za1}{H:Hp}{P P':Addr->Prop}(ht:∀a,P' a->EY H a):∀ {v:List V}{t:List OT}{fp:List Addr},HG t=true->Ax K H P v t fp->Ax K H P' v t fp:=by
 intro _ _ _ n x_;cases x_ with
 |nil=>exact .nil
 |cons h r =>
  rw[HG,zb6] at n;exact .cons (C6.clean ht n.1 h) (Ax.clean ht n.2 r)
end
abbrev Xl (m:M OT):M OT:=m.bind λ t=>if IC t=true then .ok t else .bad
def Ej (h:DN X WX e fn):DN X WX e (λ ρ=>Xl (fn (FA ρ))):=by
 obtain⟨t,h1,h2⟩:=h;refine⟨t,h1,λ P0 P σ H Q ρ E g=>h2 P0 P0 σ H Q (FA ρ) E.low ?_⟩;unfold Xl at g;dsimp only at g;cases q:fn (FA ρ) with
 |bad|ex x=>rw[q] at g;exact g
 |ok t =>
  rw[q] at g;simp only[M.A8] at g;by_cases hf:IC t=true
  ·rw[if_pos hf] at g;exact λ v fp H' s hn nd o=>g v fp H' s hn nd (o.clean (GZ (E.same s).Cb o) hf)
  ·rw[if_neg hf] at g;exact g.elim
abbrev K3 (d:D):M OT:=match d with
 | .lst ds| .tup ds=>.ok (.lst (ds.map .sh))
 |_=>.bad
def EF (hg:Gl X "list")(hm:X.mg "list" = none)(ha:DE X WX true e f)(hb:bootBuiltins "list" = some (.type "list"):=by decide +kernel)(ax: ~~~(starEach [e] X.env=[(false,eval e X.env)])):
 DN X WX (.Call (.Name "list" p) [e] [] pos) (λ ρ=>(f ρ).bind K3):=by
 obtain⟨ta,a1,a2⟩:=ha;refine⟨_,Na Ug hg hm hb (Ba a1 Ci ax) (he:=ax),λ P0 P σ H Q ρ E h=>?_⟩;dsimp only at h;refine a2 P0 P σ H _ ρ E ?_;refine bV h λ d h=>?_;intro v H1 s1 hv;unfold K3 at h;split at h
 ·cases hv with
  |lst hs hh=>exact⟨_,_,rfl,.inl hs.Be,h.K3 s1 hh⟩
 ·cases hv with
  |tup hs hh=>exact⟨_,_,rfl,.inr (FE.of (Al hs).2),h.K3 s1 hh⟩
 ·exact h.elim
abbrev OpN (K:za1)(WX:Str->Hp->Prop)(r:R2)(aM:D->D->M OT):Prop:=
 ∀(P:Addr->Prop) (H:Hp) (x y:D) (v w:V) (Q:VK),(∀a,P a->EY H a)->BQ K (del H P) v x->BQ K (del H P) w y->eZ K WX P H Q (aM x y)->r v w H Q
def aal (ha:∀P0 P σ H Q ρ,Am X.K P0 P H σ ρ->gV X.K WX (Lv true P0 P) H Q (f ρ)->ta σ H Q)(hb:∀P0 P σ H Q ρ,Am X.K P0 P H σ ρ->gV X.K WX (Lv true P0 P) H Q (g ρ)->tb σ H Q)(hr:OpN X.K WX r aM)(E:Am X.K P0 P H σ ρ)(h:eZ X.K WX P H Q ((f ρ).bind λ x=>(g ρ).bind λ y=>aM x y)):xY r ta tb σ H Q:=by
 refine ha P0 P σ H _ ρ E ?_;cases e:f ρ with
 |bad|ex x=>rw[e] at h;exact h
 |ok x =>
  rw[e] at h;intro v H1 s1 hv;refine hb P0 P σ H1 _ ρ (E.same s1) ?_;cases e2:g ρ with
  |bad=>rw[e2] at h;exact h
  |ex y=>rw[e2] at h;exact λ H' s=>h H' (s1.trans s)
  |ok y =>
   rw[e2] at h;intro w H2 s2 hw;exact hr _ H2 x y v w Q ((E.same s1).same s2).Cb (hv.mono s2.del) hw ((h.same s1).same s2)
abbrev Ly (x y:D):M OT:=match x,y with
 | .lst a,.lst b=>if a.length+b.length<=1000 then .ok (.lst ((a++b).map .sh)) else .bad
 |_,_=>.bad
abbrev spT (K:za1)(n:Nat)(F:List D->M OT):Sp:=λ vs H Q E=>vs.length=n/\∃P ds,(∀a,P a->EY H a)/\Ak K (del H P) vs ds/\eZ K (CQ K E) P H Q (F ds)
abbrev clT:Cl->M OT
 | .val d=>.ok (.sh d)
 | .own ds=>.ok (.lst (ds.map .sh))
 | .ow (.rows GR)=>.ok (.lst (GR.map λ ds=>.lst (ds.map .sh)))
 | .ow (.OB _ _)=>.bad
 | .ow (.tree none t)=>.ok t
 | .ow (.tree (some _) _)=>.bad
abbrev VZ (m:M Out):M OT:=match m with
 | .ok (.ret d)=>.ok (.sh d)
 | .ok (.CC c)=>clT c
 | .ok (.next _)=>.ok (.sh .Av)
 | .ex x=>.ex x
 |_=>.bad
def Df.ows {K}:∀ {ps:List Addr}{GR:List (List D)},Df K H P ps GR->Ax K H P (ps.map V.ref) (GR.map λ ds=>.lst (ds.map .sh)) ps:=by
 intro _ _ x_;cases x_ with
 |nil=>exact .nil
 |cons h r t=>exact .cons (.lst h r.ows) t.ows
def Dd.tree {K}{c}(h:Dd K H P c v fp)(e:clT c=.ok t):C6 K H P v t fp:=by
 cases c with
 |val d=>exact h.elim
 |own ds =>
  cases e;obtain⟨p,xs,rfl,rfl,h1,h2⟩:=h;exact .lst h1 h2.ows
 |ow o =>
  cases o with
  |rows GR =>
   cases e;obtain⟨p,ps,rfl,rfl,h1,h2⟩:=h;exact .lst h1 h2.ows
  |OB p ds=>cases e
  |tree p t' =>
   cases p with
   |none=>cases e;exact h
   |some q=>cases e
section
variable {P:Program}{w:World}{K:za1}
def Zd {P}{c}(h:eZ K WX P H Q (clT c))(t:Tr P P H P2 H')(hs:∀a,P a->P2 a)(ho:Dd K H' P2 c v fp)(hp:∀a∈fp,P2 a/\¬ P a)(nd:fp.Nodup):Q v H':=by
 cases q:clT c with
 |bad=>rw[q] at h;exact h.elim
 |ex x=>cases c with
  |val d|own ds=>cases q
  |ow o =>
   cases o with
   |rows GR|OB p ds=>cases q
   |tree p t'=>cases p<;>cases q
 |ok u =>
  rw[q] at h;have o:=ho.tree q;refine h v fp H' (CI t) (λ a ha=>vP t (hp a ha).1 (hp a ha).2) nd (o.move (De λ a ha=>ha.elim (hs a) λ z=>(hp a z).1) λ _ _=>rfl)
def aan {st}{f}(F:eY K x qual st f fd)(S:Ab N ps (A3 st))(g:Ah->M Out)(hb:∀(AZ:Value) (A:Around) (outer:List Env) (s:Shared) (H:Hp) (E:XK),Br k (A.deeper (envOfC qual (A3 st) s.heap.objs.size f AZ))->Vg (mC P w K mg base N qual (A3 st) f AZ A outer s H E) (CQ K E) (AE st) g):
 CL P w K mg base (S6 P w base) (k+1) f fd ps (spT K ps.length λ ds=>VZ (g (D5 N ds))):=by
 obtain⟨oc,od,kV,doc,pm,an,AZ,ct,Vw,rfl,lk,aQ⟩:=F.ex;refine Vv lk aQ S (λ vs H Q E h=>h.1) λ A outer s H vs Q E hr h=>?_;obtain⟨hl,P',ds,ht,hv,hq⟩:=h;obtain⟨t,h1,h2⟩:=hb AZ A outer s H E hr;refine⟨t,h1,h2 ⟨P',λ _=>0⟩ P' _ H _ _ (Nj ht hv) ?_⟩;dsimp only at hq;revert hq;cases g (D5 N ds) with
 |bad=>exact λ h=>h.elim
 |ex x=>exact λ h H' P2 t=>h H' (CI t)
 |ok o =>
  cases o with
  |ret d=>exact λ h v H' P2 t hv=>h v [] H' (CI t) (λ a ha=>by cases ha) zbn (.sh (by rw[Qw];exact hv))
  |next ρ=>exact λ h σ' H' P2 t E=>h .Av [] H' (CI t) (λ a ha=>by cases ha) zbn (.sh .Av)
  |brk ρ|cont ρ=>exact λ h=>h.elim
  |CC c=>exact λ h v fp H' P2 t hs ht ho hp nd=>Zd h t hs ho hp nd
  |FX d ρ=>exact λ h=>h.elim
end
structure rW (P:Program)(w:World)(K:za1)(mg:Str->Option Value)(base:Heap)(x:Str)(k n:Nat)(F:List D->M OT):Prop where
 ex:∃fa fd ps,CL P w K mg base (S6 P w base) k fa fd ps (spT K n F)/\mg x=some (.ref fa)/\zbe K (.ref fa)=true/\Binds K fd ps []
def Aq {P}{K}{st}(T:Ay K mg x st ps)(S:Ab N ps (A3 st))(g:Ah->M Out)(hb:∀(f:Addr) (AZ:Value) (A:Around) (outer:List Env) (s:Shared) (H:Hp) (E:XK),Br k (A.deeper (envOfC x (A3 st) s.heap.objs.size f AZ))->Vg (mC P w K mg base N x (A3 st) f AZ A outer s H E) (CQ K E) (AE st) g)(hn: ~~~(ps.length=n)):
 rW P w K mg base x (k+1) n (λ ds=>VZ (g (D5 N ds))):=by
 obtain⟨f,fd,F,hm,hB⟩:=T.ex;subst hn;exact⟨⟨f,fd,ps,aan F S g (hb f),hm,F.kp,hB⟩⟩
section
variable {fs:Ah->M (List D)}
def A9 (xo:Gh X E)(G:rW X.prog X.w X.K X.mg X.base x k n F)(hr:Br k X.A)(hg:Gl X x)(ha:DA X (CQ X.K E) true (e::es) fs)(hn:(e::es).length=n)(aK:(x==("__debug__" : Str))=false:=by decide)(he: ~~~(starEach (e::es) X.env=(false,eval e X.env)::starEach es X.env))(hpl: ~~~((backTo pos (starEach es X.env)).any (·.1)=false)):
 DN X (CQ X.K E) (.Call (.Name x p) (e::es) [] pos) (λ ρ=>(fs ρ).bind F):=by
 obtain⟨fa,fd,ps,hF,hm,hk,hb⟩:=G.ex;obtain⟨ta,a1,a2,a3⟩:=ha;refine⟨_,YR hF hr hg hm hk hb .nil xo.call a1 aK he hpl,λ P0 P σ H Q ρ E h=>?_⟩;dsimp only at h;refine a2 P0 P σ H _ ρ E ?_;cases q:fs ρ with
 |bad|ex x=>rw[q] at h;exact h
 |ok ds =>
  rw[q] at h;simp only[M.A8] at h;intro vs H1 s1 a5;rw[zba];exact⟨by rw[a5.length,a3 ρ ds q];exact hn,P,ds,(E.same s1).Cb,a5,h.same s1⟩
def Cm (h:DN X WX e fn):DN X (λ _ _=>False) e fn:=by
 obtain⟨t,h1,h2⟩:=h;refine⟨t,h1,λ P0 P σ H Q ρ E g=>h2 P0 P σ H Q ρ E ?_⟩;cases q:fn ρ with
 |bad=>rw[q] at g;exact g
 |ex x=>rw[q] at g;exact (g H (Aj.refl H)).elim
 |ok t=>rw[q] at g;exact g
abbrev cM (t:OT):M Out:=match t with
 | .sh d=>.ok (.ret d)
 |t=>.ok (.CC (.ow (.tree none t)))
end
def Am.trn {K}(E:Am K P0 P H σ ρ)(s:Aj H H')(hn:∀a∈fp,H a=none):Tr P0 P H (PU P fp) H':=
 ⟨Cr s hn,λ a ha=>by obtain⟨o,q,_⟩:=E.Cb a (E.sub a ha);rw[q];exact s _ _ q⟩
def Ae (ha:DN X WX e fn):DS X WX (.Return (some e) pos) (λ ρ=>(fn ρ).bind cM):=by
 obtain⟨ta,a1,a2⟩:=ha;refine⟨_,U9 a1,λ P0 P σ H Z ρ E h=>?_⟩;dsimp only at h;refine a2 P0 P σ H _ ρ E ?_;refine iN h E λ t h=>?_;intro v fp H' s hn nd o;have key:gS X.K WX P0 P H Z (.ok (.CC (.ow (.tree none t))))->Z.rt v H':=λ h =>
  h v fp H' (PU P fp) (E.trn s hn) (λ a ha=>.inl (E.sub a ha)) (GZ (E.same s).Cb o) o (λ a ha=>⟨.inr ha,λ z=>(E.Cb a (E.sub a z)).no (hn a ha)⟩) nd
 cases t with
 |sh d =>
  cases o with
  |sh hv=>exact h v H' P (E.tr s) (hv.mono (De λ a ha=>.inl (E.sub a ha)))
 |lst ts|tup ts|BE b ks ts|ins x ns ts=>exact key h
abbrev F4:List OT->Option (List D)
 |[]=>some []
 | .sh d::r=>(F4 r).map (d::·)
 |_::_=>none
def D7:∀ds:List D,F4 (ds.map .sh)=some ds
 |[]=>rfl
 |d::r=>by rw[za6,F4,D7 r];rfl
def Dx:∀ {ts:List OT}{ds:List D},F4 ts=some ds->ts=ds.map .sh
 |[],ds,h=>by cases h;rfl
 | .sh d::r,ds,h=>by
  rw[F4] at h;cases q:F4 r with
  |none=>rw[q] at h;cases h
  |some es=>rw[q] at h;cases h;rw[za6,<-Dx q]
 | .lst _::r,ds,h| .tup _::r,ds,h| .BE _ _ _::r,ds,h| .ins _ _ _::r,ds,h=>by cases h
abbrev toCl (p:Option Nat)(t:OT):Cl:=match t with
 | .lst ts=>(match F4 ts with
  |some ds=>(match p with|none=>.own ds|some q=>.ow (.OB q ds))
  |none=>.ow (.tree p (.lst ts)))
 |t=>.ow (.tree p t)
@[simp] theorem toCl_list (ds:List D):toCl none (.lst (ds.map .sh))=.own ds:=by unfold toCl;simp only[D7]
@[simp] theorem toCl_listP (q:Nat) (ds:List D):toCl (some q) (.lst (ds.map .sh))=.ow (.OB q ds):=by unfold toCl;simp only[D7]
@[simp] theorem toCl_dct (p:Option Nat) (b:Bool) (ks:List D) (ts:List OT):toCl p (.BE b ks ts)=.ow (.tree p (.BE b ks ts)):=rfl
abbrev treeOf:Cl->Option (Option Nat×OT)
 | .own ds=>some (none,.lst (ds.map .sh))
 | .ow (.OB p ds)=>some (some p,.lst (ds.map .sh))
 | .ow (.rows GR)=>some (none,.lst (GR.map λ ds=>.lst (ds.map .sh)))
 | .ow (.tree p t)=>some (p,t)
 | .val _=>none
def Dd.toT {K}{c}(h:Dd K H P c v fp)(e:treeOf c=some (p,t)):C6 K H P v t fp:=by
 cases c with
 |val d=>exact h.elim
 |own ds =>
  cases e;obtain⟨p,xs,rfl,rfl,h1,h2⟩:=h;exact .lst h1 h2.ows
 |ow o =>
  cases o with
  |rows GR =>
   cases e;obtain⟨p,ps,rfl,rfl,h1,h2⟩:=h;exact .lst h1 h2.ows
  |OB p ds =>
   cases e;obtain⟨p,xs,rfl,rfl,h1,h2⟩:=h;exact .lst h1 h2.ows
  |tree p t'=>cases e;exact h
def Dd.toCl {K:za1}{H:Hp}{P:Addr->Prop}{v:V}{fp:List Addr}{p:Option Nat}{t:OT}(h:C6 K H P v t fp):Dd K H P (toCl p t) v fp:=by
 unfold L2.toCl;split
 ·rename_i ts;cases q:F4 ts with
  |none=>exact h
  |some ds =>
   have e:=Dx q;subst e;cases h with
   |lst h1 h2 =>
    obtain⟨rfl,h3⟩:=h2.vR;cases p with
    |none|some q=>exact⟨_,_,rfl,rfl,h1,h3⟩
 ·exact h
def Ha (p:Option Nat)(t:OT):T7 (toCl p t)=p:=by
 unfold toCl;split
 ·rename_i ts;cases q:F4 ts with
  |none|some ds=>cases p<;>rfl
 ·cases p<;>rfl
def KN {c}(h:treeOf c=some (p,t)):T7 c=p:=by
 cases c with
 |val d=>cases h
 |own ds=>cases h;rfl
 |ow o =>
  cases o with
  |rows GR|OB p ds=>cases h;rfl
  |tree p t=>cases h;cases p<;>rfl
abbrev So (i:Nat)(ρ:Ah)(t:OT):M Out:=match t with
 | .sh d=>.ok (.next (ρ.set i (some (.val d))))
 |t=>.ok (.next (ρ.set i (some (toCl none t))))
def rX {K}(E:Am K P0 P H σ ρ)(s:Aj H H')(hn:∀a∈fp,H a=none)(nd:fp.Nodup)(o:C6 K H' (PU P fp) v t fp)(h:gS K WX P0 P H Z (So i ρ t)):Z.nx (σ.set i (some v)) H':=by
 have key:gS K WX P0 P H Z (.ok (.next (ρ.set i (some (toCl none t)))))->Z.nx (σ.set i (some v)) H':=λ h=>by
  refine h _ H' (PU P fp) (E.trn s hn) (E.nW Nn (GZ (E.same s).Cb o) (Cr s hn) (λ j c' v' ah ad g1 g2 g3 a ha=>?_) (Dd.toCl o) (λ a ha=>⟨.inr ha,λ z=>(E.Cb a (E.sub a z)).no (hn a ha)⟩) nd (λ n z=>by rw[Ha] at z;cases z));obtain⟨xs,z⟩:=g3.at a ha;exact⟨by rw[z];exact s _ _ z,λ w=>by rw[hn a w] at z;cases z⟩
 cases t with
 |sh d =>
  cases o with
  |sh hv=>exact h _ H' P (E.tr s) ((E.same s).XQ (by rw[Qw] at hv;exact hv))
 |lst ts|tup ts|BE b ks ts|ins x ns ts=>exact key h
def Bt (i:Nat)(hN:X.N.Nodup)(hi:X.N[i]?=some x)(hx:Loc X.env.scope x)(ha:DN X WX e fn)(hs: ~~~(swapsWith e (some (.Name x pos')) pos.line X.env=pure false))(hf:X.fn x=true\/X.env.scope.names.lookup x=some .local:=by first | exact .inl rfl | exact .inr rfl | assumption):
 DS X WX (.Assign [.Name x pos'] e pos) (λ ρ=>(fn ρ).bind (So i ρ)):=by
 obtain⟨ta,a1,a2⟩:=ha;refine⟨_,Xo hN hi hx a1 hs hf,λ P0 P σ H Z ρ E h=>?_⟩;dsimp only at h;refine a2 P0 P σ H _ ρ E ?_;cases q:fn ρ with
 |bad=>rw[q] at h;exact h
 |ex x=>rw[q] at h;exact λ H' s=>h H' P (E.tr s)
 |ok t =>
  rw[q] at h;exact λ v fp H' s hn nd o=>rX E s hn nd o h
abbrev XW (i:Nat)(ρ:Ah):M Out:=match ρ[i]? with
 |some (some (.val d))=>.ok (.ret d)
 |some (some c)=>.ok (.CC c)
 |_=>.bad
def CJ (i:Nat)(hv:PE X (.Name x p1) (Sf i)):DS X WX (.Return (some (.Name x p1)) pos) (XW i):=by
 refine⟨_,U9 hv,λ P0 P σ H Z ρ E h=>?_⟩;unfold XW at h;split at h
 ·rename_i d e1;obtain⟨v,h1,h2⟩:=E.val i d e1;exact⟨v,h1,h v H P Tr.refl (h2.mono (De E.sub))⟩
 ·rename_i c hc e1;have io:GU c=true:=by
   cases c with
   |val d=>exact (hc d rfl).elim
   |own ds|ow o=>rfl
  obtain⟨v,fp,h1,h2,h3,h4⟩:=E.ows i _ e1 io;exact⟨v,h1,h v fp H P Tr.refl E.sub E.Cb h2 h3 h4⟩
 ·exact h.elim
def Nq:∀ds:List D,bW (ds.map .sh)=ds
 |[]=>rfl
 |d::r=>by rw[za6,bW,er,Nq r]
abbrev jB (i:Nat)(ρ:Ah):Ah:=match ρ[i]? with
 |some (some c)=>ρ.set i (some (Np c))
 |_=>ρ
section
variable {K:za1}
def CD.same (e:Aj H H')(h:CD K H P v t q xs):CD K H' P v t q xs:=by
 cases t with
 |sh d=>exact h.elim
 |lst ts=>obtain⟨p,rfl,rfl,h⟩:=h;exact⟨p,rfl,rfl,e _ _ h⟩
 |tup ts=>obtain⟨p,rfl,rfl,h⟩:=h;exact⟨p,rfl,rfl,e.del _ _ h⟩
 |BE b ks ts =>
  cases b with
  |false|true=>obtain⟨p,kvs,rfl,rfl,h,rfl,rfl⟩:=h;exact⟨p,kvs,rfl,rfl,e _ _ h,rfl,rfl⟩
 |ins x ns ts=>obtain⟨p,C,dx,fs,rfl,rfl,n,h,rfl,rfl⟩:=h;exact⟨p,C,dx,fs,rfl,rfl,n,e _ _ h,rfl,rfl⟩
def IB.same (e:Aj H H')(h:IB K H P v t π v1 t1):IB K H' P v t π v1 t1:=by
 induction h with
 |nil=>exact .nil
 |cons n hx hs _ ih=>exact .cons (n.same e) hx hs ih
def CD.more (sm:Aj (del H P) (del H' P'))(e:Aj H H')(h:CD K H P v t q xs):CD K H' P' v t q xs:=by
 cases t with
 |sh d=>exact h.elim
 |lst ts=>obtain⟨p,rfl,rfl,h⟩:=h;exact⟨p,rfl,rfl,e _ _ h⟩
 |tup ts=>obtain⟨p,rfl,rfl,h⟩:=h;exact⟨p,rfl,rfl,sm _ _ h⟩
 |BE b ks ts =>
  cases b with
  |false|true=>obtain⟨p,kvs,rfl,rfl,h,rfl,rfl⟩:=h;exact⟨p,kvs,rfl,rfl,e _ _ h,rfl,rfl⟩
 |ins x ns ts=>obtain⟨p,C,dx,fs,rfl,rfl,n,h,rfl,rfl⟩:=h;exact⟨p,C,dx,fs,rfl,rfl,n,e _ _ h,rfl,rfl⟩
def IB.more (sm:Aj (del H P) (del H' P'))(e:Aj H H')(h:IB K H P v t π v1 t1):IB K H' P' v t π v1 t1:=by
 induction h with
 |nil=>exact .nil
 |cons n hx hs _ ih=>exact .cons (n.more sm e) hx hs ih
end
abbrev XX (i:Nat)(ρ:Ah)(π:List Nat):Option OT:=match ρ[i]? with
 |some (some c)=>(match treeOf c with|some (_,t)=>Nm t π|none=>none)
 |_=>none
structure Bm (K:za1)(P:Addr->Prop)(H:Hp)(σ:St)(ρ:Ah)(i:Nat)(π:List Nat)(v:V)(t1:OT):Prop where
 ex:∃v0 c p t,ρ[i]?=some (some c)/\treeOf c=some (p,t)/\σ[i]?=some (some v0)/\IB K H P v0 t π v t1
def Bm.at {K}(h:Bm K P H σ ρ i π v t1):XX i ρ π=some t1:=by
 obtain⟨v0,c,p,t,h1,h2,h3,h4⟩:=h.ex;unfold XX;simp only[h1,h2];exact h4.sub
def Bm.same {K}(e:Aj H H')(h:Bm K P H σ ρ i π v t1):Bm K P H' σ ρ i π v t1:=by
 obtain⟨v0,c,p,t,h1,h2,h3,h4⟩:=h.ex;exact⟨v0,c,p,t,h1,h2,h3,h4.same e⟩
def Bm.more {K}(sm:Aj (del H P) (del H' P'))(e:Aj H H')(h:Bm K P H σ ρ i π v t1):Bm K P' H' σ ρ i π v t1:=by
 obtain⟨v0,c,p,t,h1,h2,h3,h4⟩:=h.ex;exact⟨v0,c,p,t,h1,h2,h3,h4.more sm e⟩
def Bm.own {K}(h:Bm K P H σ ρ i π v t1)(E:Am K P0 P H σ ρ):∃aq,C6 K H P v t1 aq/\(∀a∈aq,P a/\¬ P0 a)/\aq.Nodup:=by
 obtain⟨v0,c,p,t,h1,h2,h3,h4⟩:=h.ex;have io:GU c=true:=by cases c<;>first|rfl|cases h2
 obtain⟨w,fp,k1,k2,k3,k4⟩:=E.ows i c h1 io;rw[h3] at k1;cases k1;obtain⟨aq,o1,hk,kn⟩:=(k2.toT h2).part h4;exact⟨aq,o1,λ a ha=>k3 a (hk a ha),kn k4⟩
abbrev gP (K:za1)(WX:Str->Hp->Prop)(P:Addr->Prop)(H:Hp)(σ:St)(ρ:Ah)(i:Nat)(Q:VK):M (List Nat)->Prop
 | .ok π=>∀v t1 H',Aj H H'->Bm K P H' σ ρ i π v t1->Q v H'
 | .ex x=>∀H',Aj H H'->WX x H'
 | .bad=>False
abbrev DP (X:Cx)(WX:Str->Hp->Prop)(e:Expr)(i:Nat)(f:Ah->M (List Nat)):Prop:=
 ∃t,PE X e t/\∀P0 P σ H Q ρ,Am X.K P0 P H σ ρ->gP X.K WX P H σ ρ i Q (f ρ)->t σ H Q
section
variable {fp:Ah->M (List Nat)}{i:Nat}
abbrev W0 (i:Nat)(ρ:Ah):M (List Nat):=match XX i ρ [] with | some _=>.ok [] | none=>.bad
def B4 (i:Nat)(hv:PE X (.Name x p1) (Sf i)):DP X WX (.Name x p1) i (W0 i):=by
 refine⟨_,hv,λ P0 P σ H Q ρ E h=>?_⟩;unfold W0 at h;split at h
 ·rename_i t e;unfold XX at e;split at e
  ·rename_i cl e1;split at e
   ·rename_i p t0 e2;have io:GU cl=true:=by cases cl<;>first|rfl|cases e2
    obtain⟨v,fp,h1,h2,h3,h4⟩:=E.ows i cl e1 io;exact⟨v,h1,h v t0 H (Aj.refl H) ⟨v,cl,p,t0,e1,e2,h1,.nil⟩⟩
   ·cases e
  ·cases e
 ·exact h.elim
abbrev vS (i:Nat)(ρ:Ah)(π:List Nat)(d:D):M (List Nat):=match XX i ρ π,d with
 |some (.lst ts),.int j|some (.tup ts),.int j=>(match YS ts.length j with|some k=>.ok (π++[k])|none=>.bad)
 |_,_=>.bad
def Pf (ha:DP X WX a i fp)(hb:DE X WX true b g)(hs:Pa b:=by exact λ _ _=>rfl):DP X WX (.Subscript a b pos) i (λ ρ=>(fp ρ).bind λ π=>(g ρ).bind (vS i ρ π)):=by
 obtain⟨ta,a1,a2⟩:=ha;obtain⟨tb,b1,b2⟩:=hb;refine⟨_,rM (YV.or gH) a1 b1 hs,λ P0 P σ H Q ρ E h=>?_⟩;dsimp only at h;refine a2 P0 P σ H _ ρ E ?_;cases q:fp ρ with
 |bad|ex x=>rw[q] at h;exact h
 |ok π =>
  rw[q] at h;simp only[M.A8] at h;intro v t1 H1 s1 pl;refine b2 P0 P σ H1 _ ρ (E.same s1) ?_;cases q2:g ρ with
  |bad=>rw[q2] at h;exact h
  |ex y=>rw[q2] at h;exact λ H' s=>h H' (s1.trans s)
  |ok d =>
   rw[q2] at h;simp only[M.A8] at h;intro w H2 s2 hw;have E2:=(E.same s1).same s2;have bj:=pl.same s2;obtain⟨aq,o1,_⟩:=bj.own E2;unfold vS at h;rw[bj.at] at h;obtain⟨v0,c,p,t,k1,k2,k3,k4⟩:=bj.ex;split at h
   ·rename_i ts j e;cases e;split at h
    ·rename_i k hk;cases o1 with
     |lst hh hr =>
      have hx:∃s,ts[k]?=some s:=⟨_,za7 (iY hk)⟩;obtain⟨s,hs⟩:=hx;obtain⟨x,hx⟩:=hr.exV hs;refine .inl ⟨_,_,j,x,rfl,hw.int_inv,.of hh,?_,h x s H2 (s1.trans s2) ⟨v0,c,p,t,k1,k2,k3,k4.snoc (q:=[_]) (xs:=_) ⟨_,rfl,rfl,hh⟩ hx hs⟩⟩;unfold Xj;rw[hr.len,hk];exact hx
    ·exact h.elim
   ·rename_i ts j e;cases e;split at h
    ·rename_i k hk;cases o1 with
     |tup hh hr =>
      have hx:∃s,ts[k]?=some s:=⟨_,za7 (iY hk)⟩;obtain⟨s,hs⟩:=hx;obtain⟨x,hx⟩:=hr.exV hs;refine .inr ⟨_,_,j,x,rfl,hw.int_inv,.of (Al hh).2,?_,h x s H2 (s1.trans s2) ⟨v0,c,p,t,k1,k2,k3,k4.snoc (q:=[]) (xs:=_) ⟨_,rfl,rfl,hh⟩ hx hs⟩⟩;unfold Xj;rw[hr.len,hk];exact hx
    ·exact h.elim
   ·exact h.elim
abbrev abY (i:Nat)(ρ:Ah)(π:List Nat):M D:=match XX i ρ π with
 |some (.sh d)=>.ok d
 |_=>.bad
def Am.aap {K}(E:Am K P0 P H σ ρ)(pl:Bm K P H σ ρ i π v1 t1)(o:C6 K H P v1 t1 aq)(hs:∀a,P a->P' a)(ht:∀a,P' a->EY H' a)(sm:Aj (del H P) (del H' P'))(keep:∀a,P a->a∉aq->H' a=H a)(o':C6 K H' P' v1 u fu)(nd:fu.Nodup)(hf:∀a∈fu,a∈aq\/(P' a/\¬ P0 a/\∀(j:Nat) c v fp,ρ[j]?=some (some c)->σ[j]?=some (some v)->Dd K H P c v fp->a∉fp)):
 ∃c p t,ρ[i]?=some (some c)/\treeOf c=some (p,t)/\Am K P0 P' H' σ (ρ.set i (some (toCl p (F3 t π u))))/\Tr P0 P H P' H':=by
 obtain⟨v0,c,p,t,h1,h2,h3,h4⟩:=pl.ex;have io:GU c=true:=by cases c<;>first|rfl|cases h2
 obtain⟨w,fp,k1,k2,k3,k4⟩:=E.ows i c h1 io;rw[h3] at k1;cases k1;have ot:=k2.toT h2;obtain⟨fz,oz,kz,_⟩:=ot.part h4;have:=oz.Cj o;subst this;obtain⟨ah,q1,q2,q3⟩:=ot.put sm h4 o o' (λ a ha hn=>keep a (k3 a ha).1 hn) k4 nd (λ a ha hb=>(hf a ha).elim id λ z=>(z.2.2 i c v0 fp h1 h3 k2 hb).elim);refine⟨c,p,t,h1,h2,?_,sm,λ a ha=>keep a (E.sub a ha) λ z=>(k3 a (kz a z)).2 ha⟩;have key:=E.nW (P':=P') (H':=H') (i:=i) (v:=v0) (c:=toCl p (F3 t π u)) (fp:=ah) hs ht sm (λ j c' v' fq ad g1 g2 g3 a ha=>?_) (Dd.toCl q1) (λ a ha=>?_) q2 (λ n z=>by rw[Ha] at z;subst z;have:=E.pin i c n h1 (KN h2);rw[h3] at this;cases this;rfl)
 ·rw[Uq h3] at key;exact key
 ·have rq:a∉fp:=E.apart j i c' c v' v0 fq fp g1 h1 g2 h3 g3 k2 (zbm ad) a ha;have kh:GU c'=true:=by cases c'<;>first|rfl|exact g3.elim
  obtain⟨w',fr,m1,m2,m3,m4⟩:=E.ows j c' g1 kh;rw[g2] at m1;cases m1;have:=m2.Cj g3;subst this;refine⟨keep a (m3 a ha).1 λ z=>rq (kz a z),λ z=>?_⟩;rcases q3 a z with y|y
  ·rcases hf a y with x|x
   ·exact rq (kz a x)
   ·exact x.2.2 j c' v' fr g1 g2 g3 ha
  ·exact rq y.1
 ·rcases q3 a ha with y|y
  ·rcases hf a y with x|x
   ·exact⟨hs a (k3 a (kz a x)).1,(k3 a (kz a x)).2⟩
   ·exact⟨x.1,x.2.1⟩
  ·exact⟨hs a (k3 a y.1).1,(k3 a y.1).2⟩
def Am.oI {K}(E:Am K P0 P H σ ρ)(pl:Bm K P H σ ρ i π (.ref l) (.lst ts))(hH:H l=some (.lst xs))(o:Ax K H P xs ts fq)(o':Ax K H P ys us fu)(nd:fu.Nodup)(hl:l∉fu)(hf:∀a∈fu,a∈fq\/(P a/\¬ P0 a/\∀(j:Nat) c v fp,ρ[j]?=some (some c)->σ[j]?=some (some v)->Dd K H P c v fp->a∉fp)):
 ∃c p t,ρ[i]?=some (some c)/\treeOf c=some (p,t)/\Am K P0 P (upd H l (.lst ys)) σ (ρ.set i (some (toCl p (F3 t π (.lst us)))))/\Tr P0 P H P (upd H l (.lst ys)):=by
 have ot:C6 K H P (.ref l) (.lst ts) (l::fq):=.lst hH o;obtain⟨aq,o1,hp,_⟩:=pl.own E;have:=o1.Cj ot;subst this;have pP:P l:=(hp l za3).1;have sd:del (upd H l (.lst ys)) P=del H P:=by
  funext b;by_cases hb:P b
  ·rw[GS hb,GS hb]
  ·rw[AG hb,AG hb,Ai (λ z=>hb (by rw[z];exact pP))]
 have sm:Aj (del H P) (del (upd H l (.lst ys)) P):=by rw[sd];exact Aj.refl _
 refine E.aap pl ot (λ _ h=>h) (λ a h=>?_) sm (λ a ha hn=>Ai λ z=>hn (by rw[z];exact za3)) (.lst An (o'.move sm λ a ha=>Ai λ z=>hl (by rw[<-z];exact ha))) (zbd.mpr ⟨hl,nd⟩) (λ a ha=>?_)
 ·by_cases ha:a=l
  ·subst ha;exact EY.lst An
  ·unfold EY;rw[Ai ha];exact E.Cb a h
 ·rcases zac.mp ha with z|z
  ·exact .inl (by rw[z];exact za3)
  ·rcases hf a z with y|y
   ·exact .inl (za4 _ y)
   ·exact .inr y
end
abbrev kd:D->Option Key
 | .int i=>some (.inl i)
 | .str x=>some (.inr x)
 |_=>none
abbrev yG:List D->Option (List Key)
 |[]=>some []
 |d::r=>match kd d,yG r with|some k,some ks=>some (k::ks)|_,_=>none
def rY (h:kd d=some k):d=Cz k:=by
 cases d<;>simp[kd] at h<;>subst h<;>rfl
def jC:∀ {ds:List D}{ks:List Key},yG ds=some ks->ds=ks.map Cz
 |[],ks,h=>by cases h;rfl
 |d::r,ks,h=>by
  rw[yG] at h;cases q:kd d with
  |none=>rw[q] at h;cases h
  |some k =>
   cases q2:yG r with
   |none=>rw[q,q2] at h;cases h
   |some x4 =>
    rw[q,q2] at h;cases h;rw[za6,<-rY q,<-jC q2]
inductive oJ:Bool->D->Prop
 |k (κ:Key):oJ false (Cz κ)
 |t (κ:List Key):oJ true (.tup (κ.map Cz))
abbrev keyOk (b:Bool)(d:D):Bool:=match b,d with
 |false,d=>(kd d).isSome
 |true,.tup ds=>(yG ds).isSome
 |_,_=>false
def E7 {b}(h:keyOk b d=true):oJ b d:=by
 cases b with
 |false =>
  obtain⟨k,hk⟩:=zbx.mp (show (kd d).isSome=true from h);rw[rY hk];exact .k k
 |true =>
  cases d with
  |tup ds =>
   obtain⟨k,hk⟩:=zbx.mp (show (yG ds).isSome=true from h);rw[jC hk];exact .t k
  |_=>cases h
def ID (a b:Key):Bw (Cz a) (Cz b)=decide (a=b):=by
 cases a with
 |inl i =>
  cases b with
  |inl j=>simp only[Cz,Bw];rw[zcp];simp
  |inr y=>simp[Cz,Bw]
 |inr x =>
  cases b with
  |inl j=>simp[Cz,Bw]
  |inr y=>simp only[Cz,Bw];rw[zcp];simp
def Pg:∀a b:List Key,Cq (a.map Cz) (b.map Cz)=decide (a=b)
 |[],[]|[],_::_|_::_,[]=>by simp[Cq]
 |a::r,b::t=>by
  rw[za6,za6,Cq,ID,Pg r t,zcp];simp
abbrev F5 {α:Type}:List D->List α->D->Option α
 |k::ks,v::vs,y=>if Bw k y=true then some v else F5 ks vs y
 |_,_,_=>none
abbrev KO {α:Type}:List D->List α->D->α->List α
 |k::ks,v::vs,y,z=>(if Bw k y=true then z else v)::KO ks vs y z
 |_,vs,_,_=>vs
abbrev OC (ks:List D)(y:D):Bool:=ks.any λ k=>Bw k y
section
variable {κ:Type} [DecidableEq κ] {fk:κ->D}(hf:∀a b,Bw (fk a) (fk b)=decide (a=b))
include hf
def Qy {α:Type}:∀(kvs:List (κ×α)) (k:κ),F5 (kvs.map λ kv=>fk kv.1) (kvs.map zbs) (fk k)=(kvs.find? λ kv=>decide (kv.1=k)).map (·.2)
 |[],k=>rfl
 |p::r,k=>by
  rw[za6,za6,F5,hf,zd0];by_cases e:p.1=k
  ·rw[decide_eq_true e];rfl
  ·rw[decide_eq_false e];simp only[zb1,if_false];exact Qy r k
def Lz {α:Type}(kvs:List (κ×α))(k:κ):OC (kvs.map λ kv=>fk kv.1) (fk k)=kvs.any λ kv=>decide (kv.1=k):=by
 unfold OC;rw[List.any_map];congr 1;funext kv;exact hf _ _
def IE (k:κ)(v:V):∀(kvs:List (κ×V)),KO (kvs.map λ kv=>fk kv.1) (kvs.map zbs) (fk k) v=(kvs.map λ kv=>if kv.1=k then (kv.1,v) else kv).map zbs
 |[]=>rfl
 |p::r=>by
  rw[za6,za6,KO,hf,za6,za6,IE k v r];by_cases e:p.1=k
  ·rw[decide_eq_true e,if_pos e];rfl
  ·rw[decide_eq_false e,if_neg e];rfl
def IF (k:κ)(v:V):∀(kvs:List (κ×V)),(kvs.map λ kv=>if kv.1=k then (kv.1,v) else kv).map (λ kv=>fk kv.1)=kvs.map λ kv=>fk kv.1
 |[]=>rfl
 |p::r=>by
  rw[za6,za6,za6,IF k v r];by_cases e:p.1=k
  ·rw[if_pos e]
  ·rw[if_neg e]
end
def LB {K:za1}{H:Hp}:∀ {ks:List D}{xs:List V}{ds:List D}{y d:D},Ak K H xs ds->F5 ks ds y=some d->∃x,F5 ks xs y=some x/\BQ K H x d
 |[],_,_,_,_,_,e|_::_,_,_,_,_,.nil,e=>by simp[F5] at e
 |k::ks,_,_,y,d,.cons h t,e=>by
  rw[F5] at e ⊢;by_cases q:Bw k y=true
  ·rw[if_pos q] at e ⊢;cases e;exact⟨_,rfl,h⟩
  ·rw[if_neg q] at e ⊢;exact LB t e
def ES {α:Type}:∀ {ks:List D}{xs:List α}{y:D},xs.length=ks.length->OC ks y=(F5 ks xs y).isSome
 |[],[],y,_=>rfl
 |k::ks,x::xs,y,h=>by
  unfold OC;rw[zd4,F5];cases q:Bw k y with
  |true=>rfl
  |false =>
   simp only[Bool.false_or,zb1,if_false];exact ES (by simpa using h)
 |[],_::_,_,h|_::_,[],_,h=>by cases h
def IG {K}(hv:BQ K (del H P) v d):∀ {ks:List D}{xs:List V}{ds:List D},Ak K (del H P) xs ds->Ak K (del H P) (KO ks xs y v) (KO ks ds y d)
 |[],_,_,h=>by simp only[KO];exact h
 |_::_,_,_,.nil=>by simp only[KO];exact .nil
 |k::ks,_,_,.cons h t=>by
  rw[KO,KO];refine .cons ?_ (IG hv t);by_cases q:Bw k y=true
  ·rw[if_pos q,if_pos q];exact hv
  ·rw[if_neg q,if_neg q];exact h
section
variable {K:za1}
def Ak.keys:∀ {xs:List V}(κ:List Key),Ak K H xs (κ.map Cz)->xs=κ.map kV
 |_,[],.nil=>rfl
 |_,k::r,.cons h t=>by
  rw[za6,<-Ak.keys r t];congr 1;cases k with
  |inl i=>exact h.int_inv
  |inr x=>cases h;rfl
def BQ.oK (h:BQ K H y (Cz κ)):y=kV κ:=by
 cases κ with
 |inl i=>exact h.int_inv
 |inr x=>cases h;rfl
def Ph {b}(hv:BQ K (del H P) v (.BE b ks vs))(hy:BQ K (del H P) y k)(hk:oJ b k):∃a xs,v=.ref a/\Q6 H a y (F5 ks xs k)/\Ak K (del H P) xs vs/\xs.length=ks.length:=by
 cases hv with
 |Vf hh hl =>
  cases hk with
  |k κ =>
   refine⟨_,_,rfl,?_,hl,by simp⟩;rw[hy.oK,Qy ID];exact .inl ⟨_,κ,hh.Be,rfl,rfl⟩
 |VN hh hl =>
  cases hk with
  |t κ =>
   cases hy with
   |tup ht al =>
    have e:=Ak.keys κ al;subst e;refine⟨_,_,rfl,?_,hl,by simp⟩;rw[Qy (fk:=λ κ:List Key=>D.tup (κ.map Cz)) (λ a b=>by simp only[Bw];exact Pg a b)];exact .inr ⟨_,κ,_,hh.Be,rfl,(Al ht).2,rfl⟩
end
section
variable {fp:Ah->M (List Nat)}{i:Nat}
abbrev aaq:R2:=λ x y H Q=>∃a v,x=.ref a/\Q6 H a y (some v)/\Q v H
def oM (hu:X.A.units+1<cLine):mZ X aaq:=by
 intro value slice pins s σ H x y v u Q I rx ry h hs;obtain⟨a,z,rfl,g,q⟩:=h;cases rx;have hT:=VF I g;have h₂:wpAny (model X.prog X.w) X.A (getItem (.ref a) u) (EP X pins σ Q) X.xe s:=bR hu I g ry λ w' s3 I3 aU=>⟨z,H,I3,aU,q⟩;unfold subscriptTail;refine wpAny_bind ?_;rw[getitemInPython_of_ne hT.not_modules];refine wpAny_bind (wpAny_specialOf hT PySem.F.slot_dict_getitem.lookup ?_);have fin:wpAny (model X.prog X.w) X.A (subscripted slice false (.ref a) u) (λ r s₃=>wpAny (model X.prog X.w) X.A (letTemporaryGo value (.ref a) r >>= λ _=>pure r) (EP X pins σ Q) X.xe s₃) X.xe s:=by
  rw[hs];exact wpAny_operating (wpAny_mono h₂ (λ r s₃ h₃=>wpAny_bind (wpAny_letTemporaryGo (wpAny_pure h₃))) λ _ _ x=>x)
 first
  |exact wpAny_pure (wpAny_bind fin)
  |exact wpAny_bind (wpAny_pure (wpAny_bind fin))
  |exact wpAny_bind fin
abbrev AB (x y:D):M D:=match x with
 | .BE b ks vs=>if keyOk b y=true then (match F5 ks vs y with|some d=>.ok d|none=>.bad) else .bad
 |x=>yB x y
def oN:Z4 X.K WX (λ x y H Q=>(uP X.K x y H Q\/uQ X.K x y H Q)\/aaq x y H Q) AB:=by
 intro P H x y v w Q ht hx hy h;cases x with
 |BE b ks vs =>
  simp only[AB] at h;by_cases hk:keyOk b y=true
  ·rw[if_pos hk] at h;obtain⟨a,xs,rfl,g,hl,_⟩:=Ph hx hy (E7 hk);split at h
   ·rename_i d e;obtain⟨u,e1,e2⟩:=LB hl e;rw[e1] at g;exact .inr ⟨a,u,rfl,g,h _ H (Aj.refl H) e2⟩
   ·exact h.elim
  ·rw[if_neg hk] at h;exact h.elim
 |Av|bl b|int b|str b|tup b|lst b|N5 b|ins b _ _=>exact .inl (Ir P H _ y v w Q ht hx hy h)
def Aa (hu:X.A.units+n<cLine)(ha:DE X WX c a f)(hb:DE X WX c b g)(hs:Pa b:=by exact λ _ _=>rfl)(hn:1<=n:=by decide):DE X WX c (.Subscript a b pos) (λ ρ=>(f ρ).bind λ x=>(g ρ).bind λ y=>AB x y):=zX ((YV.or gH).or (oM (by omega))) oN ha hb hs
abbrev vT (neg:Bool):R2:=λ y x H Q=>∃a o,x=.ref a/\Q6 H a y o/\Q (.bl (if neg=true then !o.isSome else o.isSome)) H
def XY (hu:X.A.units+1<cLine):GN X (compareOp .In) (vT false):=by
 intro pins s σ H x y v u Q I rx ry h;obtain⟨a,o,rfl,g,q⟩:=h;cases ry;exact abQ hu I g rx λ s3 I3=>⟨.bl o.isSome,H,I3,rfl,q⟩
def Sq (hu:X.A.units+1<cLine):GN X (compareOp .NotIn) (vT true):=by
 intro pins s σ H x y v u Q I rx ry h;obtain⟨a,o,rfl,g,q⟩:=h;cases ry;exact nI hu I g rx λ s3 I3=>⟨.bl (!o.isSome),H,I3,rfl,q⟩
abbrev LC (neg:Bool)(y x:D):M D:=match x with
 | .BE b ks vs=>if keyOk b y=true then .ok (.bl (if neg=true then !OC ks y else OC ks y)) else .bad
 |x=>dIn neg y x
def Ze:Z4 X.K WX (λ x y H Q=>rIn X.K neg x y H Q\/vT neg x y H Q) (LC neg):=by
 intro P H x y v w Q ht hx hy h;cases y with
 |BE b ks vs =>
  simp only[LC] at h;by_cases hk:keyOk b x=true
  ·rw[if_pos hk] at h;obtain⟨a,xs,rfl,g,hl,hn⟩:=Ph hy hx (E7 hk);rw[ES (xs:=xs) hn] at h;exact .inr ⟨a,_,rfl,g,h _ H (Aj.refl H) (.bl _)⟩
  ·rw[if_neg hk] at h;exact h.elim
 |Av|bl b|int b|str b|tup b|lst b|N5 b|ins b _ _=>exact .inl (Iy P H x _ v w Q ht hx hy h)
def Nr (hu:X.A.units+n<cLine)(ha:DE X WX c a f)(hb:DE X WX c b g)(hm: ~~~(behindInMarks .In b=false))(hn:1<=n:=by decide):DT X WX (.Compare a [.In] [b] pos) (λ ρ=>((f ρ).bind λ x=>(g ρ).bind λ y=>LC false x y).bind Sn):=GV (bM.or (XY (by omega))) Ze ha hb hm
def Pj (hu:X.A.units+n<cLine)(ha:DE X WX c a f)(hb:DE X WX c b g)(hm: ~~~(behindInMarks .NotIn b=false))(hn:1<=n:=by decide):DT X WX (.Compare a [.NotIn] [b] pos) (λ ρ=>((f ρ).bind λ x=>(g ρ).bind λ y=>LC true x y).bind Sn):=GV (Ud.or (Sq (by omega))) Ze ha hb hm
abbrev EG:D->M Bool
 | .Av=>.ok false
 | .bl b=>.ok b
 | .int i=>.ok (i != 0)
 | .tup ds| .lst ds=>.ok (!ds.isEmpty)
 |_=>.bad
def LD {K}(h:Ak K H xs ds):(!ds.isEmpty) = !xs.isEmpty:=by cases h<;>rfl
def B8 (h:DE X WX c e f)(he:∀whole,isTrue e X.env whole=(do let v <-whole;standAt e.pos;holding [v] (truthy v)):=by intro _;rfl):DT X WX e (λ ρ=>(f ρ).bind EG):=by
 obtain⟨t,h1,h2⟩:=h;refine⟨_,fW h1 he,λ P0 P σ H Q ρ E h=>h2 P0 P σ H _ ρ E ?_⟩;dsimp only at h;refine bV h λ d h=>?_;intro v H' s hv;cases hv with
 |Av=>exact⟨false,rfl,h H' s⟩
 |bl b=>exact⟨b,rfl,h H' s⟩
 |int i=>exact⟨_,rfl,h H' s⟩
 |tup hs hl=>exact⟨_,.inr (.inl ⟨_,FE.of (Al hs).2,rfl⟩),by rw[<-LD hl];exact h H' s⟩
 |lst hs hl=>exact⟨_,.inl ⟨_,hs.Be,rfl⟩,by rw[<-LD hl];exact h H' s⟩
 |_=>exact h.elim
end
abbrev HH (m:M (List D)):M OT:=match m with | .ok ys=>.ok (.lst (ys.map .sh)) | _=>.bad
section
variable {tg iter:Expr}{fi:Ah->M (List D)}{fs:Ah->M (List D)}
def jD (i2:∀P0 P σ H R ρ,Am X.K P0 P H σ ρ->(match fi ρ with | .ok ds=>∀J H',Aj H H'->XR X.K J P H' ds->R J H' | .ex x=>∀H',Aj H H'->WX x H' | .bad=>False)->wi σ H R)(g2:∀P0 P σ H Q ρ v d,Am X.K P0 P H σ ρ->BQ X.K (del H P) v d->gG X.K P0 P H Q (gt d ρ)->gg v σ H Q)(t2:∀s H' C ex P0 P σ H Q ρ,Am X.K P0 P H σ ρ->gT (λ _ _=>False) H Q (ft ρ)->tc s H' C ex σ H Q)(e2:∀s H' C ex P0 P σ H Q ρ,Am X.K P0 P H σ ρ->gV X.K (λ _ _=>False) (Lv true P0 P) H Q (fe ρ)->te s H' C ex σ H Q)(E:Am X.K P0 P H σ ρ)(h:eZ X.K WX P H Q ((fi ρ).bind λ ds=>if ds.length<=1000 then HH (Bb gt ft fe ds (Bf μ ρ)) else .bad)):VM wi μ gg tc te σ H Q:=by
 refine i2 P0 P σ H _ ρ E ?_;cases q:fi ρ with
 |bad|ex x=>rw[q] at h;exact h
 |ok ds =>
  rw[q] at h;simp only[M.A8] at h;by_cases hd:¬ ds.length<=1000
  ·rw[if_neg hd] at h;exact h.elim
  have hd:ds.length<=1000:=by omega
  rw[if_pos hd] at h;intro J H1 s1 ok s C ex;cases qc:Bb gt ft fe ds (Bf μ ρ) with
  |bad|ex x=>rw[qc] at h;exact h.elim
  |ok total =>
   rw[qc] at h;unfold HH at h;dsimp only at h;have E1:=E.same s1;refine⟨λ i m ys H2=>m=ds.length-i/\i<=ds.length/\ys.length<=i/\Aj H1 H2/\∃es rest,Ak X.K (del H2 P) ys es/\Bb gt ft fe (ds.drop i) (Bf μ ρ)=.ok rest/\es++rest=total,
    ⟨ds.length,by simp,zbb _,zag _,Aj.refl _,[],total,.nil,by rw[zd9];exact qc,rfl⟩,?_⟩
   rintro i m ys H2 ⟨rfl,hi,hy,s2,es,rest,ci,ae,a9⟩;by_cases af:i<ds.length
   ·refine .inr ⟨ok.go i P H2 s2.del af,Nat.lt_of_le_of_lt hy (AF (by omega)),λ aR H'=>i+1<=ds.length/\aR.length<=i+1/\Aj H1 H'/\∃es rest,Ak X.K (del H' P) aR es/\Bb gt ft fe (ds.drop (i+1)) (Bf μ ρ)=.ok rest/\es++rest=total,λ aR H' hq=>⟨ds.length-(i+1),by omega,rfl,hq.1,hq.2.1,hq.2.2.1,hq.2.2.2⟩,λ v H3 y=>?_⟩;have E2:=E1.same s2;obtain⟨s3,hv⟩:=ok.mM i P H2 v H3 ds[i] s2.del E2.Cb (za7 af) y;rw[Iv af,Bb] at ae;have E3:=(E2.same s3).block μ;refine g2 P0 P _ H3 _ (Bf μ ρ) v ds[i] E3 hv ?_;cases q1:gt ds[i] (Bf μ ρ) with
    |bad|ex x=>rw[q1] at ae;cases ae
    |ok ρ1 =>
     rw[q1] at ae;dsimp only at ae;intro σ4 E4;refine t2 s H1 C ex P0 P σ4 H3 _ ρ1 E4 ?_;cases q2:ft ρ1 with
     |bad|ex x=>rw[q2] at ae;cases ae
     |ok k =>
      rw[q2] at ae;dsimp only at ae;intro H5 s5;cases k with
      |false =>
       simp only[zb1,if_false] at ae ⊢;exact⟨af,by omega,(s2.trans s3).trans s5,es,rest,(ci.mono s3.del).mono s5.del,ae,a9⟩
      |true =>
       simp only[if_true] at ae ⊢;refine e2 s H1 C ex P0 P σ4 H5 _ ρ1 (E4.same s5) ?_;cases q3:fe ρ1 with
       |bad|ex x=>rw[q3] at ae;cases ae
       |ok y' =>
        rw[q3] at ae;dsimp only at ae;cases q4:Bb gt ft fe (ds.drop (i+1)) (Bf μ ρ) with
        |bad|ex x=>rw[q4] at ae;cases ae
        |ok kb =>
         rw[q4] at ae;cases ae;intro w H6 s6 hw;refine⟨af,by rw[zai,zbk];omega,((s2.trans s3).trans s5).trans s6,es++[y'],kb,(((ci.mono s3.del).mono s5.del).mono s6.del).snoc hw,rfl,?_⟩;rw[zbi];exact a9
   ·have e:i=ds.length:=by omega
    subst e;rw[zcs,Bb] at ae;cases ae;rw[zba] at a9;subst a9;exact .inl ⟨ok.stop _ P H2 s2.del (zag _),λ D0 hn=>h.K3 (s1.trans s2) ci D0 hn⟩
def CK (μ:List (Option Nat))(hc:X.calm=true)(hi:DI X WX tg iter fi)(av:Ia scope X.env.scope=true)(bd:Sl X.N NB scope μ=true)(hg:yC X scope NB μ tg gt)(ht:∀s H C ex,yD (blockOf X s H scope C NB ex) ifs ft)(he:∀s H C ex,DE (blockOf X s H scope C NB ex) (λ _ _=>False) true elt fe)(hs:∀x,foldedSetIterable iter X.env x=pure x:=by intro _;rfl):
 DN X WX (.ListComp elt [⟨tg,iter,ifs,0⟩] scope pos) (λ ρ=>(fi ρ).bind λ ds=>if ds.length<=1000 then HH (Bb gt ft fe ds (Bf μ ρ)) else .bad):=by
 obtain⟨wi,i1,i2⟩:=hi;obtain⟨gg,g1,gk,g2⟩:=hg;refine⟨_,YY hc i1 av bd gk (λ s H C ex=>⟨g1 s H C ex,(za0 (ht s H C ex)).1,(za0 (he s H C ex)).1⟩) hs,λ P0 P σ H Q ρ E h=>?_⟩;exact jD i2 g2 (λ s H' C ex P0 P σ H Q ρ E h=>(za0 (ht s H' C ex)).2 P0 P σ H Q ρ E h) (λ s H' C ex P0 P σ H Q ρ E h=>(za0 (he s H' C ex)).2 P0 P σ H Q ρ E h) E h
def jE (i:Nat)(μ:List (Option Nat))(hN:X.N.Nodup)(j6:X.N[i]?=some x)(hx:Loc X.env.scope x)(hc:X.calm=true)(hi:DI X WX tg iter fi)(av:Ia scope X.env.scope=true)(bd:Sl X.N NB scope μ=true)(hg:yC X scope NB μ tg gt)(ht:∀s H C ex,yD (blockOf X s H scope C NB ex) ifs ft)(he:∀s H C ex,DE (blockOf X s H scope C NB ex) (λ _ _=>False) true elt fe)(be: ~~~(swapsWith (.ListComp elt [⟨tg,iter,ifs,0⟩] scope pos) (some (.Name x px)) az.line X.env=pure true))(hs:∀x,foldedSetIterable iter X.env x=pure x:=by intro _;rfl)(hf:X.fn x=true\/X.env.scope.names.lookup x=some .local:=by first|exact .inl rfl|exact .inr rfl|assumption):
 DS X WX (.Assign [.Name x px] (.ListComp elt [⟨tg,iter,ifs,0⟩] scope pos) az) (λ ρ=>(Xl ((fi (FA ρ)).bind λ ds=>if ds.length<=1000 then HH (Bb gt ft fe ds (Bf μ (FA ρ))) else .bad)).bind (So i ρ)):=by
 obtain⟨wi,i1,i2⟩:=hi;obtain⟨gg,g1,gk,g2⟩:=hg;refine⟨_,YZ hN j6 hx hc i1 av bd gk (λ s H C ex=>⟨g1 s H C ex,(za0 (ht s H C ex)).1,(za0 (he s H C ex)).1⟩) be hs hf,λ P0 P σ H Z ρ E h=>?_⟩;refine jD (P0:=P0) (P:=P0) i2 g2 (λ s H' C ex P0 P σ H Q ρ E h=>(za0 (ht s H' C ex)).2 P0 P σ H Q ρ E h) (λ s H' C ex P0 P σ H Q ρ E h=>(za0 (he s H' C ex)).2 P0 P σ H Q ρ E h) E.low ?_;dsimp only at h;revert h;cases ((fi (FA ρ)).bind λ ds=>if ds.length<=1000 then HH (Bb gt ft fe ds (Bf μ (FA ρ))) else .bad) with
 |bad=>exact λ h=>h
 |ex y=>exact λ h H' s=>h H' P (E.tr s)
 |ok t =>
  unfold Xl;simp only[M.A8];by_cases hf:IC t=true
  ·rw[if_pos hf];exact λ h v fp H' s hn nd o=>rX E s hn nd (o.clean (GZ (E.same s).Cb o) hf) h
  ·rw[if_neg hf];exact λ h=>h.elim
end
abbrev abZ (K:za1)(WX:Str->Hp->Prop)(P:Addr->Prop)(p:Addr)(fp:List Addr)(H:Hp)(Q:VK):M (OT×OT)->Prop
 | .ok (t,r)=>∀v H' P' ah fr,(∀a,P a->a∉fp->P' a/\H' a=H a)->(∀a,P' a->EY H' a)->Aj (del H P) (del H' P')->C6 K H' P' (.ref p) t ah->ah.Nodup->C6 K H' P' v r fr->fr.Nodup->(∀a∈fr,a∉ah)->
  (∀a∈ah,P' a/\(P a->a∈fp))->(∀a∈fr,P' a/\(P a->a∈fp))->Q v H'
 | .ex _| .bad=>False
abbrev Tg (K:za1)(n:Nat)(F:OT->List D->M (OT×OT)):Sp:=λ vs H Q E=>vs.length=n/\∃P p t fp rest ar,vs=.ref p::rest/\(∀a,P a->EY H a)/\(∀a∈fp,P a)/\fp.Nodup/\C6 K H P (.ref p) t fp/\Ak K (del H P) rest ar/\abZ K (CQ K E) P p fp H Q (F t ar)
abbrev D8 (N:List Str)(t:OT)(ar:List D):Ah:=some (toCl (some 0) t)::(ar.map (λ d=>some (.val d))++zak (N.length-(ar.length+1)) none)
abbrev IH (ρ:Ah):Option OT:=match ρ[0]? with
 |some (some c)=>(match treeOf c with|some (some 0,t)=>some t|_=>none)
 |_=>none
abbrev F6 (m:M Out):M (OT×OT):=match m with
 | .ok (.next ρ)=>(match IH ρ with|some t=>.ok (t,.sh .Av)|none=>.bad)
 | .ok (.FX r ρ)=>(match IH ρ with|some t=>.ok (t,r)|none=>.bad)
 |_=>.bad
def cN (p:Option Nat)(t:OT):GU (toCl p t)=true:=by
 unfold toCl;split
 ·rename_i ts;cases q:F4 ts with
  |none=>rfl
  |some ds=>cases p<;>rfl
 ·rfl
def LF {K}{rest}(ht:∀a,P a->EY H a)(hp:∀a∈fp,P a)(nd:fp.Nodup)(o:C6 K H P (.ref p) t fp)(h:Ak K (del H P) rest ar):
 Am K ⟨λ a=>P a/\a∉fp,λ _=>p⟩ P H (start N (.ref p::rest)) (D8 N t ar):=by
 have hl:=h.length;have key:∀(i:Nat) (c:Cl),(ar.map (λ d=>some (Cl.val d))++zak (N.length-(ar.length+1)) none)[i]?=some (some c)->∃d,ar[i]?=some d/\c=.val d:=λ i c e=>by
  by_cases hi:i<ar.length
  ·rw[zcb (by simpa using hi),zax] at e;cases q:ar[i]? with
   |none=>rw[q] at e;cases e
   |some d=>rw[q] at e;cases e;exact⟨d,rfl,rfl⟩
  ·rw[zd5 (by simpa using hi),zcq] at e;split at e<;>cases e
 have vo:(start N (.ref p::rest))[0]?=some (some (.ref p)):=by unfold start;rfl
 refine⟨λ a h=>h.1,ht,λ i d e=>?_,λ i c e io=>?_,λ i j c c' v v' fp ah e1 e2 _ _ o1 o2 ad=>?_,?_,λ i c n e x5=>?_⟩
 rotate_left 4
 ·cases i with
  |zero=>exact vo
  |succ i =>
   obtain⟨d',q,z⟩:=key i _ (by unfold D8 at e;simpa using e);cases z;cases x5
 ·cases i with
  |zero =>
   have e':some (toCl (some 0) t)=some (.val d):=by simpa [D8] using e
   have:=cN (some 0) t;rw[zao e'] at this;cases this
  |succ i =>
   obtain⟨d',q,z⟩:=key i _ (by unfold D8 at e;simpa using e);cases z;obtain⟨v,hv,hd⟩:=h.get q;refine⟨v,?_,hd⟩;unfold start;rw[za6,zdb,zaz,zcb (by rw[za2];exact (zaf.mp hv).1),zax,hv];rfl
 ·cases i with
  |zero =>
   have e':toCl (some 0) t=c:=by simpa [D8] using e
   subst e';exact⟨_,fp,vo,Dd.toCl o,λ a ha=>⟨hp a ha,λ z=>z.2 ha⟩,nd⟩
  |succ i =>
   obtain⟨d',q,z⟩:=key i _ (by unfold D8 at e;simpa using e);cases z;cases io
 ·cases i with
  |zero =>
   cases j with
   |zero=>exact (ad rfl).elim
   |succ j =>
    obtain⟨d',q,z⟩:=key j _ (by unfold D8 at e2;simpa using e2);cases z;exact o2.elim
  |succ i =>
   obtain⟨d',q,z⟩:=key i _ (by unfold D8 at e1;simpa using e1);cases z;exact o1.elim
 ·unfold start D8;simp[hl]
section
variable {P:Program}{w:World}{K:za1}
def Pk (E:Am K P0 P' H' σ' ρ)(h:IH ρ=some t):∃c ah,ρ[0]?=some (some c)/\σ'[0]?=some (some (.ref (P0.g 0)))/\Dd K H' P' c (.ref (P0.g 0)) ah/\C6 K H' P' (.ref (P0.g 0)) t ah/\ah.Nodup/\∀a∈ah,P' a/\¬ P0 a:=by
 unfold IH at h;split at h
 ·rename_i c e;split at h
  ·rename_i t' e2;cases h;have io:GU c=true:=by cases c<;>first|rfl|cases e2
   obtain⟨v,fp,k1,k2,k3,k4⟩:=E.ows 0 c e io;have:=E.pin 0 c 0 e (KN e2);rw[k1] at this;cases this;exact⟨c,fp,e,k1,k2,k2.toT e2,k4,k3⟩
  ·cases h
 ·cases h
def vU {st}{f}(F:eY K x qual st f fd)(S:Ab N ps (A3 st))(g:Ah->M Out)(hb:∀(AZ:Value) (A:Around) (outer:List Env) (s:Shared) (H:Hp) (E:XK),Br k (A.deeper (envOfC qual (A3 st) s.heap.objs.size f AZ))->Vg (mC P w K mg base N qual (A3 st) f AZ A outer s H E) (CQ K E) (AE st) g):
 CL P w K mg base (S6 P w base) (k+1) f fd ps (Tg K ps.length λ t ar=>F6 (g (D8 N t ar))):=by
 obtain⟨oc,od,kV,doc,pm,an,AZ,ct,Vw,rfl,lk,aQ⟩:=F.ex;refine Vv lk aQ S (λ vs H Q E h=>h.1) λ A outer s H vs Q E hr h=>?_;obtain⟨hl,P',p,t,fp,rest,ar,rfl,ht,hp,nd,ho,hv,hq⟩:=h;obtain⟨tt,h1,h2⟩:=hb AZ A outer s H E hr;refine⟨tt,h1,h2 ⟨λ a=>P' a/\a∉fp,λ _=>p⟩ P' _ H _ _ (LF ht hp nd ho hv) ?_⟩;dsimp only at hq;revert hq;cases g (D8 N t ar) with
 |bad|ex x=>exact λ h=>h.elim
 |ok o =>
  have sub:∀ {P2:Addr->Prop} {H2:Hp} {σ2:St} {ρ:Ah},Am K ⟨λ a=>P' a/\a∉fp,λ _=>p⟩ P2 H2 σ2 ρ->∀a,P2 a/\¬ (P' a/\a∉fp)->P2 a/\(P' a->a∈fp):=λ E a ha=>⟨ha.1,λ z=>zd1 λ w=>ha.2 ⟨z,w⟩⟩;cases o with
  |ret d|CC d=>exact λ h=>h.elim
  |next ρ =>
   intro hq σ' H' P2 t2 E2;unfold F6 at hq;dsimp only at hq;split at hq
   ·rename_i t' e;obtain⟨c,ah,k1,k2,k3,k4,k5,k6⟩:=Pk E2 e;exact hq .Av H' P2 ah [] (λ a ha hn=>⟨E2.sub a ⟨ha,hn⟩,t2.2 a ⟨ha,hn⟩⟩) E2.Cb t2.1 k4 k5 (.sh .Av) zbn (λ a ha=>by cases ha) (λ a ha=>sub E2 a (k6 a ha)) (λ a ha=>by cases ha)
   ·exact hq.elim
  |FX r ρ =>
   intro hq v fr σ' H' P2 t2 E2 o2 aO hf;unfold F6 at hq;dsimp only at hq;split at hq
   ·rename_i t' e;obtain⟨c,ah,k1,k2,k3,k4,k5,k6⟩:=Pk E2 e;exact hq v H' P2 ah fr (λ a ha hn=>⟨E2.sub a ⟨ha,hn⟩,t2.2 a ⟨ha,hn⟩⟩) E2.Cb t2.1 k4 k5 o2 aO (λ a ha=>(hf a ha).2.2 0 c _ ah k1 k2 k3) (λ a ha=>sub E2 a (k6 a ha)) (λ a ha=>sub E2 a ⟨(hf a ha).1,(hf a ha).2.1⟩)
   ·exact hq.elim
  |brk ρ|cont ρ=>exact λ h=>h.elim
end
structure LG (P:Program)(w:World)(K:za1)(mg:Str->Option Value)(base:Heap)(x:Str)(k n:Nat)(F:OT->List D->M (OT×OT)):Prop where
 ex:∃fa fd ps,CL P w K mg base (S6 P w base) k fa fd ps (Tg K n F)/\mg x=some (.ref fa)/\zbe K (.ref fa)=true/\Binds K fd ps []
def Qz {P}{K}{st}(T:Ay K mg x st ps)(S:Ab N ps (A3 st))(g:Ah->M Out)(hb:∀(f:Addr) (AZ:Value) (A:Around) (outer:List Env) (s:Shared) (H:Hp) (E:XK),Br k (A.deeper (envOfC x (A3 st) s.heap.objs.size f AZ))->Vg (mC P w K mg base N x (A3 st) f AZ A outer s H E) (CQ K E) (AE st) g)(hn: ~~~(ps.length=n)):
 LG P w K mg base x (k+1) n (λ t ar=>F6 (g (D8 N t ar))):=by
 obtain⟨f,fd,F,hm,hB⟩:=T.ex;subst hn;exact⟨⟨f,fd,ps,vU F S g (hb f),hm,F.kp,hB⟩⟩
section
variable {fp:Ah->M (List Nat)}{i:Nat}{fs:Ah->M (List D)}
def Am.new {K:za1}{P':Addr->Prop}{H':Hp}(E:Am K P0 P H σ ρ)(s:Aj H H')(sm:Aj (del H P) (del H' P')){a:Addr}(hn:H a=none):∀(j:Nat) c v fq,ρ[j]?=some (some c)->σ[j]?=some (some v)->Dd K H' P' c v fq->a∉fq:=λ j c v fq h1 h2 h3 ha=>by
 have io:GU c=true:=by cases c<;>first|rfl|exact h3.elim
 obtain⟨w,fr,k1,k2,k3,k4⟩:=E.ows j c h1 io;rw[h2] at k1;cases k1;have m:=k2.move sm λ b hb=>by obtain⟨o,q⟩:=k2.at b hb;rw[q];exact s _ _ q
 rw[h3.Cj m] at ha;obtain⟨o,q⟩:=k2.at a ha;rw[hn] at q;cases q
def Am.rZ {K}(E:Am K P0 P H σ ρ)(pl:Bm K P H σ ρ i π v1 t1)(o:C6 K H P v1 t1 aq)(hs:∀a,P a->a∉aq->P' a/\H' a=H a)(ht:∀a,P' a->EY H' a)(sm:Aj (del H P) (del H' P'))(o':C6 K H' P' v1 u fu)(nd:fu.Nodup)(hf:∀a∈fu,P' a/\(P a->a∈aq))(or:C6 K H' P' v2 r fr)(ndr:fr.Nodup)(hr:∀a∈fr,P' a/\(P a->a∈aq))(dj:∀a∈fr,a∉fu):
 ∃c p t,ρ[i]?=some (some c)/\treeOf c=some (p,t)/\Am K P0 P' H' σ (ρ.set i (some (toCl p (F3 t π u))))/\Tr P0 P H P' H'/\
  ∀a∈fr,P' a/\¬ P0 a/\∀(j:Nat) c' v fq,(ρ.set i (some (toCl p (F3 t π u))))[j]?=some (some c')->σ[j]?=some (some v)->Dd K H' P' c' v fq->a∉fq:=by
 obtain⟨v0,c,p,t,h1,h2,h3,h4⟩:=pl.ex;have io:GU c=true:=by cases c<;>first|rfl|cases h2
 obtain⟨w,fp,k1,k2,k3,k4⟩:=E.ows i c h1 io;rw[h3] at k1;cases k1;have ot:=k2.toT h2;obtain⟨fz,oz,kz,_⟩:=ot.part h4;have:=oz.Cj o;subst this;obtain⟨ah,q1,q2,q3⟩:=ot.put sm h4 o o' (λ a ha hn=>(hs a (k3 a ha).1 hn).2) k4 nd (λ a ha hb=>(hf a ha).2 (k3 a hb).1);have vp:∀(j:Nat) c' v' fq,i≠j->ρ[j]?=some (some c')->σ[j]?=some (some v')->Dd K H P c' v' fq->∀a∈fq,P a/\a∉fp:=λ j c' v' fq ad g1 g2 g3 a ha=>by
  have kh:GU c'=true:=by cases c'<;>first|rfl|exact g3.elim
  obtain⟨w',r6,m1,m2,m3,m4⟩:=E.ows j c' g1 kh;rw[g2] at m1;cases m1;have:=m2.Cj g3;subst this;exact⟨(m3 a ha).1,E.apart j i c' c v' v0 r6 fp g1 h1 g2 h3 g3 k2 (zbm ad) a ha⟩
 have key:=E.aae (P':=P') (H':=H') (i:=i) (v:=v0) (c:=toCl p (F3 t π u)) (fp:=ah) (λ a ha=>(hs a (E.sub a ha) λ z=>(k3 a (kz a z)).2 ha).1) ht sm (λ j c' v' fq ad g1 g2 g3 a ha=>?_) (Dd.toCl q1) (λ a ha=>?_) q2 (λ n z=>by rw[Ha] at z;subst z;have:=E.pin i c n h1 (KN h2);rw[h3] at this;cases this;rfl)
 ·rw[Uq h3] at key;refine⟨c,p,t,h1,h2,key,⟨sm,λ a ha=>(hs a (E.sub a ha) λ z=>(k3 a (kz a z)).2 ha).2⟩,λ a ha=>⟨(hr a ha).1,λ z=>(k3 a (kz a ((hr a ha).2 (E.sub a z)))).2 z,λ j c' v fq g1 g2 g3 hb=>?_⟩⟩;rcases get_set g1 with ⟨rfl,hl,z⟩|⟨ad,g1⟩
  ·cases z;rw[h3] at g2;cases g2;rw[g3.Cj (Dd.toCl q1)] at hb;rcases q3 a hb with y|y
   ·exact dj a ha y
   ·exact y.2 ((hr a ha).2 (k3 a y.1).1)
  ·have kh:GU c'=true:=by cases c'<;>first|rfl|exact g3.elim
   obtain⟨w',r6,m1,m2,m3,m4⟩:=E.ows j c' g1 kh;rw[g2] at m1;cases m1;have o2:=vp j c' v r6 ad g1 g2 m2;have mv:=m2.move sm λ b ay=>(hs b (o2 b ay).1 λ z=>(o2 b ay).2 (kz b z)).2;rw[g3.Cj mv] at hb;exact (o2 a hb).2 (kz a ((hr a ha).2 (o2 a hb).1))
 ·have o2:=vp j c' v' fq ad g1 g2 g3 a ha;have hk:=hs a o2.1 λ z=>o2.2 (kz a z);refine⟨hk.2,λ z=>?_,hk.1⟩;rcases q3 a z with y|y
  ·exact o2.2 (kz a ((hf a y).2 o2.1))
  ·exact o2.2 y.1
 ·rcases q3 a ha with y|y
  ·exact⟨(hf a y).1,λ z=>(k3 a (kz a ((hf a y).2 (E.sub a z)))).2 z⟩
  ·exact⟨(hs a (k3 a y.1).1 y.2).1,(k3 a y.1).2⟩
end
abbrev II (i:Nat)(ρ:Ah)(π:List Nat)(u:OT):M Out:=match ρ[i]? with
 |some (some c)=>(match treeOf c with|some (p,t)=>.ok (.next (ρ.set i (some (toCl p (F3 t π u)))))|none=>.bad)
 |_=>.bad
abbrev E8 (i:Nat)(ρ:Ah)(π:List Nat):M (List OT):=match XX i ρ π with | some (.lst ts)=>.ok ts | _=>.bad
def Hb {c}(h:ρ[i]?=some (some c))(ht:treeOf c=some (p,t)):II i ρ π u=.ok (.next (ρ.set i (some (toCl p (F3 t π u))))):=by
 unfold II;simp only[h,ht]
def Ax.append {K:za1}{H:Hp}{P:Addr->Prop}:∀ {xs ys:List V}{ts us:List OT}{fp fq:List Addr},Ax K H P xs ts fp->Ax K H P ys us fq->Ax K H P (xs++ys) (ts++us) (fp++fq)
 |_,_,_,_,_,_,.nil,h=>h
 |_,_,_,_,_,_,.cons a t,h=>by rw[zbi];exact .cons a (t.append h)
section
variable {fp:Ah->M (List Nat)}{i:Nat}{fs:Ah->M (List D)}
def Bm.lst {K}(pl:Bm K P H σ ρ i π v t1)(E:Am K P0 P H σ ρ)(h:E8 i ρ π=.ok ts):t1=.lst ts/\∃l xs fq,v=.ref l/\H l=some (.lst xs)/\Ax K H P xs ts fq/\l∉fq/\fq.Nodup:=by
 unfold E8 at h;rw[pl.at] at h;split at h
 ·rename_i r9 e;cases e;cases h;obtain⟨aq,o1,hp,nd⟩:=pl.own E;cases o1 with
  |lst hh hr=>exact⟨rfl,_,_,_,rfl,hh,hr,(zbd.mp nd).1,(zbd.mp nd).2⟩
 ·cases h
def XZ (ha:DP X WX a i fp)(he:DN X WX e fn)(hs: ~~~(starEach [e] X.env=[(false,eval e X.env)]))(be: ~~~(swapsWith (.Call (.Attribute a "append" apos) [e] [] ac) none pos.line X.env=pure false))(ai: ~~~(attributeBase a "append" X.env (eval a X.env)=eval a X.env))(aI: ~~~(((backTo ac (starEach [e] X.env)).all (λ x => !x.1)&&(backToKw ac (keywordEach [] X.env)).all (λ x=>x.1.isSome)&&decide (([e]:List Expr).length+([]:List Keyword).length+(if ([]:List Keyword).isEmpty then 0 else 1)<30))=true))(aj: ~~~((apos.endLine==ac.line)=true))(ao: ~~~((backTo ac (starEach [] X.env)).any (·.1)=false)):
 DS X WX (.Expr (.Call (.Attribute a "append" apos) [e] [] ac) pos) (λ ρ=>(fp ρ).bind λ π=>(E8 i ρ π).bind λ ts=>(fn ρ).bind λ t=>if ts.length<1000 then II i ρ π (.lst (ts++[t])) else .bad):=by
 obtain⟨ta,a1,a2⟩:=ha;obtain⟨te,e1,e2⟩:=he;refine⟨_,FF (VA zc2 PySem.F.slot_list_append PySem.F.type_list_append SX a1 (Ba e1 Ci hs) ai aI aj hs ao) be,λ P0 P σ H Z ρ E h=>?_⟩;dsimp only at h;refine a2 P0 P σ H _ ρ E ?_;refine iN h E λ π h=>?_;intro v t1 H1 s1 pl;have E1:=E.same s1;cases q1:E8 i ρ π with
 |bad=>rw[q1] at h;exact h.elim
 |ex x=>unfold E8 at q1;split at q1<;>cases q1
 |ok ts =>
  rw[q1] at h;simp only[M.A8] at h;obtain⟨rfl,l,xs,fq,rfl,hl,ol,nl,vq⟩:=pl.lst E1 q1;refine⟨.inl ⟨rfl,xs,.of hl⟩,e2 P0 P σ H1 _ ρ E1 ?_⟩;cases q2:fn ρ with
  |bad=>rw[q2] at h;exact h
  |ex y=>rw[q2] at h;exact λ H' s=>h H' P ((E.tr s1).trans (E1.tr s))
  |ok t =>
   rw[q2] at h;simp only[M.A8] at h;by_cases hz:ts.length<1000
   ·rw[if_pos hz] at h;intro w fw H2 s2 n2 aO o2;have sm:=Cr (P:=P) s2 n2;have E2:Am X.K P0 (PU P fw) H2 σ ρ:=E1.more s2 Nn (GZ (E1.same s2).Cb o2) sm;have keep:∀b∈fq,H2 b=H1 b:=λ b hb=>by obtain⟨o,z,_⟩:=ol.Cb b hb;rw[z];exact s2 _ _ z
    have f6:=ol.move sm keep;have al:=s2 _ _ hl;have dj:∀b∈fq,b∉fw:=λ b hb hc=>(ol.Cb b hb).no (n2 b hc);obtain⟨c,p,t0,g1,g2,E3,t3⟩:=E2.oI (pl.more sm s2) al f6 (us:=ts++[t]) (ys:=xs++[w]) (f6.append (.cons o2 .nil)) (by rw[zba];exact zaw.mpr ⟨vq,aO,λ b hb d hd z=>dj b hb (by rw[z];exact hd)⟩) (by
     rw[zba];intro z;rcases zal.mp z with z|z
     ·exact nl z
     ·rw[n2 l z] at hl;cases hl) (by
     intro b hb;rw[zba] at hb;rcases zal.mp hb with z|z
     ·exact .inl z
     ·exact .inr ⟨.inr z,λ y=>(E1.Cb b (E1.sub b y)).no (n2 b z),E1.new s2 sm (n2 b z)⟩)
    rw[Hb g1 g2] at h;exact⟨l,xs,w,rfl,rfl,al,AF (by rw[ol.len];exact zbq hz),h _ _ _ (((E.tr s1).trans (E1.trn s2 n2)).trans t3) E3⟩
   ·rw[if_neg hz] at h;exact h.elim
abbrev oO {α:Type}(o:Option α):M α:=match o with | some x=>.ok x | none=>.bad
abbrev Vh (i:Nat)(ρ:Ah)(π:List Nat):M (List D):=match XX i ρ π with | some (.lst ts)=>(match F4 ts with | some ds=>.ok ds | none=>.bad) | _=>.bad
def Bm.shl {K}(pl:Bm K P H σ ρ i π v t1)(E:Am K P0 P H σ ρ)(h:Vh i ρ π=.ok ds):t1=.lst (ds.map .sh)/\∃l xs,v=.ref l/\H l=some (.lst xs)/\Ak K (del H P) xs ds:=by
 unfold Vh at h;rw[pl.at] at h;split at h
 ·rename_i r9 e;split at h
  ·rename_i n4 e';cases e;cases h;have z:=Dx e';subst z;obtain⟨aq,o1,hp,nd⟩:=pl.own E;cases o1 with
   |lst hh hr=>exact⟨rfl,_,_,rfl,hh,hr.vR.2⟩
  ·cases h
 ·cases h
def Y0 (h:Vh i ρ π=.ex x):False:=by
 unfold Vh at h;split at h
 ·split at h<;>cases h
 ·cases h
def Am.aar {K}{es}(E:Am K P0 P H σ ρ)(pl:Bm K P H σ ρ i π (.ref l) (.lst (ds.map .sh)))(hH:H l=some (.lst xs))(o:Ak K (del H P) xs ds)(o':Ak K (del H P) ys es):
 ∃c p t,ρ[i]?=some (some c)/\treeOf c=some (p,t)/\Am K P0 P (upd H l (.lst ys)) σ (ρ.set i (some (toCl p (F3 t π (.lst (es.map .sh))))))/\Tr P0 P H P (upd H l (.lst ys)):=
 E.oI pl hH o.ows o'.ows zbn (λ z=>by cases z) (λ a ha=>by cases ha)
abbrev oP (t:OT):M (List D):=match t with | .lst us=>oO (F4 us) | _=>.bad
def Y1 (ha:DP X WX a i fp)(he:DN X WX e fn)(hs: ~~~(starEach [e] X.env=[(false,eval e X.env)]))(be: ~~~(swapsWith (.Call (.Attribute a "extend" apos) [e] [] ac) none pos.line X.env=pure false))(ai: ~~~(attributeBase a "extend" X.env (eval a X.env)=eval a X.env))(aI: ~~~(((backTo ac (starEach [e] X.env)).all (λ x => !x.1)&&(backToKw ac (keywordEach [] X.env)).all (λ x=>x.1.isSome)&&decide (([e]:List Expr).length+([]:List Keyword).length+(if ([]:List Keyword).isEmpty then 0 else 1)<30))=true))(aj: ~~~((apos.endLine==ac.line)=true))(ao: ~~~((backTo ac (starEach [] X.env)).any (·.1)=false)):
 DS X WX (.Expr (.Call (.Attribute a "extend" apos) [e] [] ac) pos) (λ ρ=>(fp ρ).bind λ π=>(Vh i ρ π).bind λ ds=>((fn ρ).bind oP).bind λ es=>if ds.length+es.length<=1000 then II i ρ π (.lst ((ds++es).map .sh)) else .bad):=by
 obtain⟨ta,a1,a2⟩:=ha;obtain⟨te,e1,e2⟩:=he;refine⟨_,FF (VA zc2 PySem.F.slot_list_extend PySem.F.type_list_extend bO a1 (Ba e1 Ci hs) ai aI aj hs ao) be,λ P0 P σ H Z ρ E h=>?_⟩;dsimp only at h;refine a2 P0 P σ H _ ρ E ?_;refine iN h E λ π h=>?_;intro v t1 H1 s1 pl;have E1:=E.same s1;cases q1:Vh i ρ π with
 |bad=>rw[q1] at h;exact h.elim
 |ex x=>exact (Y0 q1).elim
 |ok ds =>
  rw[q1] at h;simp only[M.A8] at h;obtain⟨rfl,l,xs,rfl,hl,ol⟩:=pl.shl E1 q1;refine⟨.inl ⟨rfl,xs,.of hl⟩,e2 P0 P σ H1 _ ρ E1 ?_⟩;cases q2:fn ρ with
  |bad=>rw[q2] at h;exact h
  |ex y=>rw[q2] at h;exact λ H' s=>h H' P ((E.tr s1).trans (E1.tr s))
  |ok t =>
   rw[q2] at h;simp only[M.A8] at h;intro w fw H2 s2 n2 aO o2;have sm:=Cr (P:=P) s2 n2;have E2:Am X.K P0 (PU P fw) H2 σ ρ:=E1.more s2 Nn (GZ (E1.same s2).Cb o2) sm;cases t with
   |lst us =>
    simp only[oP] at h;cases q3:F4 us with
    |none=>rw[q3] at h;exact h.elim
    |some es =>
     rw[q3] at h;simp only[oO,M.A8] at h;have z:=Dx q3;subst z;cases o2 with
     |lst hb hr =>
      by_cases hz:ds.length+es.length<=1000
      ·rw[if_pos hz] at h;have he:=hr.vR.2;have f6:=ol.mono sm;have al:=s2 _ _ hl;obtain⟨c,p,t0,g1,g2,E3,t3⟩:=E2.aar (pl.more sm s2) al f6 (f6.append he);rw[Hb g1 g2] at h;exact⟨l,_,xs,_,rfl,rfl,al,hb,zbq (AF (by rw[ol.length,he.length];exact hz)),h _ _ _ (((E.tr s1).trans (E1.trn s2 n2)).trans t3) E3⟩
      ·rw[if_neg hz] at h;exact h.elim
   |_=>exact h.elim
end
abbrev gX (K:za1)(WX:Str->Hp->Prop)(P0:Eh)(P:Addr->Prop)(H:Hp)(σ:St)(Q:VK):M (Ah×OT)->Prop
 | .ok (ρ,t)=>∀v fp H' P',Tr P0 P H P' H'->Am K P0 P' H' σ ρ->C6 K H' P' v t fp->fp.Nodup->(∀a∈fp,P' a/\¬ P0 a/\∀(j:Nat) c v' fq,ρ[j]?=some (some c)->σ[j]?=some (some v')->Dd K H' P' c v' fq->a∉fq)->Q v H'
 | .ex x=>∀H' P',Tr P0 P H P' H'->WX x H'
 | .bad=>False
abbrev DX (X:Cx)(WX:Str->Hp->Prop)(e:Expr)(f:Ah->M (Ah×OT)):Prop:=
 ∃t,PE X e t/\∀P0 P σ H Q ρ,Am X.K P0 P H σ ρ->gX X.K WX P0 P H σ Q (f ρ)->t σ H Q
abbrev W3:OT->Bool
 | .sh _=>false
 |_=>true
abbrev NZ (i:Nat)(F:OT->List D->M (OT×OT))(ρ:Ah)(π:List Nat)(ar:List D):M (Ah×OT):=match ρ[i]? with
 |some (some c)=>(match treeOf c with
  |some (p,t)=>(match Nm t π with
   |some t1=>if W3 t1=true then (match F t1 ar with | .ok (t2,r)=>.ok (ρ.set i (some (toCl p (F3 t π t2))),r)|_=>.bad) else .bad
   |none=>.bad)
  |none=>.bad)
 |_=>.bad
section
variable {fp:Ah->M (List Nat)}{i:Nat}{fs:Ah->M (List D)}
def jF {c}(h:ρ[i]?=some (some c))(ht:treeOf c=some (p,t))(hs:Nm t π=some t1)(hN:W3 t1=true)(hF:F t1 ar=.ok (t2,r)):NZ i F ρ π ar=.ok (ρ.set i (some (toCl p (F3 t π t2))),r):=by
 unfold NZ;simp only[h,ht,hs,hN,if_true,hF]
def jG (xo:Gh X E)(G:LG X.prog X.w X.K X.mg X.base x k n F)(hr:Br k X.A)(hg:Gl X x)(hp:DP X (CQ X.K E) a i fp)(ha:DA X (CQ X.K E) true es fs)(hn:es.length+1=n)(aK:(x==("__debug__" : Str))=false:=by decide)(he: ~~~(starEach (a::es) X.env=(false,eval a X.env)::starEach es X.env))(hpl: ~~~((backTo pos (starEach es X.env)).any (·.1)=false)):
 DX X (CQ X.K E) (.Call (.Name x p) (a::es) [] pos) (λ ρ=>(fp ρ).bind λ π=>(fs ρ).bind λ ar=>NZ i F ρ π ar):=by
 obtain⟨fa,fd,ps,hF,hm,hk,hb⟩:=G.ex;obtain⟨tp,p1,p2⟩:=hp;obtain⟨ta,a1,a2,a3⟩:=ha;refine⟨_,YR hF hr hg hm hk hb .nil xo.call (Ba p1 a1 he) aK he hpl,λ P0 P σ H Q ρ Ev h=>?_⟩;dsimp only at h;refine p2 P0 P σ H _ ρ Ev ?_;cases q:fp ρ with
 |bad=>rw[q] at h;exact h
 |ex x=>rw[q] at h;exact λ H' s=>h H' P (Ev.tr s)
 |ok π =>
  rw[q] at h;simp only[M.A8] at h;intro v t1 H1 s1 pl;have E1:=Ev.same s1;refine a2 P0 P σ H1 _ ρ E1 ?_;cases q2:fs ρ with
  |bad=>rw[q2] at h;exact h
  |ex y=>rw[q2] at h;exact λ H' s=>h H' P ((Ev.tr s1).trans (E1.tr s))
  |ok ar =>
   rw[q2] at h;simp only[M.A8] at h;intro vs H2 s2 a5;have E2:=E1.same s2;have bj:=pl.same s2;show Tg X.K n F ((v::vs)++[]) H2 Q E;rw[zba];obtain⟨v0,c,pp,t,g1,g2,g3,g4⟩:=bj.ex;unfold NZ at h;simp only[g1,g2,g4.sub] at h;by_cases hx:W3 t1=true
   ·rw[if_pos hx] at h;obtain⟨aq,o1,se,d5⟩:=bj.own E2;have ia:∃l,v=.ref l:=by
     cases o1 with
     |sh hv=>exact absurd hx (by simp[W3])
     |lst _ _|tup _ _|dK _ _|dT _ _|ins _ _ _=>exact⟨_,rfl⟩
    obtain⟨l,rfl⟩:=ia;refine⟨by rw[za8,a5.length,a3 ρ ar q2];exact hn,P,l,t1,aq,vs,ar,rfl,E2.Cb,λ b hb=>(se b hb).1,d5,o1,a5,?_⟩;cases qF:F t1 ar with
    |bad|ex x=>rw[qF] at h;exact h.elim
    |ok z =>
    obtain⟨t2,r⟩:=z;rw[qF] at h;intro w H' P' fu fr k1 k2 k3 k4 k5 k6 k7 k8 k9 vt;obtain⟨c',p',t',m1,m2,m3,m4,m5⟩:=E2.rZ bj o1 k1 k2 k3 k4 k5 k9 k6 k7 vt k8;rw[g1] at m1;cases m1;rw[g2] at m2;cases m2;exact h w fr H' P' (((Ev.tr s1).trans (E1.tr s2)).trans m4) m3 k6 k7 m5
   ·rw[if_neg hx] at h;exact h.elim
def IJ (he:DX X WX e fx)(hs: ~~~(swapsWith e none pos.line X.env=pure false)):DS X WX (.Expr e pos) (λ ρ=>(fx ρ).bind λ z=>.ok (.next z.1)):=by
 obtain⟨te,e1,e2⟩:=he;refine⟨_,FF e1 hs,λ P0 P σ H Z ρ E h=>?_⟩;dsimp only at h;refine e2 P0 P σ H _ ρ E ?_;cases q:fx ρ with
 |bad|ex x=>rw[q] at h;exact h
 |ok z=>rw[q] at h;exact λ v fp H' P' t E' o nd hf=>h σ H' P' t E'
def oQ (j:Nat)(hN:X.N.Nodup)(hi:X.N[j]?=some x)(hx:Loc X.env.scope x)(he:DX X WX e fx)(hs: ~~~(swapsWith e (some (.Name x pos')) pos.line X.env=pure false))(hf:X.fn x=true\/X.env.scope.names.lookup x=some .local:=by first | exact .inl rfl | exact .inr rfl | assumption):
 DS X WX (.Assign [.Name x pos'] e pos) (λ ρ=>(fx ρ).bind λ z=>So j z.1 z.2):=by
 obtain⟨te,e1,e2⟩:=he;refine⟨_,Xo hN hi hx e1 hs hf,λ P0 P σ H Z ρ E h=>?_⟩;dsimp only at h;refine e2 P0 P σ H _ ρ E ?_;refine bV h λ z h=>?_;intro v fp H' P' tr E' o nd hf;have h':=h.tr tr;have key:gS X.K WX P0 P' H' Z (.ok (.next (z.1.set j (some (toCl none z.2)))))->Z.nx (σ.set j (some v)) H':=λ h=>by
  refine h _ H' P' Tr.refl (E'.nW (λ _ h=>h) E'.Cb (Aj.refl _) (λ k c' v' ah ad g1 g2 g3 b hb=>⟨rfl,λ w=>(hf b w).2.2 k c' v' ah g1 g2 g3 hb⟩) (Dd.toCl o) (λ b hb=>⟨(hf b hb).1,(hf b hb).2.1⟩) nd (λ n z=>by rw[Ha] at z;cases z))
 obtain⟨ρ1,u⟩:=z;cases u with
 |sh d =>
  cases o with
  |sh hv=>exact h' _ H' P' Tr.refl (E'.XQ hv)
 |lst ts|tup ts|BE b ks ts|ins x ns ts=>exact key h'
end
abbrev HI (i:Nat)(ρ:Ah)(π:List Nat):M (Bool×List D×List D):=match XX i ρ π with
 |some (.BE b ks ts)=>(match F4 ts with|some vs=>.ok (b,ks,vs)|none=>.bad)
 |_=>.bad
abbrev putD (ks vs:List D)(k v:D):List D×List D:=if OC ks k=true then (ks,KO ks vs k v) else (ks++[k],vs++[v])
section
variable {fp:Ah->M (List Nat)}{i:Nat}{fs:Ah->M (List D)}
def Bm.BE {K}(pl:Bm K P H σ ρ i π v t1)(E:Am K P0 P H σ ρ)(h:HI i ρ π=.ok (bl,ks,vs)):t1=.BE bl ks (vs.map .sh)/\∃l xs,v=.ref l/\P l/\Ak K (del H P) xs vs/\C6 K H P (.ref l) (.BE bl ks (vs.map .sh)) [l]/\
 ((bl=false/\∃kvs,H l=some (.dK kvs)/\ks=(kvs.map λ kv=>Cz kv.1)/\xs=kvs.map zbs)\/(bl=true/\∃kvs,H l=some (.dT kvs)/\ks=(kvs.map λ kv=>.tup (kv.1.map Cz))/\xs=kvs.map zbs)):=by
 unfold HI at h;rw[pl.at] at h;split at h
 ·rename_i b' x4 r9 e;split at h
  ·rename_i aE e';cases e;cases h;have z:=Dx e';subst z;obtain⟨aq,o1,hp,nd⟩:=pl.own E;generalize ht:OT.BE bl ks (vs.map .sh)=t at o1;cases o1 with
   |dK hh hr =>
    injection ht with h1 h2 h3
    subst h1 h2 h3;obtain⟨rfl,hs⟩:=hr.vR;exact⟨rfl,_,_,rfl,(hp _ za3).1,hs,.dK hh hr,.inl ⟨rfl,_,hh,rfl,rfl⟩⟩
   |dT hh hr =>
    injection ht with h1 h2 h3
    subst h1 h2 h3;obtain⟨rfl,hs⟩:=hr.vR;exact⟨rfl,_,_,rfl,(hp _ za3).1,hs,.dT hh hr,.inr ⟨rfl,_,hh,rfl,rfl⟩⟩
   |_=>cases ht
  ·cases h
 ·cases h
def jH (h:HI i ρ π=.ex x):False:=by
 unfold HI at h;split at h
 ·split at h<;>cases h
 ·cases h
def Am.vV {K}(E:Am K P0 P H σ ρ)(pl:Bm K P H σ ρ i π (.ref l) t1)(ot:C6 K H P (.ref l) t1 [l])(hn:∀xs,o'≠.tup xs/\∀z,o'≠.HC z (.tup xs))(new:Aj (del H P) (del (upd H l o') P)->C6 K (upd H l o') P (.ref l) u [l]):
 ∃c p t,ρ[i]?=some (some c)/\treeOf c=some (p,t)/\Am K P0 P (upd H l o') σ (ρ.set i (some (toCl p (F3 t π u))))/\Tr P0 P H P (upd H l o'):=by
 obtain⟨aq,o1,hp,_⟩:=pl.own E;have:=o1.Cj ot;subst this;have pP:P l:=(hp l za3).1;have sd:del (upd H l o') P=del H P:=by
  funext b;by_cases hb:P b
  ·rw[GS hb,GS hb]
  ·rw[AG hb,AG hb,Ai (λ z=>hb (by rw[z];exact pP))]
 have sm:Aj (del H P) (del (upd H l o') P):=by rw[sd];exact Aj.refl _
 refine E.aap pl ot (λ _ h=>h) (λ a h=>?_) sm (λ a ha hn=>Ai λ z=>hn (by rw[z];exact za3)) (new sm) (by simp) (λ a ha=>.inl ha);by_cases ha:a=l
 ·subst ha;exact⟨_,An,hn⟩
 ·unfold EY;rw[Ai ha];exact E.Cb a h
def Pm (hu:X.A.units+n<cLine)(ha:DP X WX a i fp)(hk:DE X WX true b g)(hv:DE X WX true e f)(hs: ~~~(swapsWith e (some (.Subscript a b pos')) pos.line X.env=pure false))(hn:1<=n:=by decide):
 DS X WX (.Assign [.Subscript a b pos'] e pos) (λ ρ=>(f ρ).bind λ v=>(fp ρ).bind λ π=>(g ρ).bind λ k=>(HI i ρ π).bind λ z=>if keyOk z.1 k=true/\z.2.1.length<1000 then II i ρ π (.BE z.1 (putD z.2.1 z.2.2 k v).1 ((putD z.2.1 z.2.2 k v).2.map .sh)) else .bad):=by
 obtain⟨ta,a1,a2⟩:=ha;obtain⟨tk,k1,k2⟩:=hk;obtain⟨tv,v1,v2⟩:=hv;refine⟨_,nJ (by omega) a1 k1 v1 hs,λ P0 P σ H Z ρ E h=>?_⟩;dsimp only at h;refine v2 P0 P σ H _ ρ E ?_;refine iN h E λ d h=>?_;intro w H0 s0 hw;have E0:=E.same s0;refine a2 P0 P σ H0 _ ρ E0 ?_;cases q:fp ρ with
 |bad=>rw[q] at h;exact h
 |ex x=>rw[q] at h;exact λ H' s=>h H' P ((E.tr s0).trans (E0.tr s))
 |ok π =>
  rw[q] at h;simp only[M.A8] at h;intro v t1 H1 s1 pl;have E1:=E0.same s1;refine k2 P0 P σ H1 _ ρ E1 ?_;cases q2:g ρ with
  |bad=>rw[q2] at h;exact h
  |ex y=>rw[q2] at h;exact λ H' s=>h H' P (((E.tr s0).trans (E0.tr s1)).trans (E1.tr s))
  |ok k =>
   rw[q2] at h;simp only[M.A8] at h;intro y H2 s2 hy;have E2:=E1.same s2;have bj:=pl.same s2;have n9:=(hw.mono s1.del).mono s2.del;have vw:=((E.tr s0).trans (E0.tr s1)).trans (E1.tr s2);cases q3:HI i ρ π with
   |bad=>rw[q3] at h;exact h.elim
   |ex x=>exact (jH q3).elim
   |ok z =>
    obtain⟨bb,ks,vs⟩:=z;rw[q3] at h;simp only[M.A8] at h;by_cases hc:keyOk bb k=true/\ks.length<1000
    ·rw[if_pos hc] at h;obtain⟨rfl,l,xs,rfl,hP,dk,ot,ko⟩:=bj.BE E2 q3;have hK:=E7 hc.1;rcases ko with ⟨rfl,kvs,hH,rfl,rfl⟩|⟨rfl,kvs,hH,rfl,rfl⟩
     ·cases hK with
      |k κ =>
       have ey:=hy.oK;refine⟨l,_,rfl,.inl ⟨kvs,κ,hH,ey,AF (by have:=hc.2;rw[za2] at this;omega),rfl⟩,?_⟩;have aV:∃aE,(putD (kvs.map λ kv=>Cz kv.1) vs (Cz κ) d)=((putK kvs κ w).map (λ kv=>Cz kv.1),aE)/\Ak X.K (del H2 P) ((putK kvs κ w).map zbs) aE:=by
        unfold putD putK;rw[Lz ID];by_cases hh:(kvs.any λ kv=>decide (kv.1=κ))=true
        ·rw[if_pos hh,if_pos hh];refine⟨_,by rw[IF (fk:=Cz) ID],?_⟩;rw[<-IE (fk:=Cz) ID];exact IG n9 dk
        ·rw[if_neg hh,if_neg hh];refine⟨_,by rw[zat];rfl,?_⟩;rw[zat];exact dk.snoc n9
       obtain⟨aE,e1,e2⟩:=aV;obtain⟨c,p,t0,g1,g2,E3,t3⟩:=E2.vV (o':=.dK (putK kvs κ w)) (u:=.BE false ((putK kvs κ w).map λ kv=>Cz kv.1) (aE.map .sh)) bj ot (λ _=>⟨λ z=>(by cases z),λ _ z=>by cases z⟩) (λ mv=>.dK An (e2.mono mv).ows);rw[e1,Hb g1 g2] at h;exact h _ _ _ (vw.trans t3) E3
     ·cases hK with
      |t κ =>
       cases hy with
       |tup ht al =>
        have ey:=Ak.keys κ al;subst ey;refine⟨l,_,rfl,.inr ⟨kvs,κ,_,hH,rfl,(Al ht).2,AF (by have:=hc.2;rw[za2] at this;omega),rfl⟩,?_⟩;have hf:∀a b:List Key,Bw (.tup (a.map Cz)) (.tup (b.map Cz))=decide (a=b):=λ a b=>by simp only[Bw];exact Pg a b
        have aV:∃aE,(putD (kvs.map λ kv=>.tup (kv.1.map Cz)) vs (.tup (κ.map Cz)) d)=((putK kvs κ w).map (λ kv=>.tup (kv.1.map Cz)),aE)/\Ak X.K (del H2 P) ((putK kvs κ w).map zbs) aE:=by
         unfold putD putK;rw[Lz (fk:=λ κ:List Key=>D.tup (κ.map Cz)) hf];by_cases hh:(kvs.any λ kv=>decide (kv.1=κ))=true
         ·rw[if_pos hh,if_pos hh];refine⟨_,by rw[IF (fk:=λ κ:List Key=>D.tup (κ.map Cz)) hf],?_⟩;rw[<-IE (fk:=λ κ:List Key=>D.tup (κ.map Cz)) hf];exact IG n9 dk
         ·rw[if_neg hh,if_neg hh];refine⟨_,by rw[zat];rfl,?_⟩;rw[zat];exact dk.snoc n9
        obtain⟨aE,e1,e2⟩:=aV;obtain⟨c,p,t0,g1,g2,E3,t3⟩:=E2.vV (o':=.dT (putK kvs κ w)) (u:=.BE true ((putK kvs κ w).map λ kv=>.tup (kv.1.map Cz)) (aE.map .sh)) bj ot (λ _=>⟨λ z=>(by cases z),λ _ z=>by cases z⟩) (λ mv=>.dT An (e2.mono mv).ows);rw[e1,Hb g1 g2] at h;exact h _ _ _ (vw.trans t3) E3
    ·rw[if_neg hc] at h;exact h.elim
def QA (tk:Bool):DN X WX (.Dict [] [] pos) (λ _=>.ok (.BE tk [] [])):=by
 cases tk with
 |false =>
  refine⟨_,gQ,λ P0 P σ H Q ρ E h p hp=>?_⟩;exact h _ [p] _ (AL hp _) (λ a ha=>by rw[za9.mp ha];exact hp) (by simp) (.dK (kvs:=[]) An .nil)
 |true =>
  refine⟨_,gR,λ P0 P σ H Q ρ E h p hp=>?_⟩;exact h _ [p] _ (AL hp _) (λ a ha=>by rw[za9.mp ha];exact hp) (by simp) (.dT (kvs:=[]) An .nil)
end
abbrev sA (K:za1):List V->Hp->VK->Prop:=λ xs H Q=>∃(a:Addr) (bs:List (Addr×List Int)) (b:Addr×List Int),xs=[.ref a]/\DU K H a (bs.map λ b=>V.ref b.1)/\(∀b∈bs,FE K H b.1 (b.2.map V.int))/\Bj bs=some b/\Q (.ref b.1) H
def cO (hc:X.calm=true)(hu:X.A.units+1<cLine):Gd X (.builtin "min") (sA X.K):=by
 intro pins s σ H xs us Q I r h;obtain⟨a,bs,b0,rfl,hl,hb,he,q⟩:=h;obtain⟨ua,rfl,ra⟩:=r.one;cases ra;obtain⟨aa,rv,pl,hz⟩:=I.list hl;have ei:=Nd rv;subst ei;have tv:∀a:Addr,∃t:Array Value,∀b∈bs,b.1=a->IsTup s.heap a t/\IntsAre t.toList b.2:=λ a=>by
  by_cases c4:∃b∈bs,b.1=a
  ·obtain⟨b,c4,rfl⟩:=c4;obtain⟨ts,rt,pt,_⟩:=I.tuple (hb b c4);refine⟨ts.toArray,λ b' ay e=>⟨pt,?_⟩⟩;have q2:=hb b' ay;rw[e] at q2;have e2:=I.Gb q2 (hb b c4);rw[<-e2] at rt;simpa using intsAre_of rt
  ·exact⟨#[],λ b ay e=>absurd ⟨b,ay,e⟩ c4⟩
 have ad:bs≠[]:=λ z=>by subst z;cases he
 refine Qd bs (λ b=>za5 (tv b)) a none (λ _=>ad) (I.ok.hd hc) hu pl.isList (λ b ay=>(za0 (tv b.1) b ay rfl).1) (λ b ay=>(za0 (tv b.1) b ay rfl).2) λ h' tk hk=>?_;rw[he];exact⟨.ref b0.1,H,I.kept (t':=tk) hk,rfl,q⟩
abbrev Zf (ds:List D):M D:=match ds with
 |[.lst xs]=>(match Iw xs with|some ks=>(match Bj ks with|some k=>.ok k.1|none=>.bad)|none=>.bad)
 |_=>.bad
def oR:Ll X.K WX (sA X.K) Zf:=by
 intro P H ds vs Q ht hl h;unfold Zf at h;split at h
 ·rename_i xs;obtain⟨v,rfl,hv⟩:=hl.one;split at h
  ·rename_i ks e1;cases hv with
   |lst hs hh =>
    obtain⟨bs,rfl,h2,h3⟩:=KL hh e1;split at h
    ·rename_i k e2;rcases Qi h3 with ⟨q1,q2⟩|⟨b,k',q1,q2,_,q3⟩
     ·rw[q2] at e2;cases e2
     ·rw[q2] at e2;cases e2;exact⟨_,bs,b,rfl,hs.Be,λ b hb=>(h2 b hb).Be,q1,h _ H (Aj.refl H) q3⟩
    ·exact h.elim
  ·exact h.elim
 ·exact h.elim
def oS (hc:X.calm=true)(hu:X.A.units+n<cLine)(hg:Gl X "min")(hm:X.mg "min" = none)(ha:DE X WX c e f)(hb:bootBuiltins "min" = some (.builtin "min"):=by decide +kernel)(hs: ~~~(starEach [e] X.env=[(false,eval e X.env)]))(hn:1<=n:=by decide):DE X WX c (.Call (.Name "min" p) [e] [] pos) (λ ρ=>((f ρ).bind λ d=>(M.ok []).bind λ ds=>.ok (d::ds)).bind Zf):=
 Lm (cO hc (by omega)) oR hg hm hb (A1 ha A6 hs) (he:=hs)
section
variable {fp:Ah->M (List Nat)}{i:Nat}
abbrev oT:V->List V->Hp->VK->Prop:=λ x vs H Q=>∃(l:Addr) (ns:List Int) (k:Int),x=.ref l/\vs=[.int k]/\H l=some (.lst (ns.map V.int))/\k∈ns/\Q .Av (upd H l (.lst ((ns.erase k).map V.int)))
def Th {α β:Type}(f:α->β):∀(l:List α) (k:Nat),(l.eraseIdx k).map f=(l.map f).eraseIdx k
 |[],_|_::_,0=>rfl
 |x::r,k+1=>by rw[List.eraseIdx_cons_succ,za6,za6,List.eraseIdx_cons_succ,Th f r k]
abbrev Y2 (k:Int):Value->Bool
 | .int i _=>i==k
 |_=>false
def cP:xZ X "list.remove" oT:=by
 intro pins s σ H x vs v us Q I rx rv h;obtain⟨l,ns,k,rfl,rfl,hH,hk,q⟩:=h;cases rx;obtain⟨u,rfl,ru⟩:=rv.one;obtain⟨tk,rfl⟩:=ru;obtain⟨z,aa,n,r,hl,e⟩:=I.VB hH;have hlen:=r.length;have ib:ns.idxOf k<ns.length:=List.idxOf_lt_length_iff.mpr hk;have ic:∀m (hm:m<aa.toArray.size) (vx:m<ns.length),∃t,aa.toArray[m]=Value.int ns[m] t:=λ m hm vx=>by
  have hx:(ns.map V.int)[m]?=some (V.int ns[m]):=by rw[zax,za7 vx];rfl
  obtain⟨w,hw,aU⟩:=r.get hx;obtain⟨t,rfl⟩:=aU;refine⟨t,?_⟩;have:aa[m]?=some aa[m]:=za7 (by simpa using hm);rw[hw] at this;simpa using (zao this).symm
 have hsz:aa.toArray.size=ns.length:=by rw[zab,<-hlen,za2]
 have hm:=MeetsSeq.list_remove l aa.toArray n (.int k tk) (Y2 k) (λ y hy=>by
  obtain⟨m,hm,rfl⟩:=Array.mem_iff_getElem.mp hy;obtain⟨t,ht⟩:=ic m hm (by rw[<-hsz];exact hm);rw[ht];exact MeetsSeq.EqGives.int _ _ _ _) (ns.idxOf k) (by rw[hsz];exact ib) (by
  obtain⟨t,ht⟩:=ic (ns.idxOf k) (by rw[hsz];exact ib) ib;rw[ht];simp[Y2]) (λ m hm af=>by
  obtain⟨t,ht⟩:=ic m hm (by omega);rw[ht];have:=List.not_of_lt_findIdx (p:=(· == k)) (xs:=ns) (i:=m) af;simpa [Y2] using this) (by rw[zab];omega)
 refine call_meets F.slot_list_remove ⟨_,e,rfl⟩ F.entry_list_remove (F.args_list_remove_2 _ _) hm ⟨e,?_⟩;refine⟨.Av,_,I.bN (its':=aa.eraseIdx (ns.idxOf k)) hH e ?_ ?_ ?_,rfl,q⟩
 ·show aa.toArray.eraseIdxIfInBounds _=_;rw[List.eraseIdxIfInBounds_toArray]
 ·rw[show ns.erase k=ns.eraseIdx (ns.idxOf k) from List.erase_eq_eraseIdx_of_idxOf rfl,Th];exact r.eraseIdx _
 ·rw[za2];have:=List.length_erase_le (a:=k) (l:=ns);rw[za2] at z;omega
def cQ (ha:DP X WX a i fp)(he:DE X WX true e f)(hs: ~~~(starEach [e] X.env=[(false,eval e X.env)]))(be: ~~~(swapsWith (.Call (.Attribute a "remove" apos) [e] [] ac) none pos.line X.env=pure false))(ai: ~~~(attributeBase a "remove" X.env (eval a X.env)=eval a X.env))(aI: ~~~(((backTo ac (starEach [e] X.env)).all (λ x => !x.1)&&(backToKw ac (keywordEach [] X.env)).all (λ x=>x.1.isSome)&&decide (([e]:List Expr).length+([]:List Keyword).length+(if ([]:List Keyword).isEmpty then 0 else 1)<30))=true))(aj: ~~~((apos.endLine==ac.line)=true))(ao: ~~~((backTo ac (starEach [] X.env)).any (·.1)=false)):
 DS X WX (.Expr (.Call (.Attribute a "remove" apos) [e] [] ac) pos) (λ ρ=>(fp ρ).bind λ π=>(Vh i ρ π).bind λ ds=>(f ρ).bind λ d=>match d,Dh ds with
  | .int k,some ns=>if k∈ns then II i ρ π (.lst (((ns.erase k).map D.int).map .sh)) else .bad
  |_,_=>.bad):=by
 obtain⟨ta,a1,a2⟩:=ha;obtain⟨te,e1,e2⟩:=he;refine⟨_,FF (VA zc2 PySem.F.slot_list_remove PySem.F.type_list_remove cP a1 (Ba e1 Ci hs) ai aI aj hs ao) be,λ P0 P σ H Z ρ E h=>?_⟩;dsimp only at h;refine a2 P0 P σ H _ ρ E ?_;refine iN h E λ π h=>?_;intro v t1 H1 s1 pl;have E1:=E.same s1;cases q1:Vh i ρ π with
 |bad=>rw[q1] at h;exact h.elim
 |ex x=>exact (Y0 q1).elim
 |ok ds =>
  rw[q1] at h;simp only[M.A8] at h;obtain⟨rfl,l,xs,rfl,hl,ol⟩:=pl.shl E1 q1;refine⟨.inl ⟨rfl,xs,.of hl⟩,e2 P0 P σ H1 _ ρ E1 ?_⟩;cases q2:f ρ with
  |bad=>rw[q2] at h;exact h
  |ex y=>rw[q2] at h;exact λ H' s=>h H' P ((E.tr s1).trans (E1.tr s))
  |ok d =>
   rw[q2] at h;simp only[M.A8] at h;intro w H2 s2 hw;have E2:=E1.same s2;have bj:=pl.same s2;cases d with
   |int k =>
    cases q3:Dh ds with
    |none=>rw[q3] at h;exact h.elim
    |some ns =>
     rw[q3] at h;dsimp only at h;by_cases hk:k∈ns
     ·rw[if_pos hk] at h;have:=Gj q3;subst this;have f6:=ol.mono s2.del;have ex:=F2 f6;subst ex;have al:=s2 _ _ hl;obtain⟨c,p,t0,g1,g2,E3,t3⟩:=E2.aar (ys:=(ns.erase k).map V.int) (es:=(ns.erase k).map D.int) bj al f6 (Ak.ints _);rw[Hb g1 g2] at h;exact⟨l,ns,k,rfl,by rw[hw.int_inv],al,hk,h _ _ _ (((E.tr s1).trans (E1.tr s2)).trans t3) E3⟩
     ·rw[if_neg hk] at h;exact h.elim
   |_=>exact h.elim
end
section
variable {te:TE}
abbrev aas (ds:List D):M D:=match ds with
 |[.lst xs]=>(match Dh xs with|some ns=>.ok (.int ns.sum)|none=>.bad)
 |_=>.bad
abbrev ab0 (te:TE):TE:=λ σ H Q=>te σ H λ x H1=>∃n:Nat,x=.int (n:Int)/\n<=1000/\∀r,H1 r=none->Q (.ref r) (upd H1 r (.lst ((zb9 n).map λ i:Nat=>V.int (i:Int))))
def cR (h:ItemsOf (λ i v=>∃t,v=Value.int (0+(i:Int)*1) t) acc n):Vals ((zb9 n).map λ i:Nat=>V.int (i:Int)) acc.toList:=by
 obtain⟨h1,h2⟩:=h;have key:∀(l:List Value) (k:Nat),(∀i v,l[i]?=some v->∃t,v=Value.int ((k+i:Nat):Int) t)->Vals ((List.range' k l.length).map λ i:Nat=>V.int (i:Int)) l:=by
  intro l;induction l with
  |nil=>intro k _;exact .nil
  |cons v r ih =>
   intro k hk;rw[za8,List.range'_succ,za6];refine .cons (by obtain⟨t,e⟩:=hk 0 v rfl;exact⟨t,by simpa using e⟩) (ih (k+1) λ i w hw=>?_);obtain⟨t,e⟩:=hk (i+1) w (by simpa using hw);exact⟨t,by rw[e];congr 1;omega⟩
 have:=key acc.toList 0 (λ i v hv=>by
  obtain⟨t,e⟩:=h2 i v (by rw[<-Array.getElem?_toList];exact hv);exact⟨t,by rw[e];congr 1;omega⟩)
 rw[zde,h1] at this;rw[List.range_eq_range'];exact this
def Ux (hc:X.calm=true)(hg:Gl X "list")(hm:X.mg "list" = none)(ka:Gl X "range")(aH:X.mg "range" = none)(he:PE X e te)(hv:bootBuiltins "list" = some (.type "list"):=by decide +kernel)(hs: ~~~(starEach [.Call (.Name "range" p2) [e] [] bu] X.env=[(false,eval (.Call (.Name "range" p2) [e] [] bu) X.env)]))(aB: ~~~(starEach [e] X.env=[(false,eval e X.env)])):
 PE X (.Call (.Name "list" p) [.Call (.Name "range" p2) [e] [] bu] [] pos) (ab0 te):=by
 intro pins s σ H Q I h;refine wpAny_Call_Name_kw (Ei I hg hm hv ?_);refine zbl ?_ hs;rw[hs];refine zc3 ?_;refine wpAny_Call_Name_kw (Ei I ka aH boot_range ?_);refine zbl ?_ aB;rw[aB];refine zc3 (B9 (he pins s σ H _ I h) λ u s1 zz=>?_);obtain⟨x,H1,I1,r1,q1⟩:=zz;obtain⟨n,rfl,hn,q⟩:=q1;obtain⟨t,rfl⟩:=r1;refine zcg ?_;refine call_range_1 ?_;refine zcg ?_;have h4:((n:Nat):Int)<2^62:=by omega
 refine call_list_range (n:=n) (I1.ok.hd hc) (IsRange.new ..) (small_one (by omega) (by omega) (by omega) h4) (by rw[rangeSize_one];split<;>omega) (by omega) λ h' tk sf c' hk bg d6=>?_;have kp:∀b o,s1.heap.get? b=some o->h'.get? b=some o:=λ b o e=>hk b o (zaa _ e);have rv:=cR d6;have f7:∀o:Obj,s1.heap.objs.size<=(s1.heap.push o).objs.size:=λ o=>by simp[Heap.push]
 refine⟨.ref _,_,I1.laid (t':=tk) (o:=.lst ((zb9 n).map λ i:Nat=>V.int (i:Int))) kp (f7 _) ⟨?_,sf.toList,c',rv,by simpa using bg⟩,rfl,q _ (I1.Aw.fresh (f7 _))⟩;rw[za2,zc9];exact zbq (AF hn)
abbrev lrM (d:D):M OT:=match d with
 | .int j=>@ite _ (0<=j/\j<=1000) (zdd _) (.ok (.lst ((CO 0 j.toNat).map .sh))) .bad
 |_=>.bad
def Uy {n:Nat}(h:n<=1000):lrM (.int (n:Int))=.ok (.lst (((zb9 n).map λ i:Nat=>D.int (i:Int)).map .sh)):=by
 unfold lrM;dsimp only;rw[if_pos ⟨by omega,by omega⟩,zbj,Qk]
def LH (hc:X.calm=true)(hg:Gl X "list")(hm:X.mg "list" = none)(ka:Gl X "range")(aH:X.mg "range" = none)(he:DE X WX true e f)(hv:bootBuiltins "list" = some (.type "list"):=by decide +kernel)(hs: ~~~(starEach [.Call (.Name "range" p2) [e] [] bu] X.env=[(false,eval (.Call (.Name "range" p2) [e] [] bu) X.env)]))(aB: ~~~(starEach [e] X.env=[(false,eval e X.env)])):
 DN X WX (.Call (.Name "list" p) [.Call (.Name "range" p2) [e] [] bu] [] pos) (λ ρ=>(f ρ).bind lrM):=by
 obtain⟨te,e1,e2⟩:=he;refine⟨_,Ux hc hg hm ka aH e1 hv hs aB,λ P0 P σ H Q ρ E h=>?_⟩;refine e2 P0 P σ H _ ρ E ?_;dsimp only at h;refine bV h λ d h=>?_;intro v H1 s1 hv;cases d with
 |int j =>
  by_cases hj:0<=j/\j<=1000
  ·obtain⟨n,rfl⟩:∃n:Nat,j=n:=⟨j.toNat,by omega⟩;rw[Uy (by omega)] at h;refine⟨n,hv.int_inv,by omega,λ r hr=>h.K3 s1 (xs:=(zb9 n).map λ i:Nat=>V.int (i:Int)) ?_ r hr⟩;have:∀l:List Nat,Ak X.K (del H1 P) (l.map λ i:Nat=>V.int (i:Int)) (l.map λ i:Nat=>D.int (i:Int)):=λ l=>by
    induction l with
    |nil=>exact .nil
    |cons x r ih=>exact .cons (.int _) ih
   exact this _
  ·have e:lrM (.int j)=.bad:=if_neg hj;rw[e] at h;exact h.elim
 |_=>exact h.elim
abbrev cS (lo hi:Option Int)(d:D):M OT:=match d with
 | .lst ds=>.ok (.lst (((ds.drop (HT.Q3 ds.length 0 lo)).take (HT.Q3 ds.length ds.length hi-HT.Q3 ds.length 0 lo)).map .sh))
 |_=>.bad
def Gk {lo}(ha:DE X WX true e f)(hl:DO X WX true lo sg)(hh:DO X WX true hi fh):DN X WX (.Subscript e (.Slice lo hi none p2) pos) (λ ρ=>(f ρ).bind λ d=>(sg ρ).bind λ l=>(fh ρ).bind λ u=>cS l u d):=by
 obtain⟨ta,a1,a2⟩:=ha;obtain⟨tl,l1,l2⟩:=hl;obtain⟨th,h1,h2⟩:=hh;refine⟨_,gD nA a1 l1 h1,λ P0 P σ H Q ρ E h=>?_⟩;dsimp only at h;refine a2 P0 P σ H _ ρ E ?_;cases q:f ρ with
 |bad|ex x=>rw[q] at h;exact h
 |ok d =>
  rw[q] at h;intro v H1 s1 hv;refine l2 P0 P σ H1 _ ρ (E.same s1) ?_;cases q2:sg ρ with
  |bad=>rw[q2] at h;exact h
  |ex y=>rw[q2] at h;exact λ H' s=>h H' (s1.trans s)
  |ok l =>
   rw[q2] at h;intro H2 s2;refine h2 P0 P σ H2 _ ρ ((E.same s1).same s2) ?_;cases q3:fh ρ with
   |bad=>rw[q3] at h;exact h
   |ex y=>rw[q3] at h;exact λ H' s=>h H' ((s1.trans s2).trans s)
   |ok u =>
    rw[q3] at h;simp only[M.A8] at h;intro H3 s3;unfold cS at h;split at h
    ·cases hv with
     |lst hs hl =>
      refine⟨_,_,rfl,(s3.seq (s2.seq hs.Be)),λ p hp=>h.K3 ((s1.trans s2).trans s3) ?_ p hp⟩;unfold gE;rw[hl.length];exact ((((hl.drop _).take _).mono s2.del).mono s3.del)
    ·exact h.elim
def jI:OpN X.K WX (rV X.K) Ly:=by
 intro P H x y v w Q ht hx hy h;unfold Ly at h;split at h
 ·rename_i ds es;by_cases hl:ds.length+es.length<=1000
  ·rw[if_pos hl] at h;cases hx with
   |lst h1 h2 =>
    cases hy with
    |lst h3 h4=>exact⟨_,_,_,_,rfl,rfl,h1.Be,h3.Be,zbq (AF (by rw[h2.length,h4.length];exact hl)),h.K3 (Aj.refl _) (h2.app h4)⟩
  ·rw[if_neg hl] at h;exact h.elim
 ·exact h.elim
def LI (ha:DE X WX true a f)(hb:DE X WX true b g):DN X WX (.BinOp a .Add b pos) (λ ρ=>(f ρ).bind λ x=>(g ρ).bind λ y=>Ly x y):=by
 obtain⟨ta,a1,a2⟩:=ha;obtain⟨tb,b1,b2⟩:=hb;exact⟨_,fO nZ a1 b1,λ P0 P σ H Q ρ E h=>aal a2 b2 jI E h⟩
abbrev GK (μ:List (Option Nat))(g:TG):Prop:=∀σ0 σ x H Q,(∀(j:Nat) v,(FW μ σ0)[j]?=some (some v)->σ[j]?=some (some v))->g x σ H Q->g x σ H λ σ' H'=>Q σ' H'/\∀(j:Nat) v,(FW μ σ0)[j]?=some (some v)->σ'[j]?=some (some v)
abbrev GKs (μ:List (Option Nat))(g:eW):Prop:=∀σ0 σ x H Q,(∀(j:Nat) v,(FW μ σ0)[j]?=some (some v)->σ[j]?=some (some v))->g x σ H Q->g x σ H λ σ' H'=>Q σ' H'/\∀(j:Nat) v,(FW μ σ0)[j]?=some (some v)->σ'[j]?=some (some v)
def GK.keeps {g}(h:GK μ g):Nc μ g:=λ σ x H Q q=>h σ (FW μ σ) x H Q (λ _ _ z=>z) q
def oU (h:μ[i]?=some none):GK μ (SQ i):=λ σ0 σ x H Q hk q=>by
 refine⟨q,λ j v hj=>?_⟩;have ad:i≠j:=λ z=>by
  subst z;unfold FW at hj;rw[zax,h] at hj;cases hj
 rw[zbu ad];exact hk j v hj
def oV:GKs μ tV:=λ σ0 σ x H Q hk q=>⟨q.1,q.2,hk⟩
def jJ (mono:∀v σ H Q Q',(∀σ' H',Q σ' H'->Q' σ' H')->t v σ H Q->t v σ H Q')(ht:GK μ t)(hu:GKs μ u):GKs μ (fJ t u):=λ σ0 σ x H Q hk q=>by
 obtain⟨v,r,rfl,q⟩:=q;exact⟨v,r,rfl,mono _ _ _ _ _ (λ σ' H' z=>hu σ0 σ' r H' Q z.2 z.1) (ht σ0 σ v H _ hk q)⟩
def vW {K}(h:GKs μ t):GK μ (tW K n t):=λ σ0 σ x H Q hk q=>by
 obtain⟨a,xs,rfl,h1,h2,q⟩:=q;exact⟨a,xs,rfl,h1,h2,h σ0 σ xs H Q hk q⟩
variable {d4:List D->Ah->M Ah}
abbrev oW (X:Cx)(scope:Scope)(NB:List Str)(μ:List (Option Nat))(es:List Expr)(gt:List D->Ah->M Ah):Prop:=
 ∃g:eW,(∀s H C ex,xX (blockOf X s H scope C NB ex) es g)/\GKs μ g/\∀P0 P σ H Q ρ vs ds,Am X.K P0 P H σ ρ->Ak X.K (del H P) vs ds->gG X.K P0 P H Q (gt ds ρ)->g vs σ H Q
def IK:oW X scope NB μ [] (λ ds ρ=>match ds with | []=>.ok ρ | _=>.bad):=
 ⟨tV,λ s H C ex=>YO,oV,λ P0 P σ H Q ρ vs ds E hv h=>by
  cases hv with
  |nil=>exact⟨rfl,h σ E⟩
  |cons _ _=>exact h.elim⟩
def Cc (i:Nat)(hN:NB.Nodup)(hi:NB[i]?=some x)(hx:(relabel scope X.env).names.lookup x=some .local)(hm:μ[i]?=some none)(hr:oW X scope NB μ es d4)(hs:∀s H C ex,(assignEach (.Name x px::es) (blockOf X s H scope C NB ex).env).map (·.2)=assign (.Name x px) (blockOf X s H scope C NB ex).env::(assignEach es (blockOf X s H scope C NB ex).env).map (·.2):=by intro _ _ _ _;rfl):
 oW X scope NB μ (.Name x px::es) (λ ds ρ=>match ds with|d::r=>d4 r (ρ.set i (some (.val d)))|[]=>.bad):=by
 obtain⟨gr,r1,r2,r3⟩:=hr;refine⟨fJ (SQ i) gr,λ s H C ex=>Vr (Ua (X:=blockOf X s H scope C NB ex) hN hi (.inl hx) (.inr hx)) (r1 s H C ex) (hs s H C ex),jJ (λ v σ H Q Q' hq h=>hq _ _ h) (oU hm) r2,λ P0 P σ H Q ρ vs ds E hv h=>?_⟩;cases hv with
 |nil=>exact h.elim
 |cons h1 h2=>exact⟨_,_,rfl,r3 P0 P _ H Q _ _ _ (E.XQ h1) h2 h⟩
def LJ (hc:X.calm=true)(h:oW X scope NB μ es d4)(hn:∀s H C ex,(assignEach es (blockOf X s H scope C NB ex).env).length=n:=by intro _ _ _ _;rfl)(ax:∀s H C ex,(assignEach es (blockOf X s H scope C NB ex).env).findIdx? (·.1)=none:=by intro _ _ _ _;rfl):
 yC X scope NB μ (.Tuple es k pt) (λ d ρ=>match d with | .tup ds=>if ds.length=n then d4 ds ρ else .bad|_=>.bad):=by
 obtain⟨t,a1,a2,a3⟩:=h;refine⟨tW X.K n t,λ s H C ex=>fK (X:=blockOf X s H scope C NB ex) hc (a1 s H C ex) (hn s H C ex) (ax s H C ex),(vW a2).keeps,λ P0 P σ H Q ρ v d E hv h=>?_⟩;cases hv with
 | @tup a xs ds hs hl =>
  dsimp only at h;by_cases hd:ds.length=n
  ·rw[if_pos hd] at h;exact⟨a,xs,rfl,FE.of (Al hs).2,by rw[hl.length];exact hd,a3 P0 P σ H Q ρ xs ds E hl h⟩
  ·rw[if_neg hd] at h;exact h.elim
 |_=>exact h.elim
end
section
variable {fp:Ah->M (List Nat)}{i:Nat}{te:TE}
def oX:Ll X.K WX (λ xs H Q=>∃i j,xs=[.int i,.int j]/\Q (.int (if j<i then j else i)) H) (λ ds=>match ds with | [.int i,.int j]=>.ok (.int (if j<i then j else i)) | _=>.bad):=by
 intro P H ds vs Q ht hl h;dsimp only at h;split at h
 ·obtain⟨v,w,rfl,h1,h2⟩:=hl.two;exact⟨_,_,by rw[h1.int_inv,h2.int_inv],h _ H (Aj.refl H) (.int _)⟩
 ·exact h.elim
def oY (hc:X.calm=true)(hg:Gl X "min")(hm:X.mg "min" = none)(ha:DE X WX c a f)(sn:DE X WX c b g)(hb:bootBuiltins "min" = some (.builtin "min"):=by decide +kernel)(hs: ~~~(starEach [a,b] X.env=(false,eval a X.env)::starEach [b] X.env))(aB: ~~~(starEach [b] X.env=[(false,eval b X.env)]))(hpl: ~~~((backTo pos (starEach [b] X.env)).any (·.1)=false)):
 DE X WX c (.Call (.Name "min" p) [a,b] [] pos) (λ ρ=>((f ρ).bind λ d=>((g ρ).bind λ d2=>(M.ok []).bind λ ds=>.ok (d2::ds)).bind λ ds=>.ok (d::ds)).bind (λ ds=>match ds with|[.int i,.int j]=>.ok (.int (if j<i then j else i))|_=>.bad)):=
 Lm (bH hc) oX hg hm hb (A1 ha (A1 sn A6 aB) hs) (he:=hs) (hpl:=hpl)
end
abbrev WP (m:M Out)(nx:Ah->Prop)(rt:Out->Prop)(ex:Str->Prop):Prop:=match m with
 | .ok (.next ρ)=>nx ρ
 | .ok o=>rt o
 | .ex x=>ex x
 | .bad=>False
section
variable {nx:Ah->Prop}{rt:Out->Prop}{ex:Str->Prop}{m:M Out}{k:Ah->M Out}
def Bp (h:m=.ok (.next ρ'))(hn:nx ρ'):WP m nx rt ex:=by rw[h];exact hn
def WP.mono (h:WP m nx rt ex)(h1:∀ρ,nx ρ->vy ρ)(h2:∀o,rt o->vz o)(h3:∀x,ex x->pd x):WP m vy vz pd:=by
 cases m with
 |bad=>exact h
 |ex x=>exact h3 x h
 |ok o =>
  cases o with
  |next ρ=>exact h1 ρ h
  |ret d|brk d|cont d|CC d|FX d ρ=>exact h2 _ h
def wp_seq (h:WP m (λ ρ=>WP (k ρ) nx rt ex) rt ex):WP (cB m k) nx rt ex:=by
 cases m with
 |bad|ex x=>exact h
 |ok o =>
  cases o with
  |next ρ|ret d|brk d|cont d|CC d|FX d ρ=>exact h
def wp_step (h:m=.ok (.next ρ'))(hk:WP (k ρ') nx rt ex):WP (cB m k) nx rt ex:=by rw[h];exact hk
def BU (h:WP m I rt ex)(hk:∀ρ,I ρ->WP (k ρ) nx rt ex):WP (cB m k) nx rt ex:=wp_seq (h.mono hk (λ _ h=>h) λ _ h=>h)
abbrev inLoop (I:Ah->Prop)(nx:Ah->Prop)(rt:Out->Prop)(o:Out):Prop:=match o with
 | .cont ρ=>I ρ
 | .brk ρ=>nx ρ
 |o=>rt o
def C3 (I:Nat->Ah->Prop)(h0:I 0 ρ)(step:∀i d ρ,ds[i]?=some d->I i ρ->∃ρ1,gt d ρ=.ok ρ1/\WP (gb ρ1) (I (i+1)) (inLoop (I (i+1)) nx rt) ex)(done:∀ρ,I ds.length ρ->nx ρ):WP (forM gt gb ds ρ) nx rt ex:=by
 have key:∀(n i:Nat) (ρ:Ah),i+n=ds.length->I i ρ->WP (forM gt gb (ds.drop i) ρ) nx rt ex:=by
  intro n;induction n with
  |zero =>
   intro i ρ hi h;have e:i=ds.length:=by omega
   subst e;rw[zcs,forM];exact done ρ h
  |succ n ih =>
   intro i ρ hi h;have af:i<ds.length:=by omega
   obtain⟨ρ1,h1,h2⟩:=step i ds[i] ρ (za7 af) h;rw[Iv af,forM,h1];dsimp only;cases q:gb ρ1 with
   |bad|ex x=>rw[q] at h2;exact h2
   |ok o =>
    rw[q] at h2;cases o with
    |next ρ2=>exact ih (i+1) ρ2 (by omega) h2
    |ret d|CC d|FX d ρ2=>exact h2
    |cont ρ2=>exact ih (i+1) ρ2 (by omega) h2
    |brk ρ2=>exact h2
 have:=key ds.length 0 ρ (by omega) h0;rw[zd9] at this;exact this
def LK {α:Type}{c}{b}{lt}(J:α->Ah->Prop){x}(hx:Acc lt x)(h0:J x ρ)(step:∀x ρ,J x ρ->(c ρ=.ok false/\nx ρ)\/(c ρ=.ok true/\WP (b ρ) (λ ρ2=>∃y,lt y x/\J y ρ2) (inLoop (λ ρ2=>∃y,lt y x/\J y ρ2) nx rt) ex)):WP (NY c b ρ) nx rt ex:=by
 have key:∀x,Acc lt x->∀ρ,J x ρ->∃n,AA c b n ρ≠.bad/\WP (AA c b n ρ) nx rt ex:=by
  intro x hx;induction hx with
  |intro x _ ih =>
   intro ρ h;rcases step x ρ h with ⟨h1,h2⟩|⟨h1,h2⟩
   ·refine⟨1,?_,?_⟩
    ·rw[AA,h1];intro z;cases z
    ·rw[AA,h1];exact h2
   ·cases q:b ρ with
    |bad=>rw[q] at h2;exact h2.elim
    |ex y =>
     rw[q] at h2;refine⟨1,?_,?_⟩
     ·rw[AA,h1];dsimp only;rw[q];intro z;cases z
     ·rw[AA,h1];dsimp only;rw[q];exact h2
    |ok o =>
     rw[q] at h2;have go:∀ρ2,(∃y,lt y x/\J y ρ2)->(∀n,AA c b (n+1) ρ=AA c b n ρ2)->∃n,AA c b n ρ≠.bad/\WP (AA c b n ρ) nx rt ex:=by
      rintro ρ2 ⟨y,hy,hJ⟩ e;obtain⟨n,h3,h4⟩:=ih y hy ρ2 hJ;exact⟨n+1,by rw[e];exact h3,by rw[e];exact h4⟩
     cases o with
     |next ρ2|cont ρ2=>exact go ρ2 h2 λ n=>by rw[AA,h1];dsimp only;rw[q]
     |brk ρ2 =>
      refine⟨1,?_,?_⟩
      ·rw[AA,h1];dsimp only;rw[q];intro z;cases z
      ·rw[AA,h1];dsimp only;rw[q];exact h2
     |ret d =>
      refine⟨1,?_,?_⟩
      ·rw[AA,h1];dsimp only;rw[q];intro z;cases z
      ·rw[AA,h1];dsimp only;rw[q];exact h2
     |CC d =>
      refine⟨1,?_,?_⟩
      ·rw[AA,h1];dsimp only;rw[q];intro z;cases z
      ·rw[AA,h1];dsimp only;rw[q];exact h2
     |FX d ρ2 =>
      refine⟨1,?_,?_⟩
      ·rw[AA,h1];dsimp only;rw[q];intro z;cases z
      ·rw[AA,h1];dsimp only;rw[q];exact h2
 obtain⟨n,h1,h2⟩:=key x hx ρ h0;unfold NY;have hx:∃n,AA c b n ρ≠.bad:=⟨n,h1⟩;rw[dif_pos hx];have e:AA c b (za5 hx) ρ=AA c b n ρ:=by
  have a:=D6 (za0 hx) n;have b':=D6 h1 (za5 hx);rw[Nat.add_comm] at b';rw[<-a,<-b']
 rw[e];exact h2
abbrev rtT (Q:OT->Prop)(o:Out):Prop:=match o with
 | .ret d=>Q (.sh d)
 | .CC c=>∃t,clT c=.ok t/\Q t
 |_=>False
def LL (h:WP m (λ _=>Q (.sh .Av)) (rtT Q) (λ _=>False)):∃t,VZ m=.ok t/\Q t:=by
 cases m with
 |bad|ex x=>exact h.elim
 |ok o =>
  cases o with
  |next ρ|ret d=>exact⟨_,rfl,h⟩
  |CC c=>exact h
  |FX c ρ|brk ρ|cont ρ=>exact h.elim
def AX (h:WP m (λ _=>OT.sh .Av=t) (rtT (·=t)) (λ _=>False)):VZ m=.ok t:=by
 obtain⟨u,h1,h2⟩:=LL (Q:=(·=t)) h;rw[h1,h2]
abbrev rtD (Q:D->Prop)(o:Out):Prop:=match o with
 | .ret d=>Q d
 | .CC c=>∃t,clD c=.ok t/\Q t
 |_=>False
def aau (h:WP m (λ _=>Q .Av) (rtD Q) (λ _=>False)):∃t,fin m=.ok t/\Q t:=by
 cases m with
 |bad|ex x=>exact h.elim
 |ok o =>
  cases o with
  |next ρ|ret d=>exact⟨_,rfl,h⟩
  |CC c=>exact h
  |FX c ρ|brk ρ|cont ρ=>exact h.elim
def aav (h:WP m (λ _=>D.Av=d) (rtD (·=d)) (λ _=>False)):fin m=.ok d:=by
 obtain⟨u,h1,h2⟩:=aau (Q:=(·=d)) h;rw[h1,h2]
end
section
variable {d:D}{ds es:List D}{o:Option Cl}{i n:Nat}{p:Option Nat}{t u:OT}{π:List Nat}{b:Bool}{ks vs:List D}{ts:List OT}{m:M D}
def rv0:rv 0 (some (.val d)::ρ)=.ok d:=rfl
def rvS:rv (i+1) (o::ρ)=rv i ρ:=rfl
abbrev W4 (f:Ah->Ah)(m:M Out):M Out:=match m with
 | .ok (.next ρ)=>.ok (.next (f ρ))
 |m=>m
def LM {f}:W4 f (.ok (.next ρ))=.ok (.next (f ρ)):=rfl
def LN:W0 0 (some (.own ds)::ρ)=.ok []:=rfl
def LO:W0 0 (some (.ow (.OB n ds))::ρ)=.ok []:=rfl
def JJ:W0 0 (some (.ow (.tree p t))::ρ)=.ok []:=by unfold W0 XX;simp[treeOf]
def Zg:W0 (i+1) (o::ρ)=W0 i ρ:=rfl
def Zh:XX 0 (some (.own ds)::ρ) π=Nm (.lst (ds.map .sh)) π:=rfl
def Zi:XX 0 (some (.ow (.OB n ds))::ρ) π=Nm (.lst (ds.map .sh)) π:=rfl
def QB:XX 0 (some (.ow (.tree p t))::ρ) π=Nm t π:=rfl
def Pn:Vh 0 (some (.own ds)::ρ) []=.ok ds:=by unfold Vh;simp[Zh,D7]
def Po:Vh 0 (some (.ow (.OB n ds))::ρ) []=.ok ds:=by unfold Vh;simp[Zi,D7]
def LP:Vh 0 (some (.ow (.tree p (.lst (ds.map .sh))))::ρ) []=.ok ds:=by unfold Vh;simp[QB,D7]
def oZ:Vh (i+1) (o::ρ) π=Vh i ρ π:=rfl
def JK:E8 0 (some (.own ds)::ρ) []=.ok (ds.map .sh):=by unfold E8;simp[Zh]
def JL:E8 0 (some (.ow (.OB n ds))::ρ) []=.ok (ds.map .sh):=by unfold E8;simp[Zi]
def Hc:E8 0 (some (.ow (.tree p (.lst ts)))::ρ) []=.ok ts:=by unfold E8;simp[QB]
def UA:E8 (i+1) (o::ρ) π=E8 i ρ π:=rfl
def Dy:HI 0 (some (.ow (.tree p (.BE b ks (vs.map .sh))))::ρ) []=.ok (b,ks,vs):=by unfold HI;simp[QB,D7]
def UB:HI (i+1) (o::ρ) π=HI i ρ π:=rfl
def LQ:II 0 (some (.own ds)::ρ) [] u=.ok (.next (some (toCl none u)::ρ)):=by unfold II;simp[treeOf]
def LR:II 0 (some (.ow (.OB n ds))::ρ) [] u=.ok (.next (some (toCl (some n) u)::ρ)):=by unfold II;simp[treeOf]
def JM:II 0 (some (.ow (.tree p t))::ρ) π u=.ok (.next (some (toCl p (F3 t π u))::ρ)):=by unfold II;simp[treeOf]
def Zj:II (i+1) (o::ρ) π u=W4 (o::·) (II i ρ π u):=by
 unfold II W4;simp only[zaz,zae];split
 ·rename_i c e;split<;>simp_all
 ·simp_all
def LS:cC 0 (some (.own ds)::ρ) (.ok d)=if ds.length<1000 then .ok (.next (some (.own (ds++[d]))::ρ)) else .bad:=rfl
def Zk:cC (i+1) (o::ρ) m=W4 (o::·) (cC i ρ m):=by
 unfold cC;rw[zaz];cases q:ρ[i]? with
 |none=>rfl
 |some oo =>
  cases oo with
  |none=>rfl
  |some c =>
   cases c with
   |own ds =>
    cases m with
    |ok d =>
     simp only[M.A8,zae];by_cases h:ds.length<1000
     ·rw[if_pos h,if_pos h];rfl
     ·rw[if_neg h,if_neg h];rfl
    |ex x|bad=>rfl
   |val d|ow w=>rfl
def LU:cJ 0 (some (.own ds)::ρ) (.ok (.int j)) (.ok d)=if 0<=j/\j.toNat<=ds.length/\ds.length<1000 then .ok (.next (some (.own (ds.take j.toNat++d::ds.drop j.toNat))::ρ)) else .bad:=rfl
def Zl:cJ (i+1) (o::ρ) m m2=W4 (o::·) (cJ i ρ m m2):=by
 unfold cJ;rw[zaz];cases q:ρ[i]? with
 |none=>rfl
 |some oo =>
  cases oo with
  |none=>rfl
  |some c =>
   cases c with
   |own ds =>
    cases m with
    |ok d =>
     cases m2 with
     |ok d2 =>
      simp only[M.A8,zae];cases d with
      |int j =>
       dsimp only;by_cases h:0<=j/\j.toNat<=ds.length/\ds.length<1000
       ·rw[if_pos h,if_pos h];rfl
       ·rw[if_neg h,if_neg h];rfl
      |_=>rfl
     |ex x|bad=>rfl
    |ex x|bad=>rfl
   |val d|ow w=>rfl
def LV:XW 0 (some (.val d)::ρ)=.ok (.ret d):=rfl
def LW:XW 0 (some (.own ds)::ρ)=.ok (.CC (.own ds)):=rfl
def Pp:XW 0 (some (.ow w)::ρ)=.ok (.CC (.ow w)):=rfl
def Zm:XW (i+1) (o::ρ)=XW i ρ:=rfl
def acA:abY i ρ π=match XX i ρ π with | some (.sh d)=>.ok d | _=>.bad:=rfl
def pA:jB (i+1) (o::ρ)=o::jB i ρ:=by
 unfold jB;simp only[zaz,zae];split<;>simp_all
def pB {c}:jB 0 (some c::ρ)=some (Np c)::ρ:=rfl
def LX:Np (.val d)=.val d:=rfl
def LY:Np (.own ds)=.val (.lst ds):=rfl
def LZ:Np (.ow (.OB n ds))=.val (.lst ds):=rfl
def Pq:Np (.ow (.tree p t))=.val (er t):=rfl
def IL:er (.BE b ks (vs.map .sh))=.BE b ks vs:=by rw[er,Nq]
def Hd:er (.lst (ds.map .sh))=.lst ds:=by rw[er,Nq]
def M3:er (.sh d)=d:=rfl
def muC:Bf (none::l) ρ=none::Bf l ρ:=rfl
def muN:Bf [] ρ=[]:=rfl
def pC:Bf (some i::l) ρ=(match ρ[i]? with | some (some (.val d))=>some (.val d) | _=>none)::Bf l ρ:=rfl
def pE {α:Type}{x:α}{y}:(if ([]:List D).length<=1000 then x else y)=x:=if_pos (by show 0<=1000;decide)
def pF {α:Type}{x:α}{y}{a:D}:(if [a].length<=1000 then x else y)=x:=if_pos (by show 1<=1000;decide)
def pG {α:Type}{x y:α}{a b:D}:(if [a,b].length<=1000 then x else y)=x:=if_pos (by show 2<=1000;decide)
def pH {α:Type}{x y:α}{a b c:D}:(if [a,b,c].length<=1000 then x else y)=x:=if_pos (by show 3<=1000;decide)
def pI {α:Type}{x:α}{y}{a b c}:(if [a,b,c,d].length<=1000 then x else y)=x:=if_pos (by show 4<=1000;decide)
def toCl_nil:toCl none (.lst [])=.own []:=rfl
def BL {α:Type}{gt:D->Ah->M Ah}{ft:Ah->M Bool}{fe:Ah->M D}{g:α->D}(p:α->Bool)(f:α->D):∀ {l:List α},(∀x∈l,∃ρ1,gt (g x) ρ=.ok ρ1/\ft ρ1=.ok (p x)/\(p x=true->fe ρ1=.ok (f x)))->Bb gt ft fe (l.map g) ρ=.ok ((l.filter p).map f)
 |[],_=>rfl
 |x::r,h=>by
  obtain⟨ρ1,h1,h2,h3⟩:=h x za3;have ih:=BL (gt:=gt) (ft:=ft) (fe:=fe) (g:=g) p f (l:=r) λ y hy=>h y (za4 _ hy);rw[za6,Bb,h1];dsimp only;rw[h2];dsimp only;rw[List.filter_cons];cases hp:p x with
  |true =>
   rw[if_pos rfl,h3 hp];dsimp only;rw[ih];simp
  |false=>simp[ih]
def BM {α:Type}{g}(f:α->D){l:List α}(h:∀x∈l,∃ρ1,gt (g x) ρ=.ok ρ1/\ft ρ1=.ok true/\fe ρ1=.ok (f x)):Bb gt ft fe (l.map g) ρ=.ok (l.map f):=by
 have:=BL (gt:=gt) (ft:=ft) (fe:=fe) (ρ:=ρ) (g:=g) (λ _=>true) f (l:=l) λ x hx=>by
  obtain⟨ρ1,h1,h2,h3⟩:=h x hx;exact⟨ρ1,h1,h2,λ _=>h3⟩
 rw[this,List.filter_eq_self.mpr (λ _ _=>rfl)]
def BB {α:Type}{g}{l:List α}(h:(l.map g)[i]?=some d):∃x,l[i]?=some x/\d=g x:=by
 rw[zax] at h;cases q:l[i]? with
 |none=>rw[q] at h;cases h
 |some x=>rw[q] at h;cases h;exact⟨x,rfl,rfl⟩
def UC:oP (.lst (ds.map .sh))=.ok ds:=by unfold oP;simp[D7,oO]
def JN {α:Type}{x:α}:oO (some x)=.ok x:=rfl
def Pr:So i ρ (.sh d)=.ok (.next (ρ.set i (some (.val d)))):=rfl
def M4:So i ρ (.lst ts)=.ok (.next (ρ.set i (some (toCl none (.lst ts))))):=rfl
def M5:So i ρ (.tup ts)=.ok (.next (ρ.set i (some (.ow (.tree none (.tup ts)))))):=rfl
def M6:So i ρ (.BE b ks ts)=.ok (.next (ρ.set i (some (.ow (.tree none (.BE b ks ts)))))):=rfl
def M7:So i ρ (.ins x ns ts)=.ok (.next (ρ.set i (some (.ow (.tree none (.ins x ns ts)))))):=rfl
def Pt:cM (.sh d)=.ok (.ret d):=rfl
def M8:cM (.lst ts)=.ok (.CC (.ow (.tree none (.lst ts)))):=rfl
def M9:cM (.tup ts)=.ok (.CC (.ow (.tree none (.tup ts)))):=rfl
def Ma:cM (.BE b ks ts)=.ok (.CC (.ow (.tree none (.BE b ks ts)))):=rfl
def W5 {α:Type}{f}(h:∀x,Lu (f x)=true):∀l:List α,Lw (l.map f)=true
 |[]=>by simp[Lw]
 |x::r=>by rw[za6,Lw,h x,W5 h r];rfl
def W6:∀ds:List D,HG (ds.map .sh)=Lw ds
 |[]=>by simp[Lw,HG]
 |d::r=>by rw[za6,HG,IC,W6 r,Lw]
def vX (h:Lu d=true):Xl (.ok (.sh d))=.ok (.sh d):=by unfold Xl;simp[IC,h]
def pJ (h:Lw ds=true):Xl (.ok (.lst (ds.map .sh)))=.ok (.lst (ds.map .sh)):=by unfold Xl;simp[IC,W6,h]
def pK {i}:Lu (.int i)=true:=by simp[Lu]
def W7:EG (.lst ds)=.ok (!ds.isEmpty):=rfl
def vY {a:Int}{m}(h0:0<=a)(h1:a<m)(s0:1<=s)(s1:s<m):(a+s)%m≠a:=by
 by_cases h:a+s<m
 ·rw[Int.emod_eq_of_lt (by omega) h];omega
 ·have e:(a+s)%m=(a+s-m)%m:=by rw[Int.sub_emod_right]
  rw[e,Int.emod_eq_of_lt (by omega) (by omega)];omega
def Pu (i j:Int):bY k (.int i) (.int j)=.ok (.bl (decide (i=j))):=by
 rw[Qm (Cu _) (Cu _)];simp only[Bw,Bool.beq_eq_decide_eq]
def Pw (i j:Int):Xk k (.int i) (.int j)=.ok (.bl (!decide (i=j))):=by
 rw[Qn (Cu _) (Cu _)];simp only[Bw,Bool.beq_eq_decide_eq]
def Mb {i}:vG (.int i) (.int j)=.ok (.int (i+j)):=rfl
def Mc {i}:zY (.int i) (.int j)=.ok (.int (i-j)):=rfl
def Px {i}:dLt (.int i) (.int j)=.ok (.bl (decide (i<j))):=rfl
def Py {i}:dLe (.int i) (.int j)=.ok (.bl (decide (i<=j))):=rfl
def Pz {i}:dGt (.int i) (.int j)=.ok (.bl (decide (j<i))):=rfl
def PB {i}:dGe (.int i) (.int j)=.ok (.bl (decide (j<=i))):=rfl
def PD {i}:asI (.int i)=.ok (some i):=rfl
def Md:XN [.lst ds]=.ok (.int ds.length):=rfl
def Me:XN [.tup ds]=.ok (.int ds.length):=rfl
def ite_tt {α:Type}{x:α}{y}:(if true=true then x else y)=x:=rfl
def ite_ff {α:Type}{x:α}{y}:(if false=true then x else y)=y:=rfl
def Y3 {lo}(h:rT lo hi x=.ok (.lst ds)):cS lo hi x=.ok (.lst (ds.map .sh)):=by
 unfold rT at h;unfold cS;cases x with
 |lst xs=>dsimp only at h ⊢;injection h with h;injection h with h;rw[h]
 |_=>cases h
def W8 (xs:List D)(k:Nat):cS none (some (k:Int)) (.lst xs)=.ok (.lst ((xs.take k).map .sh)):=Y3 (iQ xs k)
def QC (xs:List D)(k:Nat):cS (some (k:Int)) none (.lst xs)=.ok (.lst ((xs.drop k).map .sh)):=Y3 (iS xs k)
def pL (xs:List D)(a b:Nat):cS (some (a:Int)) (some (b:Int)) (.lst xs)=.ok (.lst (((xs.drop a).take (b-a)).map .sh)):=Y3 (oA xs a b)
def Mf:K3 (.lst ds)=.ok (.lst (ds.map .sh)):=rfl
def Mg:K3 (.tup ds)=.ok (.lst (ds.map .sh)):=rfl
def JO {ns:List Int}:aas [.lst (ns.map D.int)]=.ok (.int ns.sum):=by unfold aas;dsimp only;rw[Gi]
def JP:K9 T (.lst ds)=.ok (.bl (Fy T (.lst ds))):=rfl
def JQ:K9 T (.tup ds)=.ok (.bl (Fy T (.tup ds))):=rfl
def JR:K9 T (.int k)=.ok (.bl (Fy T (.int k))):=rfl
def JS:K9 T .Av=.ok (.bl (Fy T .Av)):=rfl
def Mh:K9 T (.bl k)=.ok (.bl (Fy T (.bl k))):=rfl
def JT:K9 T (.str k)=.ok (.bl (Fy T (.str k))):=rfl
def JU:K9 T (.BE b ks vs)=.ok (.bl (Fy T (.BE b ks vs))):=rfl
def Zn:Fy "list" (.lst ds)=true:=rfl
def Zo:Fy "tuple" (.tup ds)=true:=rfl
def Zp:Fy "int" (.int k)=true:=rfl
def Zq:Fy "bool" (.int k)=false:=rfl
def Zr:Fy "dict" (.BE b ks vs)=true:=rfl
def JV {ns:List Int}:LC neg (.int k) (.lst (ns.map D.int))=.ok (.bl (if neg then !ns.contains k else ns.contains k)):=by
 unfold LC dIn;dsimp only;rw[Gi]
abbrev vO (s:Option D):Option Cl:=s.map .val
def PF:FA (vO s::ρ)=vO s::FA ρ:=by cases s<;>rfl
end
abbrev Y4 (x:Int):List Int->List Int
 |[]=>[x]
 |y::r=>if x<=y then x::y::r else y::Y4 x r
abbrev IM:List Int->List Int
 |[]=>[]
 |x::r=>Y4 x (IM r)
def Nt (x:Int):∀l:List Int,(Y4 x l).Perm (x::l)
 |[]=>.refl _
 |y::r=>by
  unfold Y4;split
  ·exact .refl _
  ·exact ((Nt x r).cons y).trans (.swap x y r)
def F7:∀l:List Int,(IM l).Perm l
 |[]=>.refl _
 |x::r=>(Nt x (IM r)).trans ((F7 r).cons x)
def O0 (x:Int):∀l:List Int,l.Pairwise (·<=·)->(Y4 x l).Pairwise (·<=·)
 |[],_=>by simp[Y4]
 |y::r,h=>by
  unfold Y4;have hy:=List.pairwise_cons.mp h;split
  ·rename_i c9;exact List.pairwise_cons.mpr ⟨λ z hz=>by
    rcases zac.mp hz with rfl|hz
    ·exact c9
    ·exact Int.le_trans c9 (hy.1 z hz),h⟩
  ·rename_i c9;exact List.pairwise_cons.mpr ⟨λ z hz=>by
    rcases zac.mp ((Nt x r).mem_iff.mp hz) with rfl|hz
    ·omega
    ·exact hy.1 z hz,O0 x r hy.2⟩
def He:∀l:List Int,(IM l).Pairwise (·<=·)
 |[]=>.nil
 |x::r=>O0 x _ (He r)
def IQ:∀ {a b:List Int},a.Perm b->a.Pairwise (·<=·)->b.Pairwise (·<=·)->a=b
 |[],b,hp,_,_=>(List.nil_perm.mp hp).symm
 |x::r,[],hp,_,_=>by have:=hp.length_eq;simp at this
 |x::r,y::t,hp,ha,hb=>by
  have cb:=List.pairwise_cons.mp ha;have ay:=List.pairwise_cons.mp hb;have e:x=y:=by
   have h1:x∈y::t:=hp.mem_iff.mp (za3 ..);have h2:y∈x::r:=hp.mem_iff.mpr (za3 ..);rcases zac.mp h1 with e|h1
   ·exact e
   rcases zac.mp h2 with e|h2
   ·exact e.symm
   have:=cb.1 _ h2;have:=ay.1 _ h1;omega
  subst e;rw[IQ (List.Perm.cons_inv hp) cb.2 ay.2]
def Mi:∀ {us:List Value}{ns:List Int},IntsAre us ns->Vals (ns.map V.int) us
 |_,_,.nil=>.nil
 |_,_,.cons n t h=>.cons ⟨t,rfl⟩ (Mi h)
def QD {K}:∀l:List Int,Ak K H (l.map V.int) (l.map D.int)
 |[]=>.nil
 |x::r=>.cons (.int _) (QD r)
section
variable {te:TE}
abbrev ab1 (X:Cx)(te:TE):TE:=λ σ H Q=>te σ H λ x H1=>∃p ns,x=.ref p/\DU X.K H1 p (List.map V.int ns)/\ns.length<64/\∀r,H1 r=none->Q (.ref r) (upd H1 r (.lst ((IM ns).map V.int)))
def cT (hc:X.calm=true)(hg:Gl X "sorted")(hm:X.mg "sorted" = none)(he:PE X e te)(hv:bootBuiltins "sorted" = some (.builtin "sorted"):=by decide +kernel)(hs: ~~~(starEach [e] X.env=[(false,eval e X.env)])):
 PE X (.Call (.Name "sorted" p) [e] [] pos) (ab1 X te):=by
 intro pins s σ H Q I h;refine wpAny_Call_Name_kw (Ei I hg hm hv ?_);refine PyProof.Rows.callWith_builtin1 ?_ hs;rw[hs];refine zc3 (B9 (he pins s σ H _ I h) λ u s1 zz=>?_);obtain⟨x,H1,I1,r1,q1⟩:=zz;obtain⟨q,ns,rfl,hq,x6,h⟩:=q1;cases r1;refine zcg ?_;obtain⟨aa,r',pl,hz⟩:=I1.list hq;have hi:=intsAre_of r';have d8:=r'.length;rw[za2] at d8;refine sorted_ints pl.isList hi (by omega) λ out dn b1 b2 b3=>?_;obtain⟨c',bg⟩:=sortedAll_at s1.heap aa out;have e:dn=IM ns:=IQ (b2.trans (F7 ns).symm) b3 (He ns);subst e;refine⟨.ref _,_,I1.laid (t':=s1.toks) (o:=.lst ((IM ns).map V.int)) (λ b o e=>sortedAll_old e) (Nat.le_succ _) ⟨?_,out.toList,c',Mi b1,by simpa using bg⟩,rfl,h _ (I1.Aw.fresh (Nat.le_succ _))⟩;rw[za2,(F7 ns).length_eq];exact zbq (AF (by omega))
abbrev pM (d:D):M OT:=match d with
 | .lst xs=>(match Dh xs with|some ns=>if ns.length<64 then .ok (.lst (((IM ns).map .int).map .sh)) else .bad|none=>.bad)
 |_=>.bad
def cU (h:ns.length<64):pM (.lst (ns.map .int))=.ok (.lst (((IM ns).map .int).map .sh)):=by
 unfold pM;dsimp only;rw[Gi];dsimp only;rw[if_pos h]
def cV (hc:X.calm=true)(hg:Gl X "sorted")(hm:X.mg "sorted" = none)(he:DE X WX true e f)(hv:bootBuiltins "sorted" = some (.builtin "sorted"):=by decide +kernel)(hs: ~~~(starEach [e] X.env=[(false,eval e X.env)])):
 DN X WX (.Call (.Name "sorted" p) [e] [] pos) (λ ρ=>(f ρ).bind pM):=by
 obtain⟨te,e1,e2⟩:=he;refine⟨_,cT hc hg hm e1 hv hs,λ P0 P σ H Q ρ E h=>?_⟩;refine e2 P0 P σ H _ ρ E ?_;dsimp only at h;refine bV h λ d h=>?_;intro v H1 s1 hv;unfold pM at h;split at h
 ·rename_i xs;split at h
  ·rename_i ns eb;have:=Gj eb;subst this;split at h
   ·rename_i hl;cases hv with
    |lst hs hh =>
     have:=F2 hh;subst this;exact⟨_,ns,rfl,hs.Be,hl,h.K3 s1 (QD _)⟩
   ·exact h.elim
  ·exact h.elim
 ·exact h.elim
abbrev pN (d k:D):M OT:=match k with
 | .int j=>if 0<=j/\j.toNat<=1000 then .ok (.lst ((zak j.toNat d).map .sh)) else .bad
 |_=>.bad
def W9 {n:Nat}(h:n<=1000):pN d (.int (n:Int))=.ok (.lst ((zak n d).map .sh)):=by
 unfold pN;dsimp only;rw[if_pos ⟨by omega,by omega⟩,zbj]
def jK (ha:DE X WX true a f)(hb:DE X WX true b g)(ax: ~~~(starEach [a] X.env=[(false,eval a X.env)])):
 DN X WX (.BinOp (.List [a] so) .Mult b pos) (λ ρ=>(f ρ).bind λ d=>(g ρ).bind λ k=>pN d k):=by
 obtain⟨ta,a1,a2⟩:=ha;obtain⟨tb,b1,b2⟩:=hb;refine⟨_,fO uV (XA (Ba a1 Ci ax)) b1,λ P0 P σ H Q ρ E h=>?_⟩;dsimp only at h;refine a2 P0 P σ H _ ρ E ?_;refine bV h λ d h=>?_;intro v H1 s1 hv;have E1:=E.same s1;refine⟨zbq (AF (by simp)),λ p hp=>?_⟩;have s2:Aj H1 (upd H1 p (.lst [v])):=AL hp _;have E2:=E1.same s2;refine b2 P0 P σ _ _ ρ E2 ?_;cases q2:g ρ with
 |bad=>rw[q2] at h;exact h
 |ex x=>rw[q2] at h;exact λ H' s3=>h H' ((s1.trans s2).trans s3)
 |ok k =>
  rw[q2] at h;simp only[M.A8] at h;unfold pN at h;intro w H3 s3 hw;cases k with
  |int j =>
   dsimp only at h;by_cases hj:0<=j/\j.toNat<=1000
   ·rw[if_pos hj] at h;cases hw;refine⟨p,j,[v],rfl,rfl,s3 _ _ An,by omega,by omega,zbq (AF (by simp;omega)),?_⟩;rw[Tb];exact h.K3 ((s1.trans s2).trans s3) (VU ((hv.mono s2.del).mono s3.del) j.toNat)
   ·rw[if_neg hj] at h;exact h.elim
  |_=>exact h.elim
end
abbrev pO (f:Str):List Str->List D->Option D
 |n::ns,d::ds=>if f==n then some d else pO f ns ds
 |_,_=>none
def Wa {K:za1}{H:Hp}{f:Str}:∀ {fs:List (Str×V)}{ds:List D}{d:D},Ak K H (fs.map zbs) ds->pO f (fs.map zb0) ds=some d->∃v,fs.lookup f=some v/\BQ K H v d
 |[],ds,d,_,h=>by simp[pO] at h
 |(n,v)::fs,_,d,.cons hv ht,h=>by
  rw[za6,pO] at h;rw[zc4];cases q:f==n with
  |true=>rw[q,if_pos rfl] at h;cases h;exact⟨v,rfl,hv⟩
  |false=>rw[q,if_neg (by simp)] at h;exact Wa ht h
def IR {K:za1}{H:Hp}{f:Str}:∀ {fs:List (Str×V)}{ds:List D},Ak K H (fs.map zbs) ds->pO f (fs.map zb0) ds=none->fs.lookup f=none
 |[],ds,_,h=>rfl
 |(n,v)::fs,_,.cons hv ht,h=>by
  rw[za6,pO] at h;rw[zc4];cases q:f==n with
  |true=>rw[q,if_pos rfl] at h;cases h
  |false=>rw[q,if_neg (by simp)] at h;exact IR ht h
structure Gm (K:za1)(x f:Str):Prop where
 ex:∃C,zau K mainGlobals x=some (some (.ref C))/\Ve K C/\KC K C f
abbrev K4 (cs:List Str)(f:Str)(d:D):M D:=match d with
 | .ins x ns ds=>if x∈cs then (match pO f ns ds with|some e=>.ok e|none=>.bad) else .bad
 |_=>.bad
section
variable {fs:Ah->M (List D)}{te:TE}
def BN (cs:List Str){fl}(jf:∀x∈cs,Gm X.K x fl)(ha:DE X WX c a f)(hb: ~~~(attributeBase a fl X.env (eval a X.env)=eval a X.env)):DE X WX c (.Attribute a fl pos) (λ ρ=>(f ρ).bind (K4 cs fl)):=by
 obtain⟨ta,a1,a2⟩:=ha;refine⟨_,uJ a1 hb,λ P0 P σ H Q ρ E h=>?_⟩;dsimp only at h;refine a2 P0 P σ H _ ρ E ?_;cases e:f ρ with
 |bad|ex x=>rw[e] at h;exact h
 |ok d =>
  rw[e] at h;simp only[M.A8] at h;intro v H1 s1 hv;unfold K4 at h;split at h
  ·rename_i x ns ds;split at h
   ·rename_i hx;split at h
    ·rename_i d' el;cases hv with
     |ins hn ha hl =>
      obtain⟨C,aS,hc,ce⟩:=(jf x hx).ex;rw[hn] at aS;cases aS;obtain⟨v',l1,l2⟩:=Wa hl el;exact⟨_,_,_,_,v',rfl,(Al ha).2,hc,ce,l1,h v' H1 s1 l2⟩
    ·exact h.elim
   ·exact h.elim
  ·exact h.elim
structure Mj (K:za1)(x m qual:Str)(st:Stmt)(ps:List Str):Prop where
 ex:∃C f fd,zau K mainGlobals x=some (some (.ref C))/\Ve K C/\Meth K C m f/\eY K m qual st f fd/\Binds K fd ps []
structure FC (P:Program)(w:World)(K:za1)(mg:Str->Option Value)(base:Heap)(x m:Str)(k n:Nat)(F:List D->M OT):Prop where
 ex:∃C fa fd ps,zau K mainGlobals x=some (some (.ref C))/\Ve K C/\Meth K C m fa/\CL P w K mg base (S6 P w base) k fa fd ps (spT K n F)/\Binds K fd ps []
def Hf {P}{K}{st}(T:Mj K x m qual st ps)(S:Ab N ps (A3 st))(g:Ah->M Out)(hb:∀(f:Addr) (AZ:Value) (A:Around) (outer:List Env) (s:Shared) (H:Hp) (E:XK),Br k (A.deeper (envOfC qual (A3 st) s.heap.objs.size f AZ))->Vg (mC P w K mg base N qual (A3 st) f AZ A outer s H E) (CQ K E) (AE st) g)(hn: ~~~(ps.length=n)):
 FC P w K mg base x m (k+1) n (λ ds=>VZ (g (D5 N ds))):=by
 obtain⟨C,f,fd,h1,h2,h3,F,hB⟩:=T.ex;subst hn;exact⟨⟨C,f,fd,ps,h1,h2,h3,aan F S g (hb f),hB⟩⟩
abbrev lkF (x:Str):List (Str×(List D->M OT))->Option (List D->M OT)
 |[]=>none
 |(y,F)::r=>if x=y then some F else lkF x r
def Zs:∀ {ms:List (Str×(List D->M OT))},lkF x ms=some F->(x,F)∈ms
 |[],h=>by cases h
 |(y,G)::r,h=>by
  unfold lkF at h;split at h
  ·rename_i e;cases h;subst e;exact za3
  ·exact za4 _ (Zs h)
abbrev Dz (ms:List (Str×(List D->M OT)))(m:Str)(d:D):M (List D->M OT):=match d with
 | .ins x ns es=>(match lkF x ms with
  |some F=>(match pO m ns es with|none=>.ok F|some _=>.bad)
  |none=>.bad)
 |_=>.bad
def Ml (h:Dz ms m d=.ok F):∃x ns es,d=.ins x ns es/\(x,F)∈ms/\pO m ns es=none:=by
 unfold Dz at h;split at h
 ·rename_i x ns es;split at h
  ·rename_i G e;split at h
   ·rename_i e2;cases h;exact⟨x,ns,es,rfl,Zs e,e2⟩
   ·cases h
  ·cases h
 ·cases h
def JW:Dz ms m d≠.ex x:=λ h=>by
 unfold Dz at h;split at h
 ·split at h
  ·split at h<;>cases h
  ·cases h
 ·cases h
abbrev jL (X:Cx)(m:Str)(k:Nat)(E:XK)(ta:TE)(t:TA):TE:=λ σ H Q=>ta σ H λ x H1=>∃a C dx fs f fd ps n F,x=.ref a/\H1 a=some (.ins C dx fs)/\fs.lookup m=none/\Ve X.K C/\Meth X.K C m f/\CL X.prog X.w X.K X.mg X.base (S6 X.prog X.w X.base) k f fd ps (spT X.K n F)/\Binds X.K fd ps []/\
 t σ H1 λ vs H2=>spT X.K n F (x::vs) H2 Q E
def jM (he:PE X o ta)(hr:Br k X.A)(hx:FU (S6 X.prog X.w X.base) X E)(ha:PA X (e::es) t)(ax: ~~~(starEach (e::es) X.env=(false,eval e X.env)::starEach es X.env))(hpl: ~~~((backTo pos (starEach es X.env)).any (·.1)=false))(ht: ~~~(eval (.Call (.Attribute o m apos) (e::es) [] pos) X.env=(do
  let ov <-eval o X.env
  standAt apos.atName
  let (f,first) <-holding [ov] (getMethod ov m pl)
  callWith pos f first (backTo pos (starEach (e::es) X.env)) (backToKw pos (keywordEach [] X.env))))):
 PE X (.Call (.Attribute o m apos) (e::es) [] pos) (jL X m k E ta t):=by
 intro pins s σ H Q I h;refine PySem.W.methodCall_KW (pl:=pl) (B9 (he pins s σ H _ I h) λ u s1 zz=>?_) ht;obtain⟨x,H1,I1,rx,a,C,dx,fs,f,fd,ps,n,F,ex,ea,l,c,hm,hF,hb,q⟩:=zz;subst ex;obtain rfl:u=zb8 a:=rx;refine GO I1 ea c hm l ?_;refine PySem.W.callWith_K (first:=[.ref a]) (h₀:=X.base) I.ok.mod.Xi hm.kp (B9 (ha pos pins s1 σ H1 _ I1 q) λ us s2 ⟨vs,H2,I2,r,q2⟩=>⟨I2.NU,?_⟩) ax hpl;exact N9 (us:=.ref a::us) (vs:=.ref a::vs) hF hr hb .nil hx I2 (.cons rfl r) (by rw[zba];exact q2)
def cW (he:PE X o ta)(hr:Br k X.A)(hx:FU (S6 X.prog X.w X.base) X E)(ht: ~~~(eval (.Call (.Attribute o m apos) [] [] pos) X.env=(do
  let ov <-eval o X.env
  standAt apos.atName
  let (f,first) <-holding [ov] (getMethod ov m pl)
  callWith pos f first (backTo pos (starEach [] X.env)) (backToKw pos (keywordEach [] X.env))))):
 PE X (.Call (.Attribute o m apos) [] [] pos) (jL X m k E ta uL):=by
 intro pins s σ H Q I h;refine PySem.W.methodCall_KW (pl:=pl) (B9 (he pins s σ H _ I h) λ u s1 zz=>?_) ht;obtain⟨x,H1,I1,rx,a,C,dx,fs,f,fd,ps,n,F,ex,ea,l,c,hm,hF,hb,q⟩:=zz;subst ex;obtain rfl:u=zb8 a:=rx;refine GO I1 ea c hm l ?_;exact PySem.W.callWith_K0 (first:=[.ref a]) I1.NU hm.kp (N9 (us:=[.ref a]) (vs:=[.ref a]) hF hr hb .nil hx I1 (.cons rfl .nil) q)
def Zt {P}{K}{f}(h:k<=k')(F:CL P w K mg base CX k f fd ps sp):CL P w K mg base CX k' f fd ps sp:=
 ⟨F.len,λ A stack s H args us vs Q E hr=>F.run A stack s H args us vs Q E (hr.mono h)⟩
def FH (ms:List (Str×(List D->M OT)))(xo:Gh X E)(sq:∀p∈ms,∃k',k'<=k/\FC X.prog X.w X.K X.mg X.base p.1 m k' n p.2)(hr:Br k X.A)(ho:DE X (CQ X.K E) true o fo)(ha:DA X (CQ X.K E) true (e::es) fs)(aF:(e::es).length+1=n)(ax: ~~~(starEach (e::es) X.env=(false,eval e X.env)::starEach es X.env))(hpl: ~~~((backTo pos (starEach es X.env)).any (·.1)=false))(ht: ~~~(eval (.Call (.Attribute o m apos) (e::es) [] pos) X.env=(do
  let ov <-eval o X.env
  standAt apos.atName
  let (f,first) <-holding [ov] (getMethod ov m pl)
  callWith pos f first (backTo pos (starEach (e::es) X.env)) (backToKw pos (keywordEach [] X.env))))):
 DN X (CQ X.K E) (.Call (.Attribute o m apos) (e::es) [] pos) (λ ρ=>(fo ρ).bind λ d=>(Dz ms m d).bind λ F=>(fs ρ).bind λ ds=>F (d::ds)):=by
 obtain⟨ta,a1,a2⟩:=ho;obtain⟨tb,b1,b2,b3⟩:=ha;refine⟨_,jM (pl:=pl) a1 hr xo.call b1 ax hpl ht,λ P0 P σ H Q ρ Ev h=>?_⟩;dsimp only at h;refine a2 P0 P σ H _ ρ Ev ?_;refine bV h λ d h=>?_;intro v H1 s1 hv;cases q2:Dz ms m d with
 |bad=>rw[q2] at h;exact h.elim
 |ex y=>exact (JW q2).elim
 |ok F =>
  rw[q2] at h;simp only[M.A8] at h;obtain⟨x,ns,sr,rfl,aA,ie⟩:=Ml q2;obtain⟨k',j9,M0⟩:=sq _ aA;obtain⟨C,fa,fd,ps,h1,h2,h3,h4,h5⟩:=M0.ex;cases hv with
  |ins hn hH hl =>
   rw[hn] at h1;cases h1;refine⟨_,_,_,_,fa,fd,ps,n,F,rfl,(Al hH).2,IR hl ie,h2,h3,Zt j9 h4,h5,?_⟩;refine b2 P0 P σ H1 _ ρ (Ev.same s1) ?_;cases q3:fs ρ with
   |bad=>rw[q3] at h;exact h
   |ex y=>rw[q3] at h;exact λ H' s=>h H' (s1.trans s)
   |ok ds =>
    rw[q3] at h;simp only[M.A8] at h;intro vs H2 s2 a5;have bi:=(BQ.ins hn hH hl).mono s2.del;exact⟨by rw[za8,a5.length,b3 ρ ds q3];exact aF,P,_,((Ev.same s1).same s2).Cb,.cons bi a5,h.same (s1.trans s2)⟩
def E9 (ms:List (Str×(List D->M OT)))(xo:Gh X E)(sq:∀p∈ms,∃k',k'<=k/\FC X.prog X.w X.K X.mg X.base p.1 m k' 1 p.2)(hr:Br k X.A)(ho:DE X (CQ X.K E) true o fo)(ht: ~~~(eval (.Call (.Attribute o m apos) [] [] pos) X.env=(do
  let ov <-eval o X.env
  standAt apos.atName
  let (f,first) <-holding [ov] (getMethod ov m pl)
  callWith pos f first (backTo pos (starEach [] X.env)) (backToKw pos (keywordEach [] X.env))))):
 DN X (CQ X.K E) (.Call (.Attribute o m apos) [] [] pos) (λ ρ=>(fo ρ).bind λ d=>(Dz ms m d).bind λ F=>F [d]):=by
 obtain⟨ta,a1,a2⟩:=ho;refine⟨_,cW (pl:=pl) a1 hr xo.call ht,λ P0 P σ H Q ρ Ev h=>?_⟩;dsimp only at h;refine a2 P0 P σ H _ ρ Ev ?_;refine bV h λ d h=>?_;intro v H1 s1 hv;cases q2:Dz ms m d with
 |bad=>rw[q2] at h;exact h.elim
 |ex y=>exact (JW q2).elim
 |ok F =>
  rw[q2] at h;simp only[M.A8] at h;obtain⟨x,ns,sr,rfl,aA,ie⟩:=Ml q2;obtain⟨k',j9,M0⟩:=sq _ aA;obtain⟨C,fa,fd,ps,h1,h2,h3,h4,h5⟩:=M0.ex;cases hv with
  |ins hn hH hl =>
   rw[hn] at h1;cases h1;refine⟨_,_,_,_,fa,fd,ps,1,F,rfl,(Al hH).2,IR hl ie,h2,h3,Zt j9 h4,h5,?_⟩;exact⟨rfl,P,_,(Ev.same s1).Cb,.cons (BQ.ins hn hH hl) .nil,h.same s1⟩
end
section
variable {fs:Ah->M (List D)}{te:TE}
structure vZ (K:za1)(mg:Str->Option Value)(x:Str)(C:Addr):Prop where
 ns:zau K mainGlobals x=some (some (.ref C))
 mg':mg x=some (.ref C)
def cX (hp:H p=none)(hd:H dx=none):Aj H (upd (upd H dx (.own p)) p (.ins C dx [])):=λ b u q=>by
 rw[Ai (AR q hp),Ai (AR q hd)];exact q
structure aay (P:Program)(w:World)(K:za1)(mg:Str->Option Value)(base:Heap)(x:Str)(k n:Nat)(F:OT->List D->M (OT×OT)):Prop where
 ex:∃C fa fd ps,vZ K mg x C/\Mk K C fa/\CL P w K mg base (S6 P w base) k fa fd ps (Tg K n F)/\Binds K fd ps []
abbrev Ti (m:M (OT×OT)):M OT:=match m with
 | .ok (t,.sh .Av)=>.ok t
 |_=>.bad
def PH (xo:Gh X E)(G:aay X.prog X.w X.K X.mg X.base x k n F)(hr:Br (k+1) X.A)(hg:Gl X x)(ha:DA X (CQ X.K E) true (e::es) fs)(aF:(e::es).length+1=n)(aK:(x==("__debug__" : Str))=false:=by decide)(he: ~~~(starEach (e::es) X.env=(false,eval e X.env)::starEach es X.env))(hpl: ~~~((backTo pos (starEach es X.env)).any (·.1)=false)):
 DN X (CQ X.K E) (.Call (.Name x p) (e::es) [] pos) (λ ρ=>(fs ρ).bind λ ds=>Ti (F (.ins x [] []) ds)):=by
 obtain⟨C,fa,fd,ps,hT,hM,hF,hb⟩:=G.ex;obtain⟨ta,a1,a2,a3⟩:=ha;refine⟨_,mU hM hF hr hg hT.mg' hb .nil xo.call a1 aK he hpl,λ P0 P σ H Q ρ Ev h=>?_⟩;dsimp only at h;refine a2 P0 P σ H _ ρ Ev ?_;cases q:fs ρ with
 |bad|ex x=>rw[q] at h;exact h
 |ok ds =>
  rw[q] at h;simp only[M.A8] at h;intro vs H1 s1 a5 y dx hy hd ad;rw[zba];have E1:=Ev.same s1;have sm:=cX (C:=C) hy hd;have c5:∀a∈[y],H1 a=none:=λ a ha=>by rw[za9.mp ha];exact hy
  refine⟨by rw[za8,a5.length,a3 ρ ds q];exact aF,PU P [y],y,.ins x [] [],[y],vs,ds,rfl,λ a ha=>?_,λ a ha=>.inr ha,by simp,C6.ins (fs:=[]) hT.ns An .nil,a5.mono (Cr sm c5),?_⟩
  ·rcases ha with ha|ha
   ·exact (E1.Cb a ha).same sm
   ·rw[za9.mp ha];exact⟨_,An,λ xs=>⟨(λ z=>by cases z),(λ z w=>by cases w)⟩⟩
  ·cases q2:F (.ins x [] []) ds with
   |bad|ex z=>rw[q2] at h;exact h
   |ok tr =>
    obtain⟨t,r⟩:=tr;rw[q2] at h;simp only[Ti] at h;intro v H' P' ah fr k1 k2 k3 k4 k5 k6 k7 k8 k9 vt;cases r with
    |sh d =>
     cases d with
     |Av =>
      cases k6 with
      |sh hv =>
       cases hv;refine⟨rfl,h _ ah H' ?_ ?_ k5 ?_⟩
       ·intro b u eb;have e1:=s1 b u eb;have jg:b≠y:=λ z=>by rw[z,hy] at e1;cases e1
        have e2:=sm b u e1;by_cases hP:P b
        ·exact (k1 b (.inl hP) (by simp[jg])).2.trans e2
        ·exact (Al (k3 b u (by rw[AG λ z=>z.elim hP λ w=>jg (za9.mp w)];exact e2))).2
       ·intro b v3;cases eb:H b with
        |none=>rfl
        |some u =>
         exfalso;have e1:=s1 b u eb;have jg:b≠y:=λ z=>by rw[z,hy] at e1;cases e1
         have e2:=sm b u e1;have hn:=λ z=>jg (za9.mp ((k9 b v3).2 z));exact (Al (k3 b u (by rw[AG hn];exact e2))).1 (k9 b v3).1
       ·refine k4.move (λ b u eb=>?_) λ _ _=>rfl;obtain⟨g1,g2⟩:=Al eb;rw[AG]
        ·exact g2
        ·rintro (z|z)
         ·have jg:b≠y:=λ w=>by
           obtain⟨o,e1,_⟩:=E1.Cb b z;rw[w,hy] at e1;cases e1
          exact g1 (k1 b (.inl z) (by simp[jg])).1
         ·exact g1 (k9 b z).1
     |_=>exact h.elim
    |_=>exact h.elim
end
abbrev Tj (i:Nat)(ρ:Ah)(π:List Nat):M (Str×List Str×List D):=match XX i ρ π with
 |some (.ins x ns ts)=>(match F4 ts with|some vs=>.ok (x,ns,vs)|none=>.bad)
 |_=>.bad
def jN (h:Tj i ρ π=.ex x):False:=by
 unfold Tj at h;split at h
 ·split at h<;>cases h
 ·cases h
abbrev jO (f:Str):List Str->List Str
 |[]=>[f]
 |g::r=>if g=f then g::r else g::jO f r
abbrev jP (f:Str)(d:D):List Str->List D->List D
 |[],_=>[d]
 |g::r,e::t=>if g=f then d::t else e::jP f d r t
 |_::_,[]=>[]
def Wb (f:Str)(v:V):∀fs:List (Str×V),(EW f v fs).map zb0=jO f (fs.map zb0)
 |[]=>rfl
 |(g,x)::r=>by
  rw[za6,jO,EW];split
  ·rfl
  ·rw[za6,Wb f v r]
def Wc {K}{f}(hv:BQ K H v d):∀ {fs:List (Str×V)}{ds:List D},Ak K H (fs.map zbs) ds->Ak K H ((EW f v fs).map zbs) (jP f d (fs.map zb0) ds)
 |[],_,.nil=>.cons hv .nil
 |(g,x)::r,_,.cons hx ht=>by
  rw[za6,jP,EW];split
  ·exact .cons hv ht
  ·exact .cons hx (Wc hv ht)
section
variable {fp:Ah->M (List Nat)}{i:Nat}{fs:Ah->M (List D)}
def Bm.ins {K}(pl:Bm K P H σ ρ i π v t1)(E:Am K P0 P H σ ρ)(h:Tj i ρ π=.ok (x,ns,vs)):
 t1=.ins x ns (vs.map .sh)/\∃l C dx fs,v=.ref l/\Ak K (del H P) (fs.map zbs) vs/\C6 K H P (.ref l) (.ins x ns (vs.map .sh)) [l]/\zau K mainGlobals x=some (some (.ref C))/\H l=some (.ins C dx fs)/\ns=fs.map zb0:=by
 unfold Tj at h;rw[pl.at] at h;split at h
 ·rename_i x' dn r9 e;split at h
  ·rename_i aE e';cases e;cases h;have z:=Dx e';subst z;obtain⟨aq,o1,hp,nd⟩:=pl.own E;generalize ht:OT.ins x ns (vs.map .sh)=t at o1;cases o1 with
   |ins hn hh hr =>
    injection ht with h1 h2 h3
    subst h1 h2 h3;obtain⟨rfl,hs⟩:=hr.vR;exact⟨rfl,_,_,_,_,rfl,hs,.ins hn hh hr,hn,hh,rfl⟩
   |_=>cases ht
  ·cases h
 ·cases h
def Hg (cs:List Str){fl}(jf:∀x∈cs,Gm X.K x fl)(ha:DP X WX a i fp)(hv:DE X WX true e f)(hs: ~~~(swapsWith e (some (.Attribute a fl pos')) pos.line X.env=pure false)):
 DS X WX (.Assign [.Attribute a fl pos'] e pos) (λ ρ=>(f ρ).bind λ v=>(fp ρ).bind λ π=>(Tj i ρ π).bind λ z=>if z.1∈cs/\z.2.1.length<1000 then II i ρ π (.ins z.1 (jO fl z.2.1) ((jP fl v z.2.1 z.2.2).map .sh)) else .bad):=by
 obtain⟨ta,a1,a2⟩:=ha;obtain⟨tv,v1,v2⟩:=hv;refine⟨_,uK a1 v1 hs,λ P0 P σ H Z ρ E h=>?_⟩;dsimp only at h;refine v2 P0 P σ H _ ρ E ?_;refine iN h E λ d h=>?_;intro w H0 s0 hw;have E0:=E.same s0;refine a2 P0 P σ H0 _ ρ E0 ?_;cases q:fp ρ with
 |bad=>rw[q] at h;exact h
 |ex x=>rw[q] at h;exact λ H' s=>h H' P ((E.tr s0).trans (E0.tr s))
 |ok π =>
  rw[q] at h;simp only[M.A8] at h;intro v t1 H1 s1 pl;have E1:=E0.same s1;have x8:=(E.tr s0).trans (E0.tr s1);cases q3:Tj i ρ π with
  |bad=>rw[q3] at h;exact h.elim
  |ex x=>exact (jN q3).elim
  |ok z =>
   obtain⟨x,ns,vs⟩:=z;rw[q3] at h;simp only[M.A8] at h;by_cases hc:x∈cs/\ns.length<1000
   ·rw[if_pos hc] at h;obtain⟨rfl,l,C,dx,fs,rfl,dk,ot,hn,hH,rfl⟩:=pl.ins E1 q3;obtain⟨C',aS,du,ce⟩:=(jf x hc.1).ex;rw[hn] at aS;cases aS;have x9:=hw.mono s1.del;obtain⟨c,p,t0,g1,g2,E3,t3⟩:=E1.vV (o':=.ins C dx (EW fl w fs)) (u:=.ins x (jO fl (fs.map zb0)) ((jP fl d (fs.map zb0) vs).map .sh)) pl ot (λ _=>⟨λ z=>(by cases z),λ _ z=>by cases z⟩) (λ mv=>by
     have:=C6.ins (K:=X.K) (H:=upd H1 l (.ins C dx (EW fl w fs))) (P:=P) (p:=l) (fs:=EW fl w fs) (x:=x) hn An (((Wc x9 dk).mono mv).ows);rw[Wb] at this;exact this)
    rw[Hb g1 g2] at h;exact⟨l,C,dx,fs,rfl,hH,du,ce,by have:=hc.2;rw[za2] at this;exact this,h _ _ _ (x8.trans t3) E3⟩
   ·rw[if_neg hc] at h;exact h.elim
end
section
variable {fp:Ah->M (List Nat)}{i:Nat}{fs:Ah->M (List D)}
abbrev jQ (i:Nat)(ρ:Ah)(π:List Nat)(ds:List D):M (Ah×OT):=match ds[ds.length-1]? with
 |some d=>(match ρ[i]? with
  |some (some c)=>(match treeOf c with|some (p,t)=>.ok (ρ.set i (some (toCl p (F3 t π (.lst (ds.dropLast.map .sh))))),.sh d)|none=>.bad)
  |_=>.bad)
 |none=>.bad
def Zu {c}(h:ρ[i]?=some (some c))(ht:treeOf c=some (p,t))(hd:ds[ds.length-1]?=some d):jQ i ρ π ds=.ok (ρ.set i (some (toCl p (F3 t π (.lst (ds.dropLast.map .sh))))),.sh d):=by
 unfold jQ;simp only[h,ht,hd]
def Sr {K}(h:Ak K H vs ds):Ak K H vs.dropLast ds.dropLast:=by
 rw[List.dropLast_eq_take,List.dropLast_eq_take,h.length];exact Nl _ h
def wA (ha:DP X WX a i fp)(ai: ~~~(attributeBase a "pop" X.env (eval a X.env)=eval a X.env))(aj: ~~~((apos.endLine==ac.line)=true)):
 DX X WX (.Call (.Attribute a "pop" apos) [] [] ac) (λ ρ=>(fp ρ).bind λ π=>(Vh i ρ π).bind λ ds=>jQ i ρ π ds):=by
 obtain⟨ta,a1,a2⟩:=ha;refine⟨_,gK zc2 PySem.F.slot_list_pop PySem.F.type_list_pop uT a1 ai aj,λ P0 P σ H Q ρ E h=>?_⟩;dsimp only at h;refine a2 P0 P σ H _ ρ E ?_;cases q:fp ρ with
 |bad=>rw[q] at h;exact h
 |ex x=>rw[q] at h;exact λ H' s=>h H' P (E.tr s)
 |ok π =>
  rw[q] at h;simp only[M.A8] at h;intro v t1 H1 s1 pl;have E1:=E.same s1;cases q1:Vh i ρ π with
  |bad=>rw[q1] at h;exact h.elim
  |ex x=>exact (Y0 q1).elim
  |ok ds =>
   rw[q1] at h;simp only[M.A8] at h;obtain⟨rfl,l,xs,rfl,hl,ol⟩:=pl.shl E1 q1;refine⟨.inl ⟨rfl,xs,.of hl⟩,?_⟩;cases hd:ds[ds.length-1]? with
   |none=>unfold jQ at h;rw[hd] at h;exact h.elim
   |some d =>
    obtain⟨y,hy,oa⟩:=ol.get hd;obtain⟨c,p,t0,g1,g2,E3,t3⟩:=E1.oI pl hl ol.ows (us:=ds.dropLast.map .sh) (ys:=xs.dropLast) (Sr ol).ows (by simp) (by simp) (by simp);rw[Zu g1 g2 hd] at h;refine⟨l,xs,y,rfl,rfl,hl,by rw[ol.length];exact hy,?_⟩;have sd:Aj (del H1 P) (del (upd H1 l (.lst xs.dropLast)) P):=t3.1;exact h y [] _ _ ((E.tr s1).trans t3) E3 (.sh (oa.mono sd)) (by simp) (by simp)
end
def AW {K}{f}:∀y∈([]:List Str),Gm K y f:=λ y h=>by cases h
def Az {K}{f}(h:Gm K x f)(t:∀y∈xs,Gm K y f):∀y∈x::xs,Gm K y f:=λ y hy=>by
 rcases zac.mp hy with rfl|hy
 ·exact h
 ·exact t y hy
def BR {P}{K}:∀p∈([]:List (Str×(List D->M OT))),∃k',k'<=k/\FC P w K mg base p.1 m k' n p.2:=λ p h=>by cases h
def Bq {P}{K}(hk:k'<=k)(h:FC P w K mg base x m k' n F)(t:∀p∈ms,∃k',k'<=k/\FC P w K mg base p.1 m k' n p.2):
 ∀p∈(x,F)::ms,∃k',k'<=k/\FC P w K mg base p.1 m k' n p.2:=λ p hp=>by
 rcases zac.mp hp with rfl|hp
 ·exact⟨k',hk,h⟩
 ·exact t p hp
end L2
set_option maxRecDepth 1000000
set_option autoImplicit true
set_option relaxedAutoImplicit true
set_option maxHeartbeats 0
namespace L2
open PySem
def JX:entryFor table "dict.update.loop" = some Builtin.«dict.update.loop»:=by unfold entryFor;rfl
open PySem PySem.Spec PySem.Calls PyProof.Rows PySem.W PySem.Builtin PySem.Builtin.ObjectAttr
variable {prog:Program}{E:XK}{X:Cx}{WX:Str->Hp->Prop}{P0:Eh}{σ:St}{ρ:Ah}{e tg iter ek:Expr}{fn:Ah->M OT}{pos a6:Pos}{mg:Str->Option Value}{base:Heap}{rk:Int->Nat}{L:List Int}{ft:Ah->M Bool}{gt:D->Ah->M Ah}{fi:Ah->M (List D)}{es:List Expr}{fk:Ah->M D}
section
variable {w:World}{A:Around}{E:Value->Shared->Prop}{s:Shared}
def call_meets {id}{rest}{Sp}(SL:Slot T nm id)(hB:entryFor table id=some B)(ht:s.TypeIs self T)(ha:argsOk id ⟨self::rest,[]⟩)(m:Meets (B ⟨self::rest,[]⟩) Sp)(h:Sp A (λ r s'=>match r with | .ok (.ret v)=>Q v s' | .ok _=>False | .error e=>E e s') s):wpAny (model prog w) A (call (.builtin id) (self::rest)) Q E s:=
 wpAny_call (codeAny_call_builtin SL.plain hB (SL.check _ _ _ _ _ _ _ _ ht ha (m prog w A _ s h)))
def O1 (hh:A.handled=none)(hl:s.heap.get? l=some {cls:=.type "list",data:=.seq xs k,slots:=sl})(h:∀h' tk,(∀b o,s.heap.get? b=some o->h'.get? b=some o)->Q none {s with heap:=h',toks:=tk}):wpAny (model prog w) A (getAttr? (.ref l) "keys") Q E s:=by
 have miss:typeLookup (.type "list") "keys" = pure none:=am_miss_of_fast (by decide +kernel);have T0:∀hp:Heap,hp.get? l=some {cls:=.type "list",data:=.seq xs k,slots:=sl}->Looks (model prog w) hp (typeOf (.ref l)) (.type "list"):=λ hp e=>(Looks.ld e).andThen .now;have SL:=PySem.F.slot_list_getattribute;have aD:(onTheHeap (Value.type "list")&&Value.builtin "list.__getattribute__" == Value.builtin "object.__getattribute__")=false:=rfl;have oe:(false&&onTheHeap (Value.builtin "list.__getattribute__"))=false:=rfl;unfold getAttr? getAttrBy?;refine wpAny_bind (wpAny_mkText (wpAny_bind (wpAny_attempt ?_)));unfold getAttrBy;refine wpAny_holding (wpAny_bind ((T0 _ hl).at (wpAny_bind ?_)));rw[SL.lookup];refine wpAny_pure ?_;dsimp only;rw[aD,if_neg zav];unfold getAttrByItsOwn hookBefore;rw[if_neg (show ¬ onTheHeap (Value.type "list")=true from zav)];refine wpAny_bind (wpAny_pure (wpAny_bind (wpAny_attempt (wpAny_holding ?_))));unfold callGetattribute;rw[oe,if_neg zav];unfold boundAndCalled;rw[SL.bind];refine wpAny_bind (wpAny_pure ?_);dsimp only;refine call_meets SL am_entry_list_getattribute ⟨_,hl,rfl⟩ (PySem.F.args_list_getattribute_2 _ _) (meets_getattribute_miss_list l xs k sl "keys" s.toks miss rfl (by decide)) ⟨hl,hh,λ h' tk e ne=>?_⟩;dsimp only;obtain⟨kp,nw,t,u,he⟩:=ne;have T1:Looks (model prog w) h' (typeOf (.ref e)) (.type "AttributeError"):=(Looks.ld he).andThen .now;unfold getattributeRaised isInstance;refine wpAny_bind (wpAny_bind (T1.at ?_));rw[sub_AttributeError];refine wpAny_pure ?_;rw[if_pos rfl];unfold hookBehind;rw[if_neg (show ¬ onTheHeap (Value.type "list")=true from zav),am_list_getattr_none];refine wpAny_bind (wpAny_pure ?_);unfold hookOrError attributeErrorLeaves;dsimp only;rw[if_pos (show (!false)=true from rfl)];refine wpAny_bind (wpAny_throw ?_);refine wpAny_bind (wpAny_bind (T1.at ?_));rw[sub_AttributeError];refine wpAny_pure ?_;rw[if_pos rfl];exact wpAny_pure (h h' tk kp)
def Tn (ht:IsTup s.heap t aa)(h:Q aa.toList s):wpAny (model prog w) A (Dict.pairItems (.ref t)) Q E s:=by
 obtain⟨o,h1,h2,n,h3⟩:=ht;have T0:Looks (model prog w) s.heap (typeOf (.ref t)) (.type "tuple"):=h2▸(Looks.ld h1).andThen .now;unfold Dict.pairItems;refine wpAny_bind (T0.at ?_);have hx:(Value.type "tuple" == Value.type "list" || Value.type "tuple" == Value.type "tuple")=true:=by decide
 rw[if_pos hx];exact wpAny_bind (wpAny_seqItems h1 h3 (wpAny_pure h))
def D9:plainId "dict.update.loop" = true:=by decide +kernel
def QE {K:Type}[DecidableEq K]{knd:KeyKind prog w K}{h h':Heap}{d I l:Addr}{i:Nat}{xs:List (List K×Addr×Value)}(hd:h.DictOfH (tupleKind knd) d xs)(hit:h.IsListIter I l i)(sb:∀b o,b≠I->h.get? b=some o->h'.get? b=some o):
 h'.DictOfH (tupleKind knd) d xs:=by
 obtain⟨o,es,ep,h1,h2,h3,h4,h5,h6⟩:=hd;obtain⟨oi,i1,i2,i3⟩:=hit;refine⟨o,es,ep,sb d o (λ z=>?_) h1,h2,h3,h4,λ x hx=>?_,h6⟩
 ·subst z;rw[i1] at h1;cases h1;rw[i3] at h3;cases h3
 ·obtain⟨ok,aa,n,k1,k2,k3,k4⟩:=h5 x hx;refine⟨ok,aa,n,sb _ _ (λ z=>?_) k1,k2,k3,k4⟩;rw[z,i1] at k1;cases k1;rw[i3] at k3;cases k3
def Y5 {K:Type}[DecidableEq K]{knd:KeyKind prog w K}{R:Result->Shared->Prop}{d I l:Addr}{items:Array Value}{h0:Heap}(ps:List (List K×Addr×Value))(hh:A.handled=none)(f8:A.in1.units<cLine)(gx:l≠I)(ss:d≠I)(f9:l≠d)
 (kr:ps.length=items.size) (hsz:items.size+1<=sizeLine) (hl:h0.IsList l items)
 (hp:∀(j:Nat) p,ps[j]?=some p->(p.2.1≠d/\p.2.1≠I/\(tupleKind knd).is h0 p.1 p.2.1)/\∃t,items[j]?=some (.ref t)/\t≠d/\t≠I/\IsTup h0 t #[.ref p.2.1,p.2.2]):
 ∀(m i:Nat) (xs:List (List K×Addr×Value)) (s:Shared),items.size-i=m->i<=items.size->xs.length<=i->s.heap.IsListIter I l i->s.heap.DictOfH (tupleKind knd) d xs->(∀b o,b≠d->b≠I->h0.get? b=some o->s.heap.get? b=some o)->
  (∀h' tk,h'.DictOfH (tupleKind knd) d ((ps.drop i).foldl (λ acc p=>storedH acc p.1 p.2.1 p.2.2) xs)->(∀b o,b≠d->b≠I->h0.get? b=some o->h'.get? b=some o)->R (.ok (.ret .none)) {s with heap:=h',toks:=tk})->
  codeAny (model prog w) A (.builtin "dict.update.loop" ⟨[.ref d,.ref I,rawInt i,.none],[]⟩) R s:=by
 intro m;induction m with
 |zero =>
  intro i xs s hm hi sv hit hd hf h;have br:i=items.size:=by omega
  refine codeAny_builtin JX ?_;rw[zco D9 _];show wpAny _ A.in1 (pyNext (.ref I) >>= _) _ _ s;refine wpAny_bind (wpAny_pyNext_list_end (A:=A.in1) hh hit (hl.at λ o e=>hf l o f9 gx e) (by simp[br]) λ h' eb=>?_);have hd2:=QE hd hit λ b o hb e=>eb b o hb e;show wpAny _ A.in1 (Dict.addKeywords d [] >>= _) _ _ _;unfold Dict.addKeywords;refine wpAny_bind (wpAny_bind ?_);refine wpAny_pure (wpAny_pure (wpAny_pure ?_));have ed:ps.drop i=[]:=by rw[List.drop_eq_nil_iff];omega
  rw[ed] at h;exact h h' s.toks hd2 λ b o h1 h2 e=>eb b o h2 (hf b o h1 h2 e)
 |succ m ih =>
  intro i xs s hm hi sv hit hd hf h;have af:i<items.size:=by omega
  obtain⟨p,ig⟩:∃p,ps[i]?=some p:=⟨ps[i]'(by omega),za7 _⟩;obtain⟨⟨p1,p2,p3⟩,t,ht,t1,t2,t3⟩:=hp i p ig;refine codeAny_builtin JX ?_;rw[zco D9 _];show wpAny _ A.in1 (pyNext (.ref I) >>= _) _ _ s;refine wpAny_bind (wpAny_pyNext_list_item (A:=A.in1) hit (hl.at λ o e=>hf l o f9 gx e) ht λ h' bt sb=>?_);have hd2:h'.DictOfH (tupleKind knd) d xs:=QE hd hit λ b o hb e=>(sb.2 b hb).trans e;have jh:∀b o,b≠d->b≠I->h0.get? b=some o->h'.get? b=some o:=λ b o h1 h2 e=>(sb.2 b h2).trans (hf b o h1 h2 e);have t4:IsTup h' t #[.ref p.2.1,p.2.2]:=by
   obtain⟨o,e1,e2⟩:=t3;exact⟨o,jh t o t1 t2 e1,e2⟩
  have p4:(tupleKind knd).is h' p.1 p.2.1:=by
   obtain⟨o,aa,n,e1,e2⟩:=p3;exact⟨o,aa,n,jh _ o p1 p2 e1,e2⟩
  dsimp only;refine wpAny_bind (wpAny_holding (wpAny_bind (wpAny_tryCatch (Tn t4 ?_))));show wpAny _ A.in1 (holding [.ref p.2.1,p.2.2] (dictSet d (.ref p.2.1) p.2.2)) _ _ _;refine wpAny_holding (wpAny_dictSet_heap (knd:=tupleKind knd) (hsz:=by omega) f8 p4 hd2 λ h3 ii kt=>?_);refine wpAny_pure ⟨plainId_quiet D9 _,?_⟩;have ij:h3.IsListIter I l (i+1):=by
   obtain⟨o,e1,e2⟩:=bt;exact⟨o,(kt.2 I (zbm ss)).trans e1,e2⟩
  have ed:ps.drop i=p::ps.drop (i+1):=by
   rw[zcl (by omega:i<ps.length)];rw[za7 (by omega:i<ps.length)] at ig;rw[zao ig]
  rw[ed,zam] at h;have d8:(storedH xs p.1 p.2.1 p.2.2).length<=i+1:=by
   unfold storedH;split
   ·rw[za2];omega
   ·rw[zai,zbk];omega
  have q:=ih (i+1) (storedH xs p.1 p.2.1 p.2.2) {s with heap:=h3,toks:=s.toks+(tupleKind knd).draws p.1} (by omega) (by omega) d8 ij ii (λ b o h1 h2 e=>(kt.2 b h1).trans (jh b o h1 h2 e)) h;exact q
def OD {K:Type}[DecidableEq K]{knd:KeyKind prog w K}{Q:Value->Shared->Prop}{l:Addr}{items:Array Value}{n:Nat}{sl:Array (Option Value)}(ps:List (List K×Addr×Value))(hh:A.handled=none)(f8:A.units+2<cLine)
 (kr:ps.length=items.size) (hsz:items.size+1<=sizeLine) (hl:s.heap.get? l=some {cls:=.type "list",data:=.seq items n,slots:=sl})
 (hp:∀(j:Nat) p,ps[j]?=some p->(tupleKind knd).is s.heap p.1 p.2.1/\∃t,items[j]?=some (.ref t)/\IsTup s.heap t #[.ref p.2.1,p.2.2])
 (h:∀h' tk,h'.DictOfH (tupleKind knd) s.heap.objs.size (ps.foldl (λ acc p=>storedH acc p.1 p.2.1 p.2.2) [])->(∀b o,s.heap.get? b=some o->h'.get? b=some o)->Q (.ref s.heap.objs.size) {s with heap:=h',toks:=tk}):
 wpAny (model prog w) A (call (.type "dict") [.ref l]) Q E s:=by
 refine callType_codes (Q₁:=λ obj s₁=>obj=.ref s.heap.objs.size/\s₁={s with heap:=s.heap.push {cls:=.type "dict",data:=.dict #[]} }) PySem.F.kt_called_dict (PySem.F.kt_typeCall_dict_1 _) PySem.F.entry_dict_init
  (kt_code_dict_new _ ⟨rfl,rfl⟩) λ obj s₁ h₁=>?_
 obtain⟨rfl,rfl⟩:=h₁;have hS:(s.heap.push {cls:=.type "dict",data:=.dict #[]}).get? s.heap.objs.size=some {cls:=.type "dict",data:=.dict #[]}:=zap _ rfl;have ll:l<s.heap.objs.size:=zaj hl;have cf:(s.heap.push {cls:=.type "dict",data:=.dict #[]}).get? l=some {cls:=.type "list",data:=.seq items n,slots:=sl}:=zaa _ hl;refine⟨⟨_,hS,rfl⟩,PySem.F.args_dict_init_2 _ _,?_⟩;have TD:Looks (model prog w) (s.heap.push {cls:=.type "dict",data:=.dict #[]}) (typeOf (.ref s.heap.objs.size)) (.type "dict"):=(Looks.ld hS).andThen .now;have TL:Looks (model prog w) (s.heap.push {cls:=.type "dict",data:=.dict #[]}) (typeOf (.ref l)) (.type "list"):=(Looks.ld cf).andThen .now;unfold Builtin.«dict.__init__» Dict.selfAndRest Dict.notOrdered;dsimp only;rw[if_pos (by decide)];refine wpAny_bind (wpAny_bind (wpAny_bind (TD.at ?_)));rw[if_neg (by decide)];refine wpAny_pure ?_;unfold Dict.addrOf;refine wpAny_bind (wpAny_pure (wpAny_pure ?_));unfold Dict.updateCommon Dict.updateFrom;dsimp only;refine wpAny_bind (TL.at ?_);rw[if_pos (by decide)];refine wpAny_bind (O1 (A:=A.in1.in1) hh cf λ h2 xL ik=>?_);rw[if_pos (show (none:Option Value).isNone=true from rfl)];refine wpAny_bind (wpAny_rule ?_);have al:h2.IsList l items:=⟨_,ik _ _ cf,rfl,n,rfl⟩;have ku:=ik _ _ hS;refine wpAny_bind (wpAny_pyIter_list al ?_);refine wpAny_pure ⟨plainId_quiet D9 _,?_⟩;have lz:s.heap.objs.size<h2.objs.size:=zaj ku;have sw:∀b o,s.heap.get? b=some o->(h2.push {cls:=.type "list_iterator",data:=.fields #[.ref l,.int 0 0]}).get? b=some o:=λ b o e=>zaa _ (ik _ _ (zaa _ e));have ii:(h2.push {cls:=.type "list_iterator",data:=.fields #[.ref l,.int 0 0]}).DictOfH (tupleKind knd) s.heap.objs.size []:=
  ⟨_,#[],0,zaa _ ku,⟨rfl,rfl,rfl⟩,rfl,rfl,λ x hx=>absurd hx List.not_mem_nil,zbn⟩
 have af:∀b o,s.heap.get? b=some o->b≠s.heap.objs.size/\b≠h2.objs.size:=λ b o e=>by
  have:=zaj e;exact⟨zar this,zar (Nat.lt_trans this lz)⟩
 refine Y5 (A:=A.in1) (knd:=knd) (l:=l) (h0:=s.heap) ps hh f8 (zar (Nat.lt_trans ll lz)) (zar lz) (zar ll) kr hsz ⟨_,hl,rfl,n,rfl⟩ (λ j p hj=>?_) items.size 0 [] _ (by omega) (by omega) (by simp) ⟨_,zap _ rfl,rfl,rfl⟩ ii (λ b o h1 gz e=>sw b o e) λ h' tk aZ sx=>?_
 ·obtain⟨q1,t,q2,q3⟩:=hp j p hj;obtain⟨o1,_,_,e1,_⟩:=id q1;obtain⟨o2,e2,_⟩:=id q3;exact⟨⟨(af _ _ e1).1,(af _ _ e1).2,q1⟩,t,q2,(af _ _ e2).1,(af _ _ e2).2,q3⟩
 ·exact⟨rfl,h h' tk aZ λ b o e=>sx b o (af _ _ e).1 (af _ _ e).2 e⟩
end
structure cY where
 (t:Addr) (κ:List Key) (b:Addr) (v:V)
abbrev pQ (H:Hp)(p:cY):Prop:=H p.t=some (.tup [.ref p.b,p.v])/\H p.b=some (.tup (p.κ.map kV))
abbrev mkK (ps:List cY):List (List Key×V):=ps.foldl (λ acc p=>putK acc p.κ p.v) []
abbrev tDP (X:Cx)(te:TE):TE:=λ σ H Q=>te σ H λ x H1=>∃(l:Addr) (ps:List cY),x=.ref l/\DU X.K H1 l (ps.map λ p=>V.ref p.t)/\(∀p∈ps,pQ H1 p)/\ps.length<=1000/\∀r,H1 r=none->Q (.ref r) (upd H1 r (.dT (mkK ps)))
def Wd:∀ {ps:List cY}{us:List Value},Vals (ps.map λ p=>V.ref p.t) us->us=ps.map λ p=>zb8 p.t
 |[],_,.nil=>rfl
 |p::ps,_,.cons h t=>by
  cases h;rw[za6,<-Wd t]
def sC {H:Hp}:∀ {ps:List cY}{qs:List (List Key×Addr×Value)}{kvs:List (List Key×V)}{xs:List (List Key×Addr×Value)},(∀p∈ps,pQ H p)->Paired (λ(p:cY) (q:List Key×Addr×Value)=>p.κ=q.1/\p.b=q.2.1/\RelV p.v q.2.2) ps qs->KT H kvs xs->KT H (ps.foldl (λ acc p=>putK acc p.κ p.v) kvs) (qs.foldl (λ acc p=>storedH acc p.1 p.2.1 p.2.2) xs)
 |[],_,_,_,_,.nil,h=>h
 |p::ps,_,_,_,ho,.cons (b:=q) hq t,h=>by
  obtain⟨q1,q2,q3⟩:=q;obtain⟨e1,e2,e3⟩:=hq;dsimp only at e1 e2 e3;subst e1 e2;have r:=sC (ps:=ps) (λ p' hp=>ho p' (za4 _ hp)) t (h.put p.κ (ho p za3).2 e3);exact r
def jR:∀(ps:List cY) (kvs:List (List Key×V)),(ps.foldl (λ acc p=>putK acc p.κ p.v) kvs).length<=kvs.length+ps.length
 |[],kvs=>zag _
 |p::ps,kvs=>by
  have h1:=jR ps (putK kvs p.κ p.v);have h2:=E5 kvs p.κ p.v;rw[zam,za8];omega
def Zv (ok:HE P w H h):∀ {ps:List cY},(∀p∈ps,pQ H p)->∃qs:List (List Key×Addr×Value),Paired (λ(p:cY) (q:List Key×Addr×Value)=>p.κ=q.1/\p.b=q.2.1/\RelV p.v q.2.2) ps qs/\
 ∀(j:Nat) q,qs[j]?=some q->(tupleKind (AN P w)).is h q.1 q.2.1/\∃t,(ps.map λ p=>zb8 p.t)[j]?=some (.ref t)/\IsTup h t #[.ref q.2.1,q.2.2]
 |[],_=>⟨[],.nil,λ j q e=>by simp at e⟩
 |p::ps,ho=>by
  obtain⟨qs,h1,h2⟩:=Zv ok λ p hp=>ho p (za4 _ hp);obtain⟨o1,o2⟩:=ho p za3;obtain⟨_,aa,r,it⟩:=(show Bo P w H h p.t (.tup [.ref p.b,p.v]) from ok p.t _ o1);obtain⟨u,v,rfl,ru,rv⟩:=r.two;cases ru;refine⟨(p.κ,p.b,v)::qs,.cons ⟨rfl,rfl,rv⟩ h1,λ j q e=>?_⟩;cases j with
  |zero =>
   rw[zbz] at e;cases e;exact⟨Im ok o2,p.t,by simp,it⟩
  |succ j =>
   rw[zaz] at e;obtain⟨a1,t,a2,a3⟩:=h2 j q e;exact⟨a1,t,by simpa using a2,a3⟩
section
variable {c:Bool}{P:Addr->Prop}{H:Hp}{a b:Expr}{f g:Ah->M D}{te:TE}
def jS (hc:X.calm=true)(hu:X.A.units+n<cLine)(hg:Gl X "dict")(hm:X.mg "dict" = none)(he:PE X e te)(hv:bootBuiltins "dict" = some (.type "dict"):=by decide +kernel)(hs: ~~~(starEach [e] X.env=[(false,eval e X.env)]))(hn:2<=n:=by decide):
 PE X (.Call (.Name "dict" p) [e] [] pos) (tDP X te):=by
 intro pins s σ H Q I h;refine wpAny_Call_Name_kw (Ei I hg hm hv ?_);refine zbl ?_ hs;rw[hs];refine zc3 (B9 (he pins s σ H _ I h) λ u s1 zz=>?_);obtain⟨x,H1,I1,r1,q1⟩:=zz;obtain⟨l,ps,rfl,hq,ho,hlen,q⟩:=q1;cases r1;refine zcg ?_;obtain⟨aa,r',pl,hz⟩:=I1.list hq;have hits:=Wd r';subst hits;obtain⟨⟨sy,lb,lc,il⟩,n0,o1,o2,o3,o4⟩:=pl;dsimp only at o2 o3 o4;subst o2 o3 o4;obtain⟨qs,h1,h2⟩:=Zv I1.Aw ho;refine OD (knd:=AN X.prog X.w) qs (I1.ok.hd hc) (by omega) (by rw[zab,za2,<-h1.length]) (AF (by rw[zab,za2];omega)) o1 (λ j p hj=>?_) λ h' tk hd kp=>?_
 ·obtain⟨a1,t,a2,a3⟩:=h2 j p hj;exact⟨a1,t,by rw[List.getElem?_toArray];exact a2,a3⟩
 ·have sB:=sC ho h1 (show KT H1 [] [] from .nil);have f7:s1.heap.objs.size<=s1.heap.objs.size:=zag _;have b5:=I1.Aw.fresh f7;have og:=jR ps [];obtain⟨o,es,ep,g1,g2,g3,g4,g5,g6⟩:=hd;refine⟨.ref _,_,I1.laid (t':=tk) (o:=.dT (mkK ps)) kp f7 ⟨zbq (AF (by unfold mkK;simp at og;omega)),beq_eq_false_iff_ne.mpr (zbm (zar I1.big)),_,sB.keeps (λ b ys eb=>by rw[Ai (λ z=>by rw[z,b5] at eb;cases eb)];exact eb),o,es,ep,g1,g2,g3,g4,g6⟩,rfl,q _ b5⟩
abbrev UE:List D->Option (List (D×D))
 |[]=>some []
 | .tup [k,v]::r=>(UE r).map ((k,v)::·)
 |_=>none
abbrev pR (l:List (D×D)):List D×List D:=l.foldl (λ z kv=>putD z.1 z.2 kv.1 kv.2) ([],[])
abbrev pS (d:D):M OT:=match d with
 | .lst xs=>(match UE xs with|some l=>if l.length<=1000/\(l.all λ kv=>keyOk true kv.1)=true then .ok (.BE true (pR l).1 ((pR l).2.map .sh)) else .bad|none=>.bad)
 |_=>.bad
def Zw {K:za1}{H:Hp}{P:Addr->Prop}:∀ {xs:List V}{ds:List D}{l:List (D×D)},Ak K (del H P) xs ds->UE ds=some l->(l.all λ kv=>keyOk true kv.1)=true->
 ∃ps:List cY,xs=ps.map (λ p=>V.ref p.t)/\(∀p∈ps,pQ H p)/\Paired (λ(p:cY) (kv:D×D)=>kv.1=.tup (p.κ.map Cz)/\BQ K (del H P) p.v kv.2) ps l
 |_,[],l,.nil,e,_=>by cases e;exact⟨[],rfl,λ p hp=>(by cases hp),.nil⟩
 |_,d::ds,l,.cons hd ht,e,hk=>by
  unfold UE at e;split at e
  ·rename_i cz;cases cz
  ·rename_i k v r cz;cases cz;obtain⟨l',e1,e2⟩:=zcr.mp e;subst e2;rw[List.all_cons,zb6] at hk;obtain⟨ps,q1,q2,q3⟩:=Zw ht e1 hk.2;have hK:=E7 hk.1;cases hK with
   |t κ =>
    cases hd with
    |tup h1 h2 =>
     obtain⟨x,y,rfl,hx,hy⟩:=h2.two;cases hx with
     |tup g1 g2 =>
      rename_i tt bb fm;have ey:=Ak.keys κ g2;subst ey;refine⟨⟨tt,κ,bb,y⟩::ps,by rw[za6,q1],λ p hp=>?_,.cons ⟨rfl,hy⟩ q3⟩;rcases zac.mp hp with rfl|hp
      ·exact⟨(Al h1).2,(Al g1).2⟩
      ·exact q2 p hp
  ·cases e
def jT {K:za1}{H:Hp}{P:Addr->Prop}:∀ {ps:List cY}{l:List (D×D)}{kvs:List (List Key×V)}{vs:List D},Paired (λ(p:cY) (kv:D×D)=>kv.1=.tup (p.κ.map Cz)/\BQ K (del H P) p.v kv.2) ps l->Ak K (del H P) (kvs.map zbs) vs->
 ∃aE,l.foldl (λ z kv=>putD z.1 z.2 kv.1 kv.2) (kvs.map (λ kv=>D.tup (kv.1.map Cz)),vs)=((ps.foldl (λ acc p=>putK acc p.κ p.v) kvs).map (λ kv=>D.tup (kv.1.map Cz)),aE)/\Ak K (del H P) ((ps.foldl (λ acc p=>putK acc p.κ p.v) kvs).map zbs) aE
 |[],_,kvs,vs,.nil,h=>⟨vs,rfl,h⟩
 |p::ps,_,kvs,vs,.cons (b:=kv) hq t,h=>by
  obtain⟨k,d⟩:=kv;obtain⟨e1,e2⟩:=hq;dsimp only at e1 e2;subst e1;have hf:∀a b:List Key,Bw (.tup (a.map Cz)) (.tup (b.map Cz))=decide (a=b):=λ a b=>by simp only[Bw];exact Pg a b
  have aV:∃aE,(putD (kvs.map λ kv=>.tup (kv.1.map Cz)) vs (.tup (p.κ.map Cz)) d)=((putK kvs p.κ p.v).map (λ kv=>.tup (kv.1.map Cz)),aE)/\Ak K (del H P) ((putK kvs p.κ p.v).map zbs) aE:=by
   unfold putD putK;rw[Lz (fk:=λ κ:List Key=>D.tup (κ.map Cz)) hf];by_cases hh:(kvs.any λ kv=>decide (kv.1=p.κ))=true
   ·rw[if_pos hh,if_pos hh];refine⟨_,by rw[IF (fk:=λ κ:List Key=>D.tup (κ.map Cz)) hf],?_⟩;rw[<-IE (fk:=λ κ:List Key=>D.tup (κ.map Cz)) hf];exact IG e2 h
   ·rw[if_neg hh,if_neg hh];refine⟨_,by rw[zat];rfl,?_⟩;rw[zat];exact h.snoc e2
  obtain⟨ya,g1,g2⟩:=aV;obtain⟨sK,g3,g4⟩:=jT t g2;refine⟨sK,?_,g4⟩;rw[zam];dsimp only;rw[g1];exact g3
def We (hc:X.calm=true)(hu:X.A.units+n<cLine)(hg:Gl X "dict")(hm:X.mg "dict" = none)(he:DE X WX true e f)(hv:bootBuiltins "dict" = some (.type "dict"):=by decide +kernel)(hs: ~~~(starEach [e] X.env=[(false,eval e X.env)]))(hn:2<=n:=by decide):
 DN X WX (.Call (.Name "dict" p) [e] [] pos) (λ ρ=>(f ρ).bind pS):=by
 obtain⟨te,e1,e2⟩:=he;refine⟨_,jS hc hu hg hm e1 hv hs hn,λ P0 P σ H Q ρ E h=>?_⟩;refine e2 P0 P σ H _ ρ E ?_;dsimp only at h;refine bV h λ d h=>?_;intro v H1 s1 hv;unfold pS at h;split at h
 ·rename_i xs;split at h
  ·rename_i l eb;split at h
   ·rename_i hl;cases hv with
    |lst hs hh =>
     obtain⟨ps,q1,q2,q3⟩:=Zw hh eb hl.2;subst q1;obtain⟨aE,g1,g2⟩:=jT (kvs:=[]) q3 .nil;refine⟨_,ps,rfl,hs.Be,q2,by rw[q3.length];exact hl.1,λ r hr=>?_⟩;have e3:pR l=((mkK ps).map (λ kv=>D.tup (kv.1.map Cz)),aE):=g1;rw[e3] at h;have aS:∀a∈[r],H1 a=none:=λ a ha=>by rw[za9.mp ha];exact hr
     exact h _ [r] _ (s1.trans (AL hr _)) (λ a ha=>Dw s1 (aS a ha)) (by simp) (.dT An (g2.mono (Cr (AL hr _) aS)).ows)
   ·exact h.elim
  ·exact h.elim
 ·exact h.elim
end
open PySem PySem.Spec PyProof.Rows
section
variable {c:Bool}{P:Addr->Prop}{H:Hp}{a b:Expr}{f g:Ah->M D}{te:TE}
abbrev jU (x y:D):M D:=match x,y with
 | .tup xs,.tup ys=>(match Dh xs,Dh ys with|some ns,some ms=>.ok (.bl (HT.lexLt ns ms))|_,_=>.bad)
 |_,_=>.bad
def Zx:Z4 X.K WX (zK X.K) jU:=by
 intro P H x y v w Q ht hx hy h;unfold jU at h;split at h
 ·rename_i xs ys;split at h
  ·rename_i ns ms e1 e2;have:=Gj e1;subst this;have:=Gj e2;subst this;cases hx with
   |tup h1 h2 =>
    cases hy with
    |tup h3 h4 =>
     have:=F2 h2;subst this;have:=F2 h4;subst this;exact⟨_,_,ns,ms,rfl,rfl,FE.of (Al h1).2,FE.of (Al h3).2,h _ H (Aj.refl H) (.bl _)⟩
  ·exact h.elim
 ·exact h.elim
def ab2 (hu:X.A.units+n<cLine)(ha:DE X WX c a f)(hb:DE X WX c b g):DE X WX c (.Compare a [.Lt] [b] pos) (λ ρ=>(f ρ).bind λ x=>(g ρ).bind λ y=>jU x y):=XM (gF (by omega)) Zx ha hb (Ik _)
def wB (hu:X.A.units+n<cLine)(ha:DE X WX c a f)(hb:DE X WX c b g):DT X WX (.Compare a [.Lt] [b] pos) (λ ρ=>((f ρ).bind λ x=>(g ρ).bind λ y=>jU x y).bind Sn):=GV (gF (by omega)) Zx ha hb (Ik _)
def jV (hk:DE X WX true a f)(hv:DE X WX true b g):DN X WX (.Dict [some a] [b] pos) (λ ρ=>(f ρ).bind λ k=>(g ρ).bind λ v=>if keyOk false k=true then .ok (.BE false [k] [.sh v]) else .bad):=by
 obtain⟨tk,k1,k2⟩:=hk;obtain⟨tv,v1,v2⟩:=hv;refine⟨_,nL (gU k1 v1 nK) rfl rfl (by simp) (by simp),λ P0 P σ H Q ρ E h p hp=>?_⟩;dsimp only at h;have hn:∀a∈[p],H a=none:=λ a ha=>by rw[za9.mp ha];exact hp
 have s0:Aj H (upd H p (.dK [])):=AL hp _;have E1:Am X.K P0 (PU P [p]) (upd H p (.dK [])) σ ρ:=E.more s0 Nn (λ a ha=>ha.elim (λ z=>(E.Cb a z).same s0) λ z=>by
  rw[za9.mp z];exact⟨_,An,λ _=>⟨λ z=>(by cases z),λ _ z=>by cases z⟩⟩) (Cr s0 hn)
 refine k2 P0 (PU P [p]) σ _ _ ρ E1 ?_;cases q:f ρ with
 |bad=>rw[q] at h;exact h
 |ex x=>rw[q] at h;exact λ H' s=>h H' (s0.trans s)
 |ok k =>
  rw[q] at h;simp only[M.A8] at h;intro y H2 s2 hy;have E2:=E1.same s2;refine v2 P0 (PU P [p]) σ H2 _ ρ E2 ?_;cases q2:g ρ with
  |bad=>rw[q2] at h;exact h
  |ex x=>rw[q2] at h;exact λ H' s=>h H' ((s0.trans s2).trans s)
  |ok d =>
   rw[q2] at h;simp only[M.A8] at h;intro w H3 s3 hw;by_cases hc:keyOk false k=true
   ·rw[if_pos hc] at h;have hK:=E7 hc;cases hK with
    |k κ =>
     have ey:=hy.oK;subst ey;refine⟨s3 _ _ (s2 _ _ An),[(κ,w)],rfl,by simp,?_⟩;have s4:Aj H (upd H3 p (.dK (Io [] [(κ,w)]))):=λ a o ha=>by
      rw[Ai (λ z=>by rw[z,hp] at ha;cases ha)];exact s3 _ _ (s2 _ _ (s0 _ _ ha))
     have s5:Aj (del H3 (PU P [p])) (del (upd H3 p (.dK (Io [] [(κ,w)]))) (PU P [p])):=λ a o ha=>by
      obtain⟨n1,n2⟩:=Al ha;rw[AG n1,Ai (λ z=>n1 (.inr (by rw[z];exact za9.mpr rfl)))];exact n2
     refine h _ [p] _ s4 hn (by simp) ?_;have e1:Io [] [(κ,w)]=[(κ,w)]:=rfl;rw[e1] at s5 ⊢;exact .dK (kvs:=[(κ,w)]) An (.cons (.sh (hw.mono s5)) .nil)
   ·rw[if_neg hc] at h;exact h.elim
abbrev To (x:D)(m:M D):M D:=match x with
 | .BE b ks vs=>m.bind λ y=>if keyOk b y=true then .ok ((F5 ks vs y).getD .Av) else .bad
 |_=>.bad
def Zy {K}(h:BQ K (del H P) v (.BE bb ks vs)):∃a,v=.ref a/\IsD H a:=by
 cases h with
 |Vf h1 h2=>exact⟨_,rfl,.inl ⟨_,h1.Be⟩⟩
 |VN h1 h2=>exact⟨_,rfl,.inr ⟨_,h1.Be⟩⟩
def QF (hu:X.A.units+n<cLine)(ha:DE X WX c o f)(hb:DE X WX c k g)(m:M1 X o "get" apos k ac:=by exact⟨rfl,rfl,rfl,rfl⟩)(hn:1<=n:=by decide):
 DE X WX c (.Call (.Attribute o "get" apos) [k] [] ac) (λ ρ=>(f ρ).bind λ x=>To x (g ρ)):=by
 obtain⟨ta,a1,a2⟩:=ha;obtain⟨tb,b1,b2⟩:=hb;refine⟨_,gY (by omega) a1 b1 m,λ P0 P σ H Q ρ E h=>?_⟩;dsimp only at h;refine a2 P0 P σ H _ ρ E ?_;refine bV h λ x h=>?_;intro v H1 s1 hv;unfold To at h;split at h
 ·rename_i bb ks vs;obtain⟨a,rfl,hD⟩:=Zy hv;refine⟨a,rfl,hD,b2 P0 P σ H1 _ ρ (E.same s1) ?_⟩;cases e2:g ρ with
  |bad=>rw[e2] at h;exact h
  |ex y=>rw[e2] at h;exact gV.same (m:=.ex y) h s1
  |ok y =>
   rw[e2] at h;simp only[M.A8] at h;intro w H2 s2 hw;by_cases hk:keyOk bb y=true
   ·rw[if_pos hk] at h;obtain⟨a',xs,ea,g',hl,aS⟩:=Ph (hv.mono s2.del) hw (E7 hk);cases ea;refine⟨_,g',?_⟩;refine gV.same (gV.same h s1) s2 _ H2 (Aj.refl _) ?_;cases eg:F5 ks vs y with
    |none =>
     have:F5 ks xs y=none:=by
      cases tf:F5 ks xs y with
      |none=>rfl
      |some z =>
       have h1:=ES (xs:=xs) (y:=y) aS;have h2:=ES (ks:=ks) (xs:=vs) (y:=y) (by rw[<-hl.length,aS]);rw[h1,tf,eg] at h2;cases h2
     rw[this];exact .Av
    |some d =>
     obtain⟨x,e3,e4⟩:=LB hl eg;rw[e3];exact e4
   ·rw[if_neg hk] at h;exact h.elim
 ·exact h.elim
end
abbrev Itv (K:za1)(a:Addr)(n:Nat):It:=
 ⟨λ i H=>∃xs x,DU K H a xs/\xs.length=n/\i<n/\xs[n-1-i]?=some x,λ i H x H'=>H'=H/\∀xs,DU K H a xs->xs[n-1-i]?=some x,λ i H=>∃xs,DU K H a xs/\xs.length=n/\n<=i⟩
def jW {h:Heap}(h1:h.IsRevIter it a i)(h2:h.IsList a xs):a≠it:=λ z=>by
 subst z;obtain⟨o,e1,e2,_⟩:=h1;obtain⟨o2,e3,e4,_⟩:=h2;rw[e1] at e3;cases e3;rw[e2] at e4;exact absurd (Value.type.inj e4) (by decide)
def jX {K}(a it:Addr)(n:Nat):Turn P w K tg (Itv K a n) [it] it (λ i h=>i<=n/\h.IsRevIter it a ((n:Int)-1-i)) where
 mem:=by simp
 obj:=λ i h st b hb=>by
  have e:b=it:=by simpa using hb
  subst e;obtain⟨_,o,e,c,d⟩:=st;exact⟨o,e,λ v z=>by rw[d] at z;cases z⟩
 keep:=λ i h h' st k=>⟨st.1,st.2.at λ o e=>k it (by simp) o e⟩
 item:=by
  intro X hP hw hK hc i pins s σ H E I hf st hg;subst hP hw hK;obtain⟨xs,x,hq,tj,br,hx⟩:=hg;obtain⟨aa,rv,p,hz⟩:=I.list hq;obtain⟨u,hu,ru⟩:=rv.get hx;obtain⟨f0,f1,f2,f3,f4,f5⟩:=hf it (by simp);have hl:=rv.length;have tu:aa.toArray.size=n:=by rw[zab,<-hl,tj]
  have W:=Walks.listRev (prog:=X.prog) (w:=X.w) (A:=X.A) (I.ok.hd hc) it a (jW st.2 p.isList) aa.toArray;rw[tu] at W;refine W.item i s _ _ br ⟨st.1,st.2,p.isList⟩ λ v h' tk hv bc kp=>?_;have ev:v=u:=by
   rw[List.getElem?_toArray,hu] at hv;exact (zao hv).symm
  subst ev;have I1:Inv X pins σ H {s with heap:=h',toks:=tk}:=I.turned (t':=tk) (λ b o hb e=>kp b o (by simpa using hb) e) f0 f1 f3 f4 f5;obtain⟨o,e,c,d⟩:=id bc.2.1;exact⟨v,rfl,Vs (s:={s with heap:=h',toks:=tk}) e c d (by decide) ⟨x,H,I1,ru,⟨rfl,λ ys hy=>by rw[I.Ii hy hq];exact hx⟩,⟨bc.1,bc.2.1⟩,λ b hb=>(hf b hb).1⟩⟩
 done:=by
  intro X hP hw hK hc i pins s σ H E I hf st hg;subst hP hw hK;obtain⟨xs,hq,tj,br⟩:=hg;obtain⟨aa,rv,p,hz⟩:=I.list hq;obtain⟨f0,f1,f2,f3,f4,f5⟩:=hf it (by simp);have hl:=rv.length;have tu:aa.toArray.size=n:=by rw[zab,<-hl,tj]
  have W:=Walks.listRev (prog:=X.prog) (w:=X.w) (A:=X.A) (I.ok.hd hc) it a (jW st.2 p.isList) aa.toArray;rw[tu] at W;have tw:i=n:=Nat.le_antisymm st.1 br;subst tw;exact W.done s _ _ ⟨st.1,st.2,p.isList⟩ λ h' tk kp=>⟨rfl,I.turned (t':=tk) (λ b o hb e=>kp b o (by simpa using hb) e) f0 f1 f3 f4 f5⟩
 self:=λ _ _ _ _ _ st h=>wpAny_pyIter_revIter st.2 h
section
variable {a:Expr}{f:Ah->M D}{p:Pos}{te:TE}
abbrev ab3 (K:za1)(ta:TA):TI:=λ σ H R=>ta σ H λ vs H1=>∃a xs,vs=[.ref a]/\DU K H1 a xs/\R (Itv K a xs.length) H1
def wC (hg:Gl X "reversed")(hm:X.mg "reversed" = none)(ha:PA X [a] ta)(hb:bootBuiltins "reversed" = some (.type "reversed"):=by decide +kernel)(hs: ~~~(starEach [a] X.env=[(false,eval a X.env)])):
 PI X tg (.Call (.Name "reversed" p) [a] [] pos) (ab3 X.K ta):=by
 intro pins s σ H R I h;refine Call_ (Ei I hg hm hb (zbl (B9 (ha pos pins s σ H _ I h) λ us s1 zz=>?_) hs rfl));obtain⟨vs,H1,I1,r1,q1⟩:=zz;obtain⟨j,xs,e,hq,q⟩:=q1;subst e;cases r1 with
 |cons r rr =>
  cases rr;cases r;obtain⟨aa,rv,p,hz⟩:=I1.list hq;have hl:=rv.length;refine call_reversed_list p.isList ?_;have hit:(s1.heap.push (revObj j ((aa.toArray.size:Int)-1))).IsRevIter s1.heap.objs.size j ((xs.length:Int)-1-(0:Nat)):=by
   rw[zab,<-hl];exact⟨_,zap _ rfl,rfl,by simp[revObj]⟩
  refine wpAny_pyIter_revIter (s:={s1 with heap:=s1.heap.push (revObj j ((aa.toArray.size:Int)-1))}) hit ?_;refine⟨s1.heap.objs.size,[s1.heap.objs.size],_,_,H1,rfl,I1.kept (t':=s1.toks) λ b o e=>zaa _ e,jX j _ xs.length,⟨zbb _,hit⟩,λ b hb=>?_,q⟩;have e:b=s1.heap.objs.size:=by simpa using hb
  subst e;exact I1.Xp (zag _) (I1.Aw.fresh (zag _))
def wD (hg:Gl X "reversed")(hm:X.mg "reversed" = none)(ha:DE X WX true a f)(hb:bootBuiltins "reversed" = some (.type "reversed"):=by decide +kernel)(hs: ~~~(starEach [a] X.env=[(false,eval a X.env)])):
 DI X WX tg (.Call (.Name "reversed" p) [a] [] pos) (λ ρ=>(f ρ).bind λ d=>match d with | .lst ds=>.ok ds.reverse|_=>.bad):=by
 obtain⟨ta,a1,a2⟩:=ha;refine⟨_,wC hg hm (Ba a1 Ci hs) hb hs,λ P0 P σ H R ρ E h=>?_⟩;dsimp only at h;refine a2 P0 P σ H _ ρ E ?_;cases q:f ρ with
 |bad|ex x=>rw[q] at h;exact h
 |ok d =>
  rw[q] at h;cases d with
  |lst ds =>
   intro v H1 s1 hv;cases hv with
   | @lst a xs _ hs hl =>
    have hlen:=hl.length;refine⟨a,xs,rfl,hs.Be,h _ H1 s1 ⟨λ i P' H' s hi=>?_,λ i P' H' s hi=>?_,λ i P' H' v d0 d s ht hd y=>?_⟩⟩
    ·rw[zbr] at hi;obtain⟨x,hx,_⟩:=hl.get (za7 (show xs.length-1-i<ds.length by omega));exact⟨xs,x,(s.seq hs).Be,rfl,by omega,hx⟩
    ·rw[zbr] at hi;exact⟨xs,(s.seq hs).Be,rfl,by omega⟩
    ·obtain⟨rfl,y⟩:=y;have af:=(zaf.mp hd).1;rw[zbr] at af;rw[List.getElem?_reverse af] at hd;obtain⟨x,hx,aZ⟩:=hl.get hd;have e:=y xs (s.seq hs).Be;rw[hlen,hx] at e;cases e;exact⟨Aj.refl _,aZ.mono s⟩
  |_=>exact h.elim
end
structure jY (K:za1)(x qual:Str)(st:Stmt)(f:Addr)(fd:FuncData):Prop where
 ex:∃(oc:Value) (od:Option Addr) (dV kV doc pm:Value) (an:Option Addr) (AZ ct:Value) (Vw:Array (Option Value)),
  fd=zb7 x qual (B5 st) (AE st) (A3 st) dV kV doc pm an AZ ct/\K.lookup f=some ⟨oc,od,.func fd,Vw⟩/\zc6 K AZ qual=true
 kp:zbe K (.ref f)=true
section
variable {P:Program}{w:World}{K:za1}
def pT {st}(F:jY K x qual st f fd)(S:Ab N ps (A3 st))(g:Ah->M Out)(hb:∀(AZ:Value) (A:Around) (outer:List Env) (s:Shared) (H:Hp) (E:XK),Br k (A.deeper (envOfC qual (A3 st) s.heap.objs.size f AZ))->Vg (mC P w K mg base N qual (A3 st) f AZ A outer s H E) (CQ K E) (AE st) g):
 CL P w K mg base (S6 P w base) (k+1) f fd ps (Tg K ps.length λ t ar=>F6 (g (D8 N t ar))):=by
 obtain⟨oc,od,dV,kV,doc,pm,an,AZ,ct,Vw,rfl,lk,aQ⟩:=F.ex;refine Vv lk aQ S (λ vs H Q E h=>h.1) λ A outer s H vs Q E hr h=>?_;obtain⟨hl,P',p,t,fp,rest,ar,rfl,ht,hp,nd,ho,hv,hq⟩:=h;obtain⟨tt,h1,h2⟩:=hb AZ A outer s H E hr;refine⟨tt,h1,h2 ⟨λ a=>P' a/\a∉fp,λ _=>p⟩ P' _ H _ _ (LF ht hp nd ho hv) ?_⟩;dsimp only at hq;revert hq;cases g (D8 N t ar) with
 |bad|ex x=>exact λ h=>h.elim
 |ok o =>
  have sub:∀ {P2:Addr->Prop} {H2:Hp} {σ2:St} {ρ:Ah},Am K ⟨λ a=>P' a/\a∉fp,λ _=>p⟩ P2 H2 σ2 ρ->∀a,P2 a/\¬ (P' a/\a∉fp)->P2 a/\(P' a->a∈fp):=λ E a ha=>⟨ha.1,λ z=>zd1 λ w=>ha.2 ⟨z,w⟩⟩;cases o with
  |ret d|CC d=>exact λ h=>h.elim
  |next ρ =>
   intro hq σ' H' P2 t2 E2;unfold F6 at hq;dsimp only at hq;split at hq
   ·rename_i t' e;obtain⟨c,ah,k1,k2,k3,k4,k5,k6⟩:=Pk E2 e;exact hq .Av H' P2 ah [] (λ a ha hn=>⟨E2.sub a ⟨ha,hn⟩,t2.2 a ⟨ha,hn⟩⟩) E2.Cb t2.1 k4 k5 (.sh .Av) zbn (λ a ha=>by cases ha) (λ a ha=>sub E2 a (k6 a ha)) (λ a ha=>by cases ha)
   ·exact hq.elim
  |FX r ρ =>
   intro hq v fr σ' H' P2 t2 E2 o2 aO hf;unfold F6 at hq;dsimp only at hq;split at hq
   ·rename_i t' e;obtain⟨c,ah,k1,k2,k3,k4,k5,k6⟩:=Pk E2 e;exact hq v H' P2 ah fr (λ a ha hn=>⟨E2.sub a ⟨ha,hn⟩,t2.2 a ⟨ha,hn⟩⟩) E2.Cb t2.1 k4 k5 o2 aO (λ a ha=>(hf a ha).2.2 0 c _ ah k1 k2 k3) (λ a ha=>sub E2 a (k6 a ha)) (λ a ha=>sub E2 a ⟨(hf a ha).1,(hf a ha).2.1⟩)
   ·exact hq.elim
  |brk ρ|cont ρ=>exact λ h=>h.elim
end
def UG {K}{st}{kV}(l:K.lookup f=some ⟨oc,od,.func (zb7 x qual (B5 st) (AE st) (A3 st) dV kV doc pm an AZ ct),Vw⟩)(c:zc6 K AZ qual=true)(k:zbe K (.ref f)=true):jY K x qual st f (zb7 x qual (B5 st) (AE st) (A3 st) dV kV doc pm an AZ ct):=⟨⟨oc,od,dV,kV,doc,pm,an,AZ,ct,Vw,rfl,l,c⟩,k⟩
structure QG (P:Program)(w:World)(K:za1)(mg:Str->Option Value)(base:Heap)(x:Str)(k n:Nat)(F:OT->List D->M (OT×OT)):Prop where
 ex:∃C fa fd ps,vZ K mg x C/\Mk K C fa/\CL P w K mg base (S6 P w base) k fa fd ps (Tg K n F)/\Binds K fd ps []/\Binds K fd ps [.none]
def QG.ini {K}(G:QG P w K mg base x k n F):aay P w K mg base x k n F:=by
 obtain⟨C,fa,fd,ps,h1,h2,h3,h4,_⟩:=G.ex;exact⟨⟨C,fa,fd,ps,h1,h2,h3,h4⟩⟩
structure QH (K:za1)(mg:Str->Option Value)(x qual:Str)(st:Stmt)(ps:List Str):Prop where
 ex:∃C f fd,vZ K mg x C/\Mk K C f/\jY K "__init__" qual st f fd/\Binds K fd ps []/\Binds K fd ps [.none]
def Wf {K}{st}(T:QH K mg x qual st ps)(S:Ab N ps (A3 st))(g:Ah->M Out)(hb:∀(f:Addr) (AZ:Value) (A:Around) (outer:List Env) (s:Shared) (H:Hp) (E:XK),Br k (A.deeper (envOfC qual (A3 st) s.heap.objs.size f AZ))->Vg (mC P w K mg base N qual (A3 st) f AZ A outer s H E) (CQ K E) (AE st) g)(hn: ~~~(ps.length=n)):
 QG P w K mg base x (k+1) n (λ t ar=>F6 (g (D8 N t ar))):=by
 obtain⟨C,f,fd,h1,h2,F,hB⟩:=T.ex;subst hn;exact⟨⟨C,f,fd,ps,h1,h2,pT F S g (hb f),hB⟩⟩
def ln0 {P:List Value->Prop}(h:P [])(us:List Value)(hl:us.length=0):P us:=by
 cases us with
 |nil=>exact h
 |cons _ _=>cases hl
def ln1 {P:List Value->Prop}(h:∀a,P [a])(us:List Value)(hl:us.length=1):P us:=by
 cases us with
 |nil=>cases hl
 |cons a us=>exact ln0 (P:=λ l=>P (a::l)) (h a) us (Nat.succ.inj hl)
def ln2 {P:List Value->Prop}(h:∀a b,P [a,b])(us:List Value)(hl:us.length=2):P us:=by
 cases us with
 |nil=>cases hl
 |cons a us=>exact ln1 (P:=λ l=>P (a::l)) (λ b=>h a b) us (Nat.succ.inj hl)
def ln3 {P:List Value->Prop}(h:∀a b c,P [a,b,c])(us:List Value)(hl:us.length=3):P us:=by
 cases us with
 |nil=>cases hl
 |cons a us=>exact ln2 (P:=λ l=>P (a::l)) (λ b c=>h a b c) us (Nat.succ.inj hl)
def ln4 {P:List Value->Prop}(h:∀a b c d,P [a,b,c,d])(us:List Value)(hl:us.length=4):P us:=by
 cases us with
 |nil=>cases hl
 |cons a us=>exact ln3 (P:=λ l=>P (a::l)) (λ b c d=>h a b c d) us (Nat.succ.inj hl)
def ln5 {P:List Value->Prop}(h:∀a b c d e,P [a,b,c,d,e])(us:List Value)(hl:us.length=5):P us:=by
 cases us with
 |nil=>cases hl
 |cons a us=>exact ln4 (P:=λ l=>P (a::l)) (λ b c d e=>h a b c d e) us (Nat.succ.inj hl)
def AK {K}{st}(X:K.In h)(G:h.Ns mainGlobals mg)(p:FP K x st)(hb:∀(kV dc pm:Value) (an:Option Addr) (cd ct:Value) (us:List Value),us.length=ps.length->bindArgs (zb7 x x (B5 st) (AE st) (A3 st) .none kV dc pm an cd ct) ⟨us,[]⟩=pure (ps.zip us):=by first | exact (λ _ _ _ _ _ _=>ln1 λ _=>rfl) | exact (λ _ _ _ _ _ _=>ln2 λ _ _=>rfl) | exact (λ _ _ _ _ _ _=>ln3 λ _ _ _=>rfl) | exact (λ _ _ _ _ _ _=>ln4 λ _ _ _ _=>rfl)):Ay K mg x st ps:=by
 obtain⟨f,oc,od,an,sl,kV,dc,pm,cd,ct,a,l,c,k⟩:=p.ex;have F:=XF (st:=st) l c k;exact⟨⟨_,_,F,PySem.W.mg_of X G a,F.binds hb⟩⟩
def QI {K}{st}(aC:zau K mainGlobals x=some (some (.ref C)))(cl:Ve K C)(p:MP K C m qual st)(hb:∀(kV dc pm:Value) (an:Option Addr) (cd ct:Value) (us:List Value),us.length=ps.length->bindArgs (zb7 m qual (B5 st) (AE st) (A3 st) .none kV dc pm an cd ct) ⟨us,[]⟩=pure (ps.zip us):=by first | exact (λ _ _ _ _ _ _=>ln1 λ _=>rfl) | exact (λ _ _ _ _ _ _=>ln2 λ _ _=>rfl) | exact (λ _ _ _ _ _ _=>ln3 λ _ _ _=>rfl) | exact (λ _ _ _ _ _ _=>ln4 λ _ _ _ _=>rfl)):Mj K x m qual st ps:=by
 obtain⟨f,oc,od,an,sl,kV,dc,pm,cd,ct,a,i,l,c,k⟩:=p.ex;have F:=XF (st:=st) l c k;exact⟨⟨_,_,_,aC,cl,⟨a,i,k⟩,F,F.binds hb⟩⟩
open PySem PySem.W PySem.Calls PyProof.Rows
abbrev R0:Rn:=⟨topRun,Heap.nsMap,importEnds,fenceModules?,PySem.start,treeTable⟩
def wF:R0=R1:=by
 unfold R0 R1;rw[PySem.W.Fast.te14082659384304107361,PySem.W.Fast.te8920871248978507458,PySem.W.Fast.te10274390034422433532,PySem.W.Fast.te14289696077712309145,PySem.W.Fast.te1435165496053646825,PySem.W.Fast.te14364793385576792824]
def Zz (p:Program)(w:World)(N:Nat):openEnds treeTable p w N=Vj R0 p w N:=by
 unfold openEnds fencedOpening Vj;rfl
def QJ:∀ {as:List Addr},(frO h as).lookup a=some o->h.get? a=some o
 |[],e=>by cases e
 |b::r,e=>by
  unfold frO at e;rw[zca] at e;cases q:h.get? b with
  |none=>rw[q] at e;exact QJ (as:=r) e
  |some u =>
   rw[q] at e;dsimp only [zbg] at e;rw[zc4] at e;cases c:a==b with
   |true=>rw[c] at e;cases e;rw[eq_of_beq c];exact q
   |false=>rw[c] at e;exact QJ (as:=r) e
abbrev aaz (h h':Heap):Prop:=∀(b:Addr) (o:Obj),h.get? b=some o->h'.get? b=some o
def wG (s:aaz h h'):(frO h as).In h':=λ a o e=>s a o (QJ e)
def pU {lo}(h:∀w:World,(openEnds treeTable p w N).map (λ s=>openSeen q lo (importedModules p.main.body) Xt true s)=some (openGood q lo)):LeftO p q lo Xt (λ s=>s.heap) (λ w=>fB R0 p w N) N:=λ w=>by
 have e:=h w;unfold fB;dsimp only;rw[<-Zz];cases q':openEnds treeTable p w N with
 |none=>rw[q'] at e;cases e
 |some s =>
  rw[q'] at e;rw[zbg] at e ⊢;dsimp only;rw[zao e]
def O2 {α β γ:Type}{o:Option γ}{f:γ->α}{g:γ->β}{a:α}{b:β}(h:o.map f=some a)(k:o.map g=some b):o.map (λ s=>(f s,g s))=some (a,b):=by
 cases o with
 |none=>cases h
 |some s =>
  rw[zbg] at h k ⊢;rw[zao h,zao k]
def QK {α β γ:Type}{o:Option γ}{f}{g:γ->β}{a:α}{b}(h:o.map (λ s=>(f s,g s))=some (a,b)):o.map f=some a:=by
 cases o with
 |none=>cases h
 |some s=>exact congrArg some (congrArg zb0 (zao h))
def EB {α β γ:Type}{o:Option γ}{f:γ->α}{g}{a}{b:β}(h:o.map (λ s=>(f s,g s))=some (a,b)):o.map g=some b:=by
 cases o with
 |none=>cases h
 |some s=>exact congrArg some (congrArg zbs (zao h))
def aaA {l:PySem.W.OpenLaw}{K:World->za1}{CX:World->YQ}{sp:World->Sp}(hn:l.most=some n)(a8:n<=sizeLine)(h8:d.params.defaults=[])(hr:Br k callerA)(hY:∀(w:World) (h:Heap),YP w h->(K w).In h)(F:∀(w:World) (mg:Str->Option Value) (fa:Addr) (h:Heap),(K w).In h->h.Ns mainGlobals mg->mg d.name=some (.ref fa)->∃fd:FuncData,(∀(s:Shared) (u:Value),BindsTo s fd ⟨[u],[]⟩ [(x,u)])/\
  ∀base:Heap,(K w).In base->base.Ns mainGlobals mg->CL l.prog w (K w) mg base (CX w) k fa fd [x] (sp w))(b7:∀(w:World) (H:Hp) (a:Addr) (ns:List Int),(∀n∈ns,Sm n)->ns.length<=n->nF H->DU (K w) H a (ns.map V.int)->sp w [.ref a] H (λ v _=>v=.bl true) λ _ _ _=>False)(j1:∀(w:World) (H:Hp) (s:Shared) (e:Value) (s':Shared),CX w [] H s (λ _ _ _=>False) e s'->False):PySem.W.WalkO q loose XP YP l.row.toRowW d [] (λ f vs=>PySem.call f vs):=by
 refine HT.Tc hn h8 λ w s₀ s₁ mg mb fa o pm cd doc a vs ns aW G Y ho hd aQ h9 c8 bh hlen hg=>?_;have KX:=hY w _ Y;obtain⟨fd,hb,hF⟩:=F w mg fa _ KX G.T.g h9;exact VD KX G.T.g G.T.b G.T.builtins G.T.nolimit hg c8 bh (zbv hlen a8) hr hF hb (λ H hO hS=>b7 w H a ns aW hlen hO hS) λ H e s'=>j1 w H s₁ e s'
abbrev cst:Option (Int×Int)->D
 |none=>.Av
 |some p=>.tup [.int p.1,.int p.2]
abbrev AD:Option (Int×Int)->Option (Int×Int)->Option (Int×Int)
 |some p,some q=>some (p.1+q.1,p.2+q.2)
 |_,_=>none
abbrev wH (p q:Int×Int):Int×Int:=if p.1<q.1\/(p.1=q.1/\p.2<=q.2) then p else q
abbrev HJ:Option (Int×Int)->Option (Int×Int)->Option (Int×Int)
 |none,b=>b
 |some p,none=>some p
 |some p,some q=>some (wH p q)
abbrev Ib (cs:List (Option (Int×Int))):Option (Int×Int):=cs.foldl HJ none
def O3 (cs:List (Option (Int×Int))):Bb (λ d ρ=>.ok (ρ.set 0 (some (.val d)))) (λ ρ=>(rv 0 ρ).bind λ x=>.ok (!Bl x)) (rv 0) (cs.map cst) [none]=.ok ((cs.filterMap id).map λ p=>cst (some p)):=by
 induction cs with
 |nil=>rfl
 |cons c r ih =>
  rw[za6,Bb];cases c with
  |none =>
   show Bb _ _ _ (r.map cst) [none]=_;rw[ih];rfl
  |some p =>
   show (match Bb _ _ _ (r.map cst) [none] with | .ok ys=>M.ok (cst (some p)::ys)|_=>.bad)=_;rw[ih];rfl
def cZ (ps:List (Int×Int)):Iw (ps.map λ p=>cst (some p))=some (ps.map λ p=>(cst (some p),[p.1,p.2])):=by
 induction ps with
 |nil=>rfl
 |cons p r ih=>rw[za6,Iw,ih];rfl
def jZ (cs:List (Option (Int×Int))):Bj ((cs.filterMap id).map λ p=>(cst (some p),[p.1,p.2]))=(Ib cs).map λ p=>(cst (some p),[p.1,p.2]):=by
 have key:∀(cs:List (Option (Int×Int))) (z:Option (Int×Int)),((cs.filterMap id).map λ p=>(cst (some p),[p.1,p.2])).foldl BY (z.map λ p=>(cst (some p),[p.1,p.2]))=(cs.foldl HJ z).map λ p=>(cst (some p),[p.1,p.2]):=by
  intro cs;induction cs with
  |nil=>intro z;rfl
  |cons c r ih =>
   intro z;cases c with
   |none =>
    rw[show List.filterMap id (none::r)=List.filterMap id r from rfl,zam,ih z];cases z<;>rfl
   |some q =>
    rw[show List.filterMap id (some q::r)=q::List.filterMap id r from rfl,za6,zam,zam,<-ih (HJ z (some q))];congr 1;cases z with
    |none=>rfl
    |some p =>
     simp only[zbg,BY,HT.GP,HT.FV,HJ,wH];by_cases h1:q.1=p.1
     ·by_cases h2:q.2=p.2
      ·rw[if_pos (show p.1<q.1\/(p.1=q.1/\p.2<=q.2) by omega)];simp[h1,h2]
      ·by_cases h3:q.2<p.2
       ·rw[if_neg (show ¬ (p.1<q.1\/(p.1=q.1/\p.2<=q.2)) by omega)];simp[h1,h2,h3]
       ·rw[if_pos (show p.1<q.1\/(p.1=q.1/\p.2<=q.2) by omega)];simp[h1,h2,h3]
     ·by_cases h3:q.1<p.1
      ·rw[if_neg (show ¬ (p.1<q.1\/(p.1=q.1/\p.2<=q.2)) by omega)];simp[h1,h3]
      ·rw[if_pos (show p.1<q.1\/(p.1=q.1/\p.2<=q.2) by omega)];simp[h1,h3]
 exact key cs none
def pV (cs:List (Option (Int×Int))):Z6 (.lst ((cs.filterMap id).map λ p=>cst (some p))) .Av=.ok (cst (Ib cs)):=by
 simp only[Z6,cZ,jZ];cases Ib cs<;>rfl
def kA (cs:List (Option (Int×Int))):Lq (Bb (λ d ρ=>.ok (ρ.set 0 (some (.val d)))) (λ ρ=>(rv 0 ρ).bind λ x=>.ok (!Bl x)) (rv 0) (cs.map cst) [none])=.ok (.lst ((cs.filterMap id).map λ p=>cst (some p))):=by
 rw[O3];rfl
noncomputable abbrev Co:=Option (Int×Int)
variable {Cf:Int->Int->Co}
abbrev C4:Co->Co->Prop
 |_,none=>True
 |none,some _=>False
 |some p,some q=>p.1<q.1\/(p.1=q.1/\p.2<=q.2)
def CF:∀a:Co,C4 a a
 |none=>trivial
 |some p=>.inr ⟨rfl,Int.le_refl _⟩
def AI:∀ {a b c:Co},C4 a b->C4 b c->C4 a c
 |_,_,none,_,_=>trivial
 |none,none,some _,_,h|some _,none,some _,_,h|none,some _,some _,h,_=>h.elim
 |some p,some q,some r,h1,h2=>by simp only[C4] at *;omega
def QL:∀ {a b:Co},C4 a b->C4 b a->a=b
 |none,none,_,_=>rfl
 |none,some _,h,_|some _,none,_,h=>h.elim
 |some p,some q,h1,h2=>by
  obtain⟨p1,p2⟩:=p;obtain⟨q1,q2⟩:=q;simp only[C4] at h1 h2;have e1:p1=q1:=by omega
  have e2:p2=q2:=by omega
  rw[e1,e2]
def DB:∀a b:Co,(HJ a b=a/\C4 a b)\/(HJ a b=b/\C4 b a/\a≠b)
 |none,none=>.inl ⟨rfl,trivial⟩
 |none,some q=>.inr ⟨rfl,trivial,λ h=>by cases h⟩
 |some p,none=>.inl ⟨rfl,trivial⟩
 |some p,some q=>by
  unfold HJ wH;by_cases h:p.1<q.1\/(p.1=q.1/\p.2<=q.2)
  ·dsimp only;rw[if_pos h];exact .inl ⟨rfl,h⟩
  ·dsimp only;rw[if_neg h];refine .inr ⟨rfl,?_,λ e=>?_⟩
   ·simp only[C4];omega
   ·cases e;exact h (.inr ⟨rfl,Int.le_refl _⟩)
def Hh (a b:Co):C4 (HJ a b) a:=by
 rcases DB a b with ⟨e,h⟩|⟨e,h,_⟩
 ·rw[e];exact CF a
 ·rw[e];exact h
def JY (a b:Co):C4 (HJ a b) b:=by
 rcases DB a b with ⟨e,h⟩|⟨e,h,_⟩
 ·rw[e];exact h
 ·rw[e];exact CF b
def Wg (cs:List Co):∀z:Co,C4 (cs.foldl HJ z) z/\(∀x∈cs,C4 (cs.foldl HJ z) x)/\(cs.foldl HJ z=z\/cs.foldl HJ z∈cs):=by
 induction cs with
 |nil=>intro z;exact⟨CF z,(λ x h=>by cases h),.inl rfl⟩
 |cons c r ih =>
  intro z;obtain⟨h1,h2,h3⟩:=ih (HJ z c);rw[zam];refine⟨AI h1 (Hh z c),λ x hx=>?_,?_⟩
  ·rcases zac.mp hx with rfl|hx
   ·exact AI h1 (JY z x)
   ·exact h2 x hx
  ·rcases h3 with h3|h3
   ·rw[h3];rcases DB z c with ⟨e,_⟩|⟨e,_⟩
    ·exact .inl e
    ·rw[e];exact .inr za3
   ·exact .inr (za4 _ h3)
def PJ (h:x∈cs):C4 (Ib cs) x:=(Wg cs none).2.1 x h
def Mm (cs:List Co):Ib cs=none\/Ib cs∈cs:=(Wg cs none).2.2
def ZA (h1:∀x∈cs,C4 v x)(h2:v≠none->∃x∈cs,C4 x v):Ib cs=v:=by
 refine QL ?_ ?_
 ·cases v with
  |none=>cases Ib cs<;>exact trivial
  |some p =>
   obtain⟨x,hx,hl⟩:=h2 (by intro z;cases z);exact AI (PJ hx) hl
 ·rcases Mm cs with h|h
  ·rw[h];cases v<;>exact trivial
  ·exact h1 _ h
def Nu:∀a b:Co,AD a b=AD b a
 |none,none=>rfl
 |none,some _|some _,none=>rfl
 |some p,some q=>by simp only[AD];rw[Int.add_comm,Int.add_comm p.2]
def Gn:∀ {a b:Co}(c:Co),C4 a b->C4 (AD a c) (AD b c)
 |_,none,c,_=>by cases c<;>exact trivial
 |none,some _,c,h=>h.elim
 |some p,some q,none,h=>trivial
 |some p,some q,some r,h=>by simp only[AD,C4] at *;omega
abbrev NN:Co->Prop
 |none=>True
 |some p=>0<=p.1/\0<=p.2
def kB:∀ {a b:Co},NN a->NN b->NN (AD a b)
 |none,none,_,_=>trivial
 |none,some _,_,_|some _,none,_,_=>trivial
 |some p,some q,h1,h2=>by simp only[AD,NN] at *;omega
def aaB (h1:NN a)(h2:NN b):NN (HJ a b):=by
 rcases DB a b with ⟨e,_⟩|⟨e,_⟩
 ·rw[e];exact h1
 ·rw[e];exact h2
abbrev ltN (a b:Co):Prop:=NN a/\C4 a b/\a≠b
def dA (a b c:Co)(h1:ltN a b)(h2:ltN b c):ltN a c:=
 ⟨h1.1,AI h1.2.1 h2.2.1,λ e=>by subst e;exact h1.2.2 (QL h1.2.1 h2.2.1)⟩
abbrev rank:Co->Nat×Nat×Nat
 |none=>(1,0,0)
 |some p=>(0,p.1.toNat,p.2.toNat)
def wI:∀a:Co,NN a->Acc ltN a:=by
 have wf:WellFounded (InvImage (Prod.Lex (· < ·) (Prod.Lex (· < ·) (· < ·))) rank):=InvImage.wf rank (Prod.lex Nat.lt_wfRel (Prod.lex Nat.lt_wfRel Nat.lt_wfRel)).wf;intro a;induction a using wf.induction with
 |h a ih =>
  intro ha;refine .intro _ λ b ⟨hb,hl,ad⟩=>ih b ?_ hb;cases b with
  |none=>cases a with
   |none=>exact (ad rfl).elim
   |some p=>exact hl.elim
  |some q=>cases a with
   |none=>exact Prod.Lex.left _ _ (by decide)
   |some p =>
    obtain⟨p1,p2⟩:=p;obtain⟨q1,q2⟩:=q;simp only[C4,NN] at hl ha hb;show Prod.Lex _ _ (0,q1.toNat,q2.toNat) (0,p1.toNat,p2.toNat);refine Prod.Lex.right _ ?_;by_cases h:q1<p1
    ·exact Prod.Lex.left _ _ (by omega)
    ·have e:q1=p1:=by omega
     subst e;have h2:q2≠p2:=λ e=>ad (by rw[e]);exact Prod.Lex.right _ (by omega)
def pW (a:Co):Acc ltN a:=.intro _ λ b h=>wI b h.1
def dB (cs:List Co):Acc (S7 ltN) cs:=Qu ltN pW cs.length cs rfl
structure Road where
 a:Int
 b:Int
 l:Option Int
 w:Int
variable {rs:List Road}
abbrev Ek:Option Int->D
 |none=>.Av
 |some i=>.int i
abbrev Bx (r:Road):D:=.tup [.int r.a,.int r.b,Ek r.l,.int r.w]
abbrev Ac (m:Int)(rs:List Road):D:=.tup [.int m,.lst (rs.map Bx)]
abbrev Cv (r:Road):Co:=match r.l with | none=>none | some l=>some (l,1)
structure PL (m:Nat)(r:Road):Prop where
 a0:0<=r.a
 a1:r.a<m
 b0:0<=r.b
 b1:r.b<m
 l0:∀l,r.l=some l->0<=l
abbrev Mn (r:Road):Road:=⟨r.b,r.a,r.l,r.w⟩
def sD (h:PL m r):NN (Cv r):=by
 unfold Cv;split
 ·trivial
 ·rename_i l e;exact⟨h.l0 l e,by show (0:Int)<=1;decide⟩
abbrev atC (cs:List Co)(i:Int):Co:=cs.getD i.toNat none
def EH (h0:0<=i)(h1:i<cs.length):cs[i.toNat]?=some (atC cs i):=by
 unfold atC;rw[zbc,za7 (show i.toNat<cs.length by omega)];rfl
def set_same {α:Type}:∀ {l:List α}{i:Nat}{x:α},l[i]?=some x->l.set i x=l
 |[],_,_,h=>by cases h
 |y::r,0,x,h=>by cases h;rfl
 |y::r,i+1,x,h=>by rw[zae,set_same (by simpa using h)]
abbrev DC (r:Road)(cs:List Co):List Co:=cs.set r.b.toNat (HJ (atC cs r.b) (AD (atC cs r.a) (Cv r)))
def UH (hi:0<=i)(hj:0<=j)(h1:i<cs.length):atC (cs.set i.toNat v) j=if j=i then v else atC cs j:=by
 unfold atC;rw[zbc,zbc];by_cases h:j=i
 ·subst h;rw[if_pos rfl,zb5 (by omega)];rfl
 ·rw[if_neg h,zbu (by omega)]
structure Good (m s:Nat)(rs:List Road)(cs:List Co):Prop where
 len:cs.length=m
 st:atC cs s=some (0,0)
 nn:∀c∈cs,NN c
 sup:∀p:Int,0<=p->p<m->p≠s->atC cs p≠none->∃r∈rs,r.b=p/\C4 (AD (atC cs r.a) (Cv r)) (atC cs p)
def Good.sE (g:Good m s rs cs){i:Int}(h0:0<=i)(h1:i<m):NN (atC cs i):=
 g.nn _ (zas (EH h0 (by rw[g.len];exact h1)))
def dC (g:Good m s rs cs)(hr:r∈rs)(Aw:∀r∈rs,PL m r):
 Good m s rs (DC r cs)/\(∀i:Int,0<=i->C4 (atC (DC r cs) i) (atC cs i))/\(HJ (atC cs r.b) (AD (atC cs r.a) (Cv r))=atC cs r.b->DC r cs=cs)/\
 (HJ (atC cs r.b) (AD (atC cs r.a) (Cv r))≠atC cs r.b->S7 ltN (DC r cs) cs):=by
 have ok:=Aw r hr;have ji:r.b<cs.length:=by rw[g.len];exact ok.b1
 have hx:NN (AD (atC cs r.a) (Cv r)):=kB (g.sE ok.a0 ok.a1) (sD ok);have hv:NN (HJ (atC cs r.b) (AD (atC cs r.a) (Cv r))):=aaB (g.sE ok.b0 ok.b1) hx;have bv:∀i:Int,0<=i->atC (DC r cs) i=if i=r.b then HJ (atC cs r.b) (AD (atC cs r.a) (Cv r)) else atC cs i:=λ i hi=>UH ok.b0 hi ji
 have le:∀i:Int,0<=i->C4 (atC (DC r cs) i) (atC cs i):=λ i hi=>by
  rw[bv i hi];by_cases h:i=r.b
  ·rw[if_pos h,h];exact Hh _ _
  ·rw[if_neg h];exact CF _
 refine⟨⟨by unfold DC;rw[zcd];exact g.len,?_,λ c hc=>?_,λ p h0 h1 hp hn=>?_⟩,le,λ h=>?_,λ h=>?_⟩
 ·rw[bv s (by omega)];by_cases h:(s:Int)=r.b
  ·rw[if_pos h,<-h,g.st];cases q:AD (atC cs r.a) (Cv r) with
   |none=>rfl
   |some x =>
    rw[q] at hx;unfold HJ wH;dsimp only;rw[if_pos (by simp only[NN] at hx;omega)]
  ·rw[if_neg h];exact g.st
 ·unfold DC at hc;rcases List.mem_or_eq_of_mem_set hc with h|h
  ·exact g.nn c h
  ·rw[h];exact hv
 ·rw[bv p h0] at hn ⊢;by_cases h:p=r.b
  ·rw[if_pos h] at hn ⊢;rcases DB (atC cs r.b) (AD (atC cs r.a) (Cv r)) with ⟨e,_⟩|⟨e,_⟩
   ·rw[e] at hn ⊢;subst h;obtain⟨r',h2,h3,h4⟩:=g.sup r.b h0 h1 hp hn;exact⟨r',h2,h3,AI (Gn _ (le r'.a (Aw r' h2).a0)) h4⟩
   ·rw[e];exact⟨r,hr,h.symm,Gn _ (le r.a ok.a0)⟩
  ·rw[if_neg h] at hn ⊢;obtain⟨r',h2,h3,h4⟩:=g.sup p h0 h1 hp hn;exact⟨r',h2,h3,AI (Gn _ (le r'.a (Aw r' h2).a0)) h4⟩
 ·unfold DC;rw[h];exact set_same (EH ok.b0 ji)
 ·unfold DC;exact Za ltN (EH ok.b0 ji) ⟨hv,Hh _ _,h⟩
abbrev Right (m s:Nat)(rs:List Road)(cs:List Co):Prop:=
 cs.length=m/\atC cs s=some (0,0)/\(∀c∈cs,NN c)/\∀p:Int,0<=p->p<m->p≠s->atC cs p=Ib ((rs.filter λ r=>decide (r.b=p)).map λ r=>AD (Cv r) (atC cs r.a))
def right_of (g:Good m s rs cs)(h:∀r∈rs,HJ (atC cs r.b) (AD (atC cs r.a) (Cv r))=atC cs r.b):Right m s rs cs:=by
 refine⟨g.len,g.st,g.nn,λ p h0 h1 hp=>?_⟩;symm;refine ZA (λ x hx=>?_) λ hn=>?_
 ·obtain⟨r,hr,rfl⟩:=zaq.mp hx;obtain⟨h2,h3⟩:=zb2.mp hr;have e:r.b=p:=by simpa using h3
  have:=JY (atC cs r.b) (AD (atC cs r.a) (Cv r));rw[h r h2,e] at this;rw[Nu];exact this
 ·obtain⟨r,h2,h3,h4⟩:=g.sup p h0 h1 hp hn;refine⟨_,zaq.mpr ⟨r,zb2.mpr ⟨h2,by simpa using h3⟩,rfl⟩,?_⟩;rw[Nu];exact h4
def Y6 (rs:List Road)(h:s<m):Good m s rs ((zak m none).set s (some (0,0))):=by
 have hl:(zak m (none:Co)).length=m:=List.length_replicate;have bv:∀i:Int,0<=i->atC ((zak m none).set s (some (0,0))) i=if i=s then some (0,0) else none:=λ i hi=>by
  have:=UH (cs:=zak m none) (i:=(s:Int)) (j:=i) (v:=some (0,0)) (by omega) hi (by rw[hl];omega);rw[zbj] at this;rw[this];by_cases h:i=s
  ·rw[if_pos h,if_pos h]
  ·rw[if_neg h,if_neg h];unfold atC;rw[zbc,zcq];split<;>rfl
 refine⟨by rw[zcd,hl],?_,λ c hc=>?_,λ p h0 h1 hp hn=>?_⟩
 ·rw[bv s (by omega),if_pos rfl]
 ·rcases List.mem_or_eq_of_mem_set hc with h|h
  ·rw[List.eq_of_mem_replicate h];trivial
  ·rw[h];exact⟨Int.le_refl _,Int.le_refl _⟩
 ·rw[bv p h0,if_neg hp] at hn;exact (hn rfl).elim
def wJ {α:Type}{l:List α}{n:Int}(h:0<=n/\n<l.length):Xj l n=l[n.toNat]? :=by
 unfold Xj YS;obtain⟨h1,h2⟩:=h;simp[h1,h2]
def pX {n:Nat}{j:Int}(h:0<=j/\j<n):YS n j=some j.toNat:=by
 unfold YS;obtain⟨h1,h2⟩:=h;simp[h1,h2]
def Hi {α:Type}{f}{l:List α}{x}(h0:0<=n)(h:l[n.toNat]?=some x):yB (.lst (l.map f)) (.int n)=.ok (f x):=by
 have h1:=(zaf.mp h).1;unfold yB;dsimp only;rw[wJ (by rw[za2];omega),zax,h];rfl
def Gp (h0:0<=i)(h1:i<cs.length):yB (.lst (cs.map cst)) (.int i)=.ok (cst (atC cs i)):=Hi h0 (EH h0 h1)
def QM (c:Co):Pl (n+1) (cst c):=by
 cases c with
 |none=>exact iT
 |some p=>exact Uu (DZ (Cu _) (DZ (Cu _) Uv))
def ZC (a b:Co):Bw (cst a) (cst b)=decide (a=b):=by
 rcases a with _|⟨a1,a2⟩<;>rcases b with _|⟨b1,b2⟩
 ·simp[cst,Bw]
 ·simp[cst,Bw]
 ·simp[cst,Bw]
 ·rw[zcp];simp[cst,Bw,Cq]
def pY (a b:Co):Xk 16 (cst a) (cst b)=.ok (.bl (!decide (a=b))):=by rw[Qn (QM (n:=15) a) (QM (n:=15) b),ZC]
def Mo (a b:Co):bY 16 (cst a) (cst b)=.ok (.bl (decide (a=b))):=by rw[Qm (QM (n:=15) a) (QM (n:=15) b),ZC]
def ZD (c:Co):Lu (cst c)=true:=by
 cases c<;>simp[cst,Lu,Lw]
def QN (c:Co):dp (.ok (cst c))=.ok (cst c):=by
 unfold dp;rw[M.A8,if_pos (ZD c)]
def wK (l:Option Int):Pl n (Ek l):=by
 cases l with
 |none=>exact iT
 |some i=>exact Cu i
def sF (r:Road):Pl 1 (Bx r):=Uu (DZ (Cu _) (DZ (Cu _) (DZ (wK r.l) (DZ (Cu _) Uv))))
def kC (m:Int)(rs:List Road):Pl 3 (Ac m rs):=Uu (DZ (Cu _) (DZ (Ql λ d hd=>by
 obtain⟨r,_,rfl⟩:=zaq.mp hd;exact sF r) Uv))
def Bc (h:0<b):Fx (.int a) (.int b)=.ok (.int (a%b)):=by
 unfold Fx Bk;dsimp only;rw[if_pos h]
def By (h:fP a b):EA (.int a) (.int b)=.ok (.int (a / b)):=by
 unfold EA Bk;dsimp only;rw[if_pos h]
inductive Wk (rs:List Road):Int->Int->Int×Int->Prop
 |nil (u:Int):Wk rs u u (0,0)
 |cons {r:Road} {l:Int} {w:Int} {c:Int×Int}:r∈rs->r.l=some l->Wk rs r.b w c->Wk rs r.a w (l+c.1,1+c.2)
def Wk.trans (h:Wk rs u v c)(k:Wk rs v w d):Wk rs u w (c.1+d.1,c.2+d.2):=by
 induction h with
 |nil u=>simpa using k
 |cons hr hl _ ih =>
  have:=Wk.cons hr hl (ih k);simpa [zd6] using this
def Wk.one (hr:r∈rs)(hl:r.l=some l):Wk rs r.a r.b (l,1):=by
 have:=Wk.cons hr hl (Wk.nil (rs:=rs) r.b);simpa using this
abbrev BG (rs:List Road)(u w:Int)(x:Co):Prop:=(∀c,Wk rs u w c->C4 x (some c))/\∀p,x=some p->Wk rs u w p
def BG.Cj (h:BG rs u w x)(k:BG rs u w y):x=y:=by
 refine QL ?_ ?_
 ·cases y with
  |none=>cases x<;>exact trivial
  |some q=>exact h.1 q (k.2 q rfl)
 ·cases x with
  |none=>cases y<;>exact trivial
  |some q=>exact k.1 q (h.2 q rfl)
def Mp (h:Cv r=some c):∃l,r.l=some l/\c=(l,1):=by
 unfold Cv at h;split at h
 ·cases h
 ·rename_i l e;cases h;exact⟨l,e,rfl⟩
def ET (h:AD a b=some c):∃p q,a=some p/\b=some q/\c=(p.1+q.1,p.2+q.2):=by
 cases a with
 |none=>cases h
 |some p=>cases b with
  |none=>cases h
  |some q=>cases h;exact⟨p,q,rfl,rfl,rfl⟩
def Right.min_le (h:Right m s rs cs)(hr:r∈rs)(Aw:PL m r):C4 (atC cs r.b) (AD (Cv r) (atC cs r.a)):=by
 obtain⟨h1,h2,h3,h4⟩:=h;by_cases hs:r.b=s
 ·rw[hs,h2];have hn:NN (AD (Cv r) (atC cs r.a)):=kB (sD Aw) (h3 _ (zas (EH Aw.a0 (by rw[h1];exact Aw.a1))));cases q:AD (Cv r) (atC cs r.a) with
  |none=>exact trivial
  |some p=>rw[q] at hn;simp only[NN] at hn;simp only[C4];omega
 ·rw[h4 r.b Aw.b0 Aw.b1 hs];exact PJ (zaq.mpr ⟨r,zb2.mpr ⟨hr,by simp⟩,rfl⟩)
def dD (h:Right m s rs cs)(Aw:∀r∈rs,PL m r)(k:Wk rs u w c):C4 (atC cs w) (AD (atC cs u) (some c)):=by
 induction k with
 |nil u =>
  cases atC cs u with
  |none=>exact trivial
  |some p=>simp only[AD,C4];omega
 | @cons r l w c hr hl _ ih =>
  refine AI ih ?_;have h1:=h.min_le hr (Aw r hr);have e:Cv r=some (l,1):=by unfold Cv;rw[hl]
  rw[e] at h1;cases q:atC cs r.a with
  |none=>exact trivial
  |some p =>
   rw[q] at h1;cases q2:atC cs r.b with
   |none=>rw[q2] at h1;exact h1.elim
   |some p2=>rw[q2] at h1;simp only[AD,C4] at *;omega
def dE {m s:Nat}{rs:List Road}{cs:List Co}(h:Right m s rs cs)(Aw:∀r∈rs,PL m r):∀(n:Nat) (w:Int) (p:Int×Int),0<=w->w<m->atC cs w=some p->p.2.toNat=n->Wk rs s w p:=by
 obtain⟨h1,h2,h3,h4⟩:=h;intro n;induction n with
 |zero =>
  intro w p h0 hw hp hn;by_cases hs:w=s
  ·rw[hs,h2] at hp;cases hp;rw[hs];exact .nil _
  ·exfalso;have e:=h4 w h0 hw hs;rw[hp] at e;rcases Mm ((rs.filter λ r=>decide (r.b=w)).map λ r=>AD (Cv r) (atC cs r.a)) with z|z
   ·rw[z] at e;cases e
   ·rw[<-e] at z;obtain⟨r,hr,e2⟩:=zaq.mp z;have f8:=(zb2.mp hr).1;obtain⟨p1,p2,e3,e4,e5⟩:=ET e2;obtain⟨l,hl,rfl⟩:=Mp e3;have ok:=Aw r f8;have nn:=h3 _ (zas (EH ok.a0 (by rw[h1];exact ok.a1)));rw[e4] at nn;simp only[NN] at nn;rw[e5] at hn;simp only at hn;omega
 |succ n ih =>
  intro w p h0 hw hp hn;by_cases hs:w=s
  ·rw[hs,h2] at hp;cases hp;rw[hs];exact .nil _
  ·have e:=h4 w h0 hw hs;rw[hp] at e;rcases Mm ((rs.filter λ r=>decide (r.b=w)).map λ r=>AD (Cv r) (atC cs r.a)) with z|z
   ·rw[z] at e;cases e
   ·rw[<-e] at z;obtain⟨r,hr,e2⟩:=zaq.mp z;obtain⟨f8,tz⟩:=zb2.mp hr;have tz:r.b=w:=by simpa using tz
    obtain⟨p1,p2,e3,e4,e5⟩:=ET e2;obtain⟨l,hl,rfl⟩:=Mp e3;have ok:=Aw r f8;have nn:=h3 _ (zas (EH ok.a0 (by rw[h1];exact ok.a1)));rw[e4] at nn;simp only[NN] at nn;subst e5;simp only at hn;have w1:=ih r.a p2 ok.a0 ok.a1 e4 (by omega);have w2:=w1.trans (Wk.one f8 hl);rw[tz] at w2;have e6:((l+p2.1,1+p2.2):Int×Int)=(p2.1+l,p2.2+1):=by rw[Int.add_comm l,Int.add_comm 1]
    show Wk rs s w (l+p2.1,1+p2.2);rw[e6];exact w2
def Right.sG (h:Right m s rs cs)(Aw:∀r∈rs,PL m r){w:Int}(h0:0<=w)(hw:w<m):BG rs s w (atC cs w):=by
 refine⟨λ c k=>?_,λ p hp=>dE h Aw _ w p h0 hw hp rfl⟩;have:=dD h Aw k;rw[h.2.1] at this;have e:AD (some (0,0)) (some c)=some c:=by simp[AD]
 rw[e] at this;exact this
abbrev over (k:Int)(A:Int->Int->Co):Int->Int->Co:=λ x y=>HJ (A x y) (AD (A x k) (A k y))
abbrev hit (rs:List Road)(cs:List Co)(p:Nat)(k:Nat):Bool:=match rs[k]? with
 |some r=>decide (r.b=(p:Int))&&decide (AD (atC cs r.a) (Cv r)≠none)&&decide (AD (atC cs r.a) (Cv r)=atC cs (p:Int))
 |none=>false
def Wk.nn (Aw:∀r∈rs,PL m r)(h:Wk rs u w c):0<=c.1/\0<=c.2:=by
 induction h with
 |nil=>exact⟨Int.le_refl _,Int.le_refl _⟩
 |cons hr hl _ ih =>
  have:=(Aw _ hr).l0 _ hl;simp only;omega
abbrev pD (p:Int×Int):D:=.tup [.int p.1,.int p.2]
def Hj (p q:Int×Int):Bw (pD p) (pD q)=decide (p=q):=by
 obtain⟨a,b⟩:=p;obtain⟨c,d⟩:=q;unfold pD;simp only[Bw,Cq,Bool.and_true];rw[zcp];simp
def IS (p:Int×Int):keyOk true (pD p)=true:=rfl
def ZE (B:List (Int×Int))(p:Int×Int):OC (B.map pD) (pD p)=decide (p∈B):=by
 unfold OC;rw[List.any_map,zcp];simp only[List.any_eq_true,Function.comp,Hj,decide_eq_true_eq];constructor
 ·rintro ⟨x,hx,rfl⟩;exact hx
 ·intro h;exact⟨p,h,rfl⟩
def UI (B:List (Int×Int))(vs:List D)(neg:Bool)(a b:Int):LC neg (.tup [.int a,.int b]) (.BE true (B.map pD) vs)=.ok (.bl (if neg=true then !decide ((a,b)∈B) else decide ((a,b)∈B))):=by
 unfold LC;dsimp only;have h1:keyOk true (D.tup [D.int a,D.int b])=true:=rfl;have h2:OC (B.map pD) (D.tup [D.int a,D.int b])=decide ((a,b)∈B):=ZE B (a,b);rw[if_pos h1,h2]
abbrev Nv (B:List (Int×Int))(p:Int×Int):List (Int×Int):=if p∈B then B else B++[p]
abbrev Ea {α:Type}(B:List α):List D:=B.map λ _=>.bl true
def Tp {α:Type}(f:α->D)(y:D):∀B:List α,KO (B.map f) (Ea B) y (.bl true)=Ea B
 |[]=>rfl
 |b::r=>by
  show KO (f b::r.map f) (.bl true::Ea r) y (.bl true)=.bl true::Ea r;rw[KO,Tp f y r];split<;>rfl
def ZF (B:List (Int×Int))(p:Int×Int):putD (B.map pD) (Ea B) (pD p) (.bl true)=((Nv B p).map pD,Ea (Nv B p)):=by
 unfold putD Nv;rw[ZE];by_cases h:p∈B
 ·rw[decide_eq_true h,if_pos rfl,if_pos h,Tp]
 ·rw[decide_eq_false h,if_neg (by simp),if_neg h];unfold Ea;simp
def Wh:q∈Nv B p↔q∈B\/q=p:=by
 unfold Nv;split
 ·constructor
  ·exact .inl
  ·rintro (h|rfl)
   ·exact h
   ·assumption
 ·simp
def Y7 (h:B.Nodup):(Nv B p).Nodup:=by
 unfold Nv;split
 ·exact h
 ·rename_i hn;exact zaw.mpr ⟨h,by simp,λ a ha b hb z=>by simp at hb;subst hb;subst z;exact hn ha⟩
def Gq {α:Type}[DecidableEq α]:∀ {l u:List α},l.Nodup->(∀x∈l,x∈u)->l.length<=u.length
 |[],_,_,_=>zbb _
 |x::r,u,nd,h=>by
  have aO:=zbd.mp nd;have hx:=h x za3;have ih:=Gq (l:=r) (u:=u.erase x) aO.2 λ y hy=>(List.mem_erase_of_ne (λ z=>aO.1 (by rw[<-z];exact hy))).mpr (h y (za4 _ hy));have e:=List.length_erase_of_mem hx;have:0<u.length:=List.length_pos_of_mem hx;rw[za8];omega
def kD (p:Int×Int):Lu (pD p)=true:=by simp[pD,Lu,Lw]
abbrev Bu (m:Nat):List Int:=(zb9 m).map λ i:Nat=>(i:Int)
def QO (m:Nat):((zb9 m).map λ i:Nat=>D.int (i:Int))=(Bu m).map D.int:=by unfold Bu;rw[zby];rfl
def Gr (m:Nat):(Bu m).length=m:=by unfold Bu;simp
def IT:p∈Bu m↔0<=p/\p<m:=by
 unfold Bu;constructor
 ·intro h;obtain⟨i,hi,rfl⟩:=zaq.mp h;have:=zcf.mp hi;omega
 ·rintro ⟨h0,h1⟩;exact zaq.mpr ⟨p.toNat,zcf.mpr (by omega),by omega⟩
abbrev Bh (B:List (Int×Int))(L:List Int)(v:Int):List (Int×Int):=(L.filter λ u=>decide ((u,v)∈B)).flatMap λ u=>((L.filter λ w=>decide ((v,w)∈B)).filter λ w=>decide (u≠w) && !decide ((u,w)∈B)).map λ w=>(u,w)
abbrev wL (B:List (Int×Int)):Prop:=∀x,(x,x)∉B
def dG (B:List (Int×Int))(L:List Int)(v:Int):(Bh B L v).length<=L.length*L.length:=by
 unfold Bh;rw[List.length_flatMap];have key:∀l:List Int,(l.map λ u=>(((L.filter λ w=>decide ((v,w)∈B)).filter λ w=>decide (u≠w) && !decide ((u,w)∈B)).map λ w=>(u,w)).length).sum<=l.length*L.length:=by
  intro l;induction l with
  |nil=>simp
  |cons u r ih =>
   rw[za6,List.sum_cons,za8,Nat.succ_mul];have:(((L.filter λ w=>decide ((v,w)∈B)).filter λ w=>decide (u≠w) && !decide ((u,w)∈B)).map λ w=>(u,w)).length<=L.length:=by
    rw[za2];exact zbv (zcz _ _) (zcz _ _)
   omega
 exact zbv (key _) (Nat.mul_le_mul_right _ (zcz _ _))
def Tq {α:Type}(f:α->List Int):∀l:List α,Iw (l.map λ x=>D.tup ((f x).map D.int))=some (l.map λ x=>(D.tup ((f x).map D.int),f x))
 |[]=>rfl
 |x::r=>by
  rw[za6,Iw,Tq f r];simp[iP,Gi]
def Ts (h:p∈Bh B L v):p.1∈L/\p.2∈L/\p.1≠p.2:=by
 unfold Bh at h;obtain⟨u,hu,h⟩:=List.mem_flatMap.mp h;obtain⟨w,hw,rfl⟩:=zaq.mp h;have h1:=zb2.mp hw;have h2:=zb2.mp h1.1;have h3:=zb2.mp hu;simp at h1;exact⟨h3.1,h2.1,h1.2.1⟩
abbrev Cw (B ps:List (Int×Int)):List (Int×Int):=ps.foldl Nv B
structure Cy (m:Nat)(B:List (Int×Int)):Prop where
 nd:B.Nodup
 no:wL B
 inn:∀p∈B,(0<=p.1/\p.1<m)/\(0<=p.2/\p.2<m)
def Cy.add {m:Nat}{B:List (Int×Int)}(h:Cy m B){p:Int×Int}(hp:p.1≠p.2)(h1:0<=p.1/\p.1<m)(h2:0<=p.2/\p.2<m):Cy m (Nv B p):=by
 refine⟨Y7 h.nd,λ x hx=>?_,λ q hq=>?_⟩
 ·rcases Wh.mp hx with z|z
  ·exact h.no x z
  ·subst z;exact hp rfl
 ·rcases Wh.mp hq with z|z
  ·exact h.inn q z
  ·subst z;exact⟨h1,h2⟩
def Cy.Cw (h:Cy m B):∀ {ps:List (Int×Int)},(∀p∈ps,p.1≠p.2/\(0<=p.1/\p.1<m)/\(0<=p.2/\p.2<m))->Cy m (L2.Cw B ps):=by
 intro ps;induction ps generalizing B with
 |nil=>intro _;exact h
 |cons p r ih =>
  intro hp;have:=hp p za3;exact ih (h.add this.1 this.2.1 this.2.2) λ q hq=>hp q (za4 _ hq)
def Cy.len (h:Cy m B)(hm:m<=20):B.length<1000:=by
 have key:=Gq (l:=B) (u:=(zb9 m).flatMap λ i:Nat=>(zb9 m).map λ j:Nat=>((i:Int),(j:Int))) h.nd λ p hp=>by
  obtain⟨h1,h2⟩:=h.inn p hp;refine List.mem_flatMap.mpr ⟨p.1.toNat,zcf.mpr (by omega),zaq.mpr ⟨p.2.toNat,zcf.mpr (by omega),?_⟩⟩;rw[Int.toNat_of_nonneg h1.1,Int.toNat_of_nonneg h2.1]
 have e:((zb9 m).flatMap λ i:Nat=>(zb9 m).map λ j:Nat=>((i:Int),(j:Int))).length=m*m:=by
  rw[List.length_flatMap];simp[List.map_const',List.sum_replicate_nat]
 rw[e] at key;have:m*m<=20*20:=Nat.mul_le_mul hm hm;omega
def FZ (a b c d:Int):HT.lexLt [a,b] [c,d]=decide (a<c\/(a=c/\b<d)):=by
 rw[HT.GP,HT.GP,HT.FV,zcp];by_cases h1:a=c
 ·subst h1;by_cases h2:b=d
  ·subst h2;simp
  ·simp[h2]
 ·simp[h1]
def dH {α β:Type}(f:α->β):∀bs:List (α×List Int),Bj (bs.map λ b=>(f b.1,b.2))=(Bj bs).map λ b=>(f b.1,b.2):=by
 intro bs;unfold Bj
 suffices z:∀o:Option (α×List Int),(bs.map λ b=>(f b.1,b.2)).foldl BY (o.map λ b=>(f b.1,b.2))=(bs.foldl BY o).map λ b=>(f b.1,b.2) from z none
 induction bs with
 |nil=>intro o;rfl
 |cons b r ih =>
  intro o;rw[za6,zam,zam,<-ih];congr 1;cases o with
  |none=>rfl
  |some c =>
   unfold BY;dsimp only [zbg];split<;>rfl
def kE {α:Type}:∀(bs:List (α×List Int)) (o:Option (α×List Int)) (b:α×List Int),bs.foldl BY o=some b->b∈bs\/o=some b:=by
 intro bs;induction bs with
 |nil=>intro o b h;exact .inr h
 |cons x r ih =>
  intro o b h;rw[zam] at h;rcases ih _ _ h with q|q
  ·exact .inl (za4 _ q)
  ·cases o with
   |none=>cases q;exact .inl za3
   |some c =>
    unfold BY at q;dsimp only at q;split at q
    ·cases q;exact .inl za3
    ·exact .inr q
def dI {α:Type}{bs}(h2:∀b∈bs,∃x y:Int,b.2=[x,y]){b:α×List Int}(hb:Bj bs=some b):∀c∈bs,HT.lexLt c.2 b.2=false:=by
 unfold Bj at hb
 suffices z:∀(bs:List (α×List Int)) (o:Option (α×List Int)),(∀b∈bs,∃x y:Int,b.2=[x,y])->(∀b,o=some b->∃x y:Int,b.2=[x,y])->∀b,bs.foldl BY o=some b->(∀c∈bs,HT.lexLt c.2 b.2=false)/\(∀c,o=some c->HT.lexLt c.2 b.2=false) from (z bs none h2 (λ b h=>by cases h) b hb).1
 intro bs;induction bs with
 |nil =>
  intro o _ ho b h;refine⟨λ c hc=>(by cases hc),λ c hc=>?_⟩;have e:o=some b:=h;rw[hc] at e;cases e;obtain⟨x,y,e⟩:=ho _ hc;rw[e,FZ];simp
 |cons d r ih =>
  intro o h2 ho b h;rw[zam] at h;have hd:=h2 d za3;have ax:∀b,BY o d=some b->∃x y:Int,b.2=[x,y]:=λ b hb=>by
   unfold BY at hb;cases o with
   |none=>cases hb;exact hd
   |some c =>
    dsimp only at hb;split at hb
    ·cases hb;exact hd
    ·cases hb;exact ho _ rfl
  obtain⟨i1,i2⟩:=ih (BY o d) (λ c hc=>h2 c (za4 _ hc)) ax b h;have yb:=KH o d;obtain⟨k,hk⟩:∃k,BY o d=some k:=by
   cases q:BY o d with
   |none=>exact (yb q).elim
   |some k=>exact⟨k,rfl⟩
  have yc:=i2 k hk;obtain⟨kx,ky,ek⟩:=ax k hk;have fb:∃x y:Int,b.2=[x,y]:=by
   have:=kE r (BY o d) b h;rcases this with z|z
   ·exact h2 b (za4 _ z)
   ·exact ax b z
  obtain⟨bx,by',eb⟩:=fb;obtain⟨dx,dy,ed⟩:=hd;rw[ek,eb,FZ,decide_eq_false_iff_not] at yc;have da:HT.lexLt d.2 b.2=false/\∀c,o=some c->HT.lexLt c.2 b.2=false:=by
   unfold BY at hk;cases o with
   |none =>
    cases hk;rw[ed] at ek;injection ek with e1 e2
    injection e2 with e2 _
    refine⟨?_,λ c hc=>by cases hc⟩;rw[ed,eb,FZ,decide_eq_false_iff_not];omega
   |some c =>
    obtain⟨cx,cy,ec⟩:=ho c rfl;dsimp only at hk;rw[ed,ec,FZ] at hk;by_cases hl:dx<cx\/(dx=cx/\dy<cy)
    ·rw[if_pos (decide_eq_true hl)] at hk;cases hk;rw[ed] at ek;injection ek with e1 e2
     injection e2 with e2 _
     refine⟨?_,λ c' bw=>?_⟩
     ·rw[ed,eb,FZ,decide_eq_false_iff_not];omega
     ·cases bw;rw[ec,eb,FZ,decide_eq_false_iff_not];omega
    ·rw[if_neg (by simpa using hl)] at hk;cases hk;rw[ec] at ek;injection ek with e1 e2
     injection e2 with e2 _
     refine⟨?_,λ c' bw=>?_⟩
     ·rw[ed,eb,FZ,decide_eq_false_iff_not];omega
     ·cases bw;rw[ec,eb,FZ,decide_eq_false_iff_not];omega
  refine⟨λ c hc=>?_,da.2⟩;rcases zac.mp hc with z|z
  ·rw[z];exact da.1
  ·exact i1 c z
abbrev BJ (B:List (Int×Int))(L:List Int):Int:=match Bj (L.map λ p=>(p,[((Bh B L p).length:Int),p])) with
 |some k=>k.1
 |none=>0
def dJ (h:L≠[]):BJ B L∈L/\∀p∈L,¬ (((Bh B L p).length:Int)<(Bh B L (BJ B L)).length\/(((Bh B L p).length:Int)=(Bh B L (BJ B L)).length/\p<BJ B L)):=by
 unfold BJ;cases q:Bj (L.map λ p=>(p,[((Bh B L p).length:Int),p])) with
 |none=>exact (Qc (λ z=>h (List.map_eq_nil_iff.mp z)) q).elim
 |some k =>
  obtain⟨p,hp,rfl⟩:=zaq.mp (T6 _ _ q);refine⟨hp,λ p' j5=>?_⟩;have:=dI (λ b hb=>by obtain⟨x,_,rfl⟩:=zaq.mp hb;exact⟨_,_,rfl⟩) q _ (zaq.mpr ⟨p',j5,rfl⟩);rw[FZ,decide_eq_false_iff_not] at this;exact this
abbrev pZ:Nat->List (Int×Int)->List Int->List Int
 |0,_,_=>[]
 |n+1,B,L=>if L=[] then [] else BJ B L::pZ n (Cw B (Bh B L (BJ B L))) (L.erase (BJ B L))
abbrev CG (rs:List Road):List (Int×Int):=rs.foldl (λ B r=>match r.l with | none=>B | some _=>Nv B (r.a,r.b)) []
def Wi:∀ {rs:List Road},(∀r∈rs,PL m r/\r.a≠r.b)->Cy m (CG rs):=by
 intro rs
 suffices z:∀(rs:List Road) (B:List (Int×Int)),Cy m B->(∀r∈rs,PL m r/\r.a≠r.b)->Cy m (rs.foldl (λ B r=>match r.l with|none=>B|some _=>Nv B (r.a,r.b)) B) from λ h=>z rs [] ⟨zbn,λ x h=>(by cases h),λ p h=>(by cases h)⟩ h
 intro rs;induction rs with
 |nil=>intro B h _;exact h
 |cons r t ih =>
  intro B h hr;rw[zam];refine ih _ ?_ λ r' h'=>hr r' (za4 _ h');have:=hr r za3;cases r.l with
  |none=>exact h
  |some l=>exact h.add this.2 ⟨this.1.a0,this.1.a1⟩ ⟨this.1.b0,this.1.b1⟩
def Gs:Bk f (.int a) (.int b)=f a b:=rfl
def IU {bs:List Bool}:cG [.lst (bs.map D.bl)]=.ok (.bl (bs.all id)):=by unfold cG;dsimp only;rw[Qp]
def Mq {bs:List Bool}:aaj [.lst (bs.map D.bl)]=.ok (.bl (bs.any id)):=by unfold aaj;dsimp only;rw[Qp]
def Mr (h:a.length+b.length<=1000):Ly (.lst a) (.lst b)=.ok (.lst ((a++b).map .sh)):=if_pos h
def Wj (m:Nat):(Bu m).Pairwise (·<=·):=by
 unfold Bu;rw[List.pairwise_map];exact (List.pairwise_lt_range (n:=m)).imp λ h=>by omega
def QP (m:Nat):(Bu m).Nodup:=by
 unfold Bu List.Nodup;rw[List.pairwise_map];exact (List.pairwise_lt_range (n:=m)).imp λ h=>by omega
def dM:IM L=Bu m↔L.Perm (Bu m):=
 ⟨λ h=>by rw[<-h];exact (F7 L).symm,λ h=>IQ ((F7 L).trans h) (He L) (Wj m)⟩
def IV (h:L.Perm (Bu m)):L.length=m:=by rw[h.length_eq,Gr]
def Bd (h:L.Perm (Bu m)):p∈L↔0<=p/\p<m:=by rw[h.mem_iff,IT]
def Hk (h:L.Perm (Bu m)):L.Nodup:=h.nodup_iff.mpr (QP m)
def Tt:∀ {a b:List Int},Cq (a.map D.int) (b.map D.int)=decide (a=b)
 |[],[]=>by simp[Cq]
 |[],y::t=>by simp[Cq]
 |x::r,[]=>by simp[Cq]
 |x::r,y::t=>by
  rw[za6,za6,Cq,Tt,Bw];by_cases h:x=y<;>by_cases k:r=t<;>simp[h,k]
def Wl {a:List Int}:Bw (.lst (a.map D.int)) (.lst (b.map D.int))=decide (a=b):=by rw[Bw];exact Tt
def Wm {a:List Int}:bY 16 (.lst (a.map D.int)) (.lst (b.map D.int))=.ok (.bl (decide (a=b))):=by rw[Qm (Pd (n:=15) a) (Pd (n:=15) b),Wl]
def kF {a:List Int}:Xk 16 (.lst (a.map D.int)) (.lst (b.map D.int))=.ok (.bl (!decide (a=b))):=by rw[Qn (Pd (n:=15) a) (Pd (n:=15) b),Wl]
def dN (h:L.Perm (Bu i))(n:Nat):(L.take n++(i:Int)::L.drop n).Perm (Bu (i+1)):=by
 have e:Bu (i+1)=Bu i++[(i:Int)]:=by unfold Bu;rw[List.range_succ,zat];rfl
 rw[e];refine List.perm_middle.trans ?_;rw[zcc];exact ((h.cons _).trans (List.perm_append_singleton _ _).symm)
def UJ (hi:ρ[i]?=some (some (.own ds)))(h0:0<=p)(h1:p<ds.length):oB i ρ (.ok (.int p)) d=.ok (.next (ρ.set i (some (.own (ds.set p.toNat d))))):=by
 unfold oB;rw[hi];dsimp only;rw[M.A8];unfold vM;dsimp only;rw[pX ⟨h0,h1⟩]
def qA:jB 0 (none::ρ)=none::ρ:=rfl
def kG:∃T Q:Int,bX (.int 10) (.int 60)=.ok (.int T)/\bX (.int 982451653) (.int 7)=.ok (.int Q)/\1000000<T/\T.natAbs<2^200/\0<Q/\Q.natAbs<2^250:=⟨10^60,982451653^7,rfl,rfl,by decide,by decide,by decide,by decide⟩
abbrev Tu:Int:=za5 kG
def sH:∃Q:Int,bX (.int 10) (.int 60)=.ok (.int Tu)/\bX (.int 982451653) (.int 7)=.ok (.int Q)/\1000000<Tu/\Tu.natAbs<2^200/\0<Q/\Q.natAbs<2^250:=za0 kG
def sI:bX (.int 10) (.int 60)=.ok (.int Tu):=(za0 sH).1
def Y8:1000000<Tu:=(za0 sH).2.2.1
def qB:Fx (.int i) (.int Tu)=.ok (.int (i%Tu)):=Bc (by have:=Y8;omega)
abbrev cl:Nat->D->Prop
 |0,d=>isX d=false
 |n+1,d=>isX d=false/\∀ds,(d=.tup ds\/d=.lst ds)->∀e∈ds,cl n e
structure F8 (m:Nat)(r:Road):Prop where
 a0:0<=r.a
 a1:r.a<m
 b0:0<=r.b
 b1:r.b<m
 ab:r.a≠r.b
 l0:∀l,r.l=some l->0<=l/\l<Tu
 w0:0<=r.w
 w1:r.w<Tu
def kH (h:0<S.length)(h0:0<=q):Fx (.int q) (.int (S.length:Int))=.ok (.int (q%S.length))/\∃y,y∈S/\AB (.lst S) (.int (q%(S.length:Int)))=.ok y:=by
 have b7:(0:Int)<(S.length:Int):=by omega
 have b0:0<=q%(S.length:Int):=zbt _ (by omega);have b1:q%(S.length:Int)<S.length:=zbo _ b7;refine⟨Bc b7,S[(q%(S.length:Int)).toNat]'(by omega),List.getElem_mem _,?_⟩;have:=Hi (f:=λ d:D=>d) (l:=S) b0 (za7 (by omega));rw[List.map_id'] at this;exact this
def Ms:er (.tup [a,b])=.tup [er a,er b]:=by simp[er,bW]
section
variable {α β:Type}{a b c d e f g:α}{x y:β}
def qC:(if [a,b,c,d,e].length<=1000 then x else y)=x:=rfl
def qD:(if [a,b,c,d,e,f].length<=1000 then x else y)=x:=rfl
def qE:(if [a,b,c,d,e,f,g].length<=1000 then x else y)=x:=rfl
def PM:er (.BE t [] [])=.BE t [] []:=by simp[er,bW]
end
structure Xm (m:Nat)(rs:List Road)(rk:Int->Nat)(Af:Int->Int->Co):Prop where
 snd:∀x y c,Af x y=some c->Wk rs x y c/\x≠y/\(0<=x/\x<m)/\0<=y/\y<m
 road:∀r∈rs,C4 (Af r.a r.b) (Cv r)
 tri:∀p x y,x≠y->rk p<rk x->rk p<rk y->C4 (Af x y) (AD (Af x p) (Af p y))
 inj:∀x y:Int,0<=x->x<m->0<=y->y<m->rk x=rk y->x=y
 nn:∀x y c,Wk rs x y c->0<=c.1/\0<=c.2
inductive Mt (Af:Int->Int->Co) (rk:Int->Nat) (s:Int):Int->Int×Int->Prop
 |nil:Mt Af rk s s (0,0)
 |snoc {x y:Int} {c d:Int×Int}:Mt Af rk s x c->rk x<rk y->Af x y=some d->Mt Af rk s y (c.1+d.1,c.2+d.2)
inductive UK (Af:Int->Int->Co) (rk:Int->Nat) (t:Int):Nat->Int->Int×Int->Prop
 |nil:UK Af rk t 0 t (0,0)
 |snoc {n:Nat} {x y:Int} {c d:Int×Int}:UK Af rk t n x c->rk y<rk x->Af x y=some d->UK Af rk t (n+1) y (c.1+d.1,c.2+d.2)
abbrev PN (p q:Int×Int):Prop:=p.1<q.1\/(p.1=q.1/\p.2<=q.2)
def QQ (h:C4 a (some q)):∃p,a=some p/\PN p q:=by
 cases a with
 |none=>exact h.elim
 |some p=>exact⟨p,rfl,h⟩
abbrev UD (Af:Int->Int->Co)(rk:Int->Nat)(s w:Int)(c:Int×Int):Prop:=∃t n c1 c2,Mt Af rk s t c1/\UK Af rk t n w c2/\PN (c1.1+c2.1,c1.2+c2.2) c
section
variable {m:Nat}{Af:Int->Int->Co}{s w:Int}
def Mt.walk (L:Xm m rs rk Af)(h:Mt Af rk s t c):Wk rs s t c:=by
 induction h with
 |nil=>exact .nil s
 |snoc _ _ ha ih=>exact ih.trans (L.snd _ _ _ ha).1
def UK.walk (L:Xm m rs rk Af)(h:UK Af rk t n x c):Wk rs t x c:=by
 induction h with
 |nil=>exact .nil t
 |snoc _ _ ha ih=>exact ih.trans (L.snd _ _ _ ha).1
def wM (L:Xm m rs rk Af):∀(n:Nat){t x y:Int}{c1 c2 d:Int×Int},Mt Af rk s t c1->UK Af rk t n x c2->Af x y=some d->UD Af rk s y (c1.1+c2.1+d.1,c1.2+c2.2+d.2):=by
 intro n;induction n with
 |zero =>
  intro t x y c1 c2 d hu hd ha;obtain⟨_,ad,hx,hy⟩:=L.snd _ _ _ ha;cases hd with
  |nil =>
   by_cases h:rk y<rk t
   ·exact⟨t,1,c1,_,hu,.snoc .nil h ha,by simp only[PN];omega⟩
   ·have h2:rk t<rk y:=by
     have hq:rk t≠rk y:=λ e=>ad (L.inj t y hx.1 hx.2 hy.1 hy.2 e);omega
    exact⟨y,0,_,_,.snoc hu h2 ha,.nil,by simp only[PN];omega⟩
 |succ n ih =>
  intro t x y c1 c2 d hu hd ha;obtain⟨hw,ad,hx,hy⟩:=L.snd _ _ _ ha;by_cases h:rk y<rk x
  ·exact⟨t,n+2,c1,_,hu,.snoc hd h ha,by simp only[PN];omega⟩
  ·have h2:rk x<rk y:=by
    have hq:rk x≠rk y:=λ e=>ad (L.inj x y hx.1 hx.2 hy.1 hy.2 e);omega
   cases hd with
   | @snoc _ z _ c e aZ hr cb =>
    have n1:=L.nn _ _ _ hw;have n2:=L.nn _ _ _ (L.snd _ _ _ cb).1;by_cases hz:z=y
    ·subst hz;exact⟨t,n,c1,c,hu,aZ,by simp only[PN];omega⟩
    ·have q:=L.tri x z y hz hr h2;rw[cb,ha] at q;obtain⟨f,hf,hle⟩:=QQ q;obtain⟨t',n',t5,t6,g1,g2,g3⟩:=ih hu aZ hf;refine⟨t',n',t5,t6,g1,g2,?_⟩;simp only[PN] at *;omega
def qG (L:Xm m rs rk Af)(h:Wk rs u w c):∀ {c0:Int×Int},UD Af rk s u c0->UD Af rk s w (c0.1+c.1,c0.2+c.2):=by
 induction h with
 |nil u =>
  intro c0 h;simpa using h
 | @cons r l w c hr hl _ ih =>
  intro c0 h0;obtain⟨t,n,c1,c2,g1,g2,g3⟩:=h0;have q:=L.road r hr;unfold Cv at q;rw[hl] at q;obtain⟨d,hd,hle⟩:=QQ q;obtain⟨t',n',t5,t6,k1,k2,k3⟩:=wM L n g1 g2 hd;have r1:=@ih (c0.1+l,c0.2+1) ⟨t',n',t5,t6,k1,k2,by simp only[PN] at *;omega⟩;simpa [zd6] using r1
abbrev Kept (rs:List Road)(Af Cf:Int->Int->Co):Prop:=∀x y c,Cf x y=some c↔(Af x y=some c/\BG rs x y (some c))
def qH (L:Xm m rs rk Af)(K:Kept rs Af Cf){t:Int}{c1:Int×Int}(h:Mt Af rk s t c1):∀ {c2:Int×Int},Wk rs t w c2->(∀c,Wk rs s w c->PN (c1.1+c2.1,c1.2+c2.2) c)->Mt Cf rk s t c1:=by
 induction h with
 |nil=>exact λ _ _=>.nil
 | @snoc x y c d hu hr ha ih =>
  intro c2 hw hm;have cb:=(L.snd _ _ _ ha).1;refine .snoc (ih (c2:=(d.1+c2.1,d.2+c2.2)) (cb.trans hw) λ c' bw=>?_) hr ((K x y d).mpr ⟨ha,λ e he=>?_,λ p hp=>by cases hp;exact cb⟩)
  ·have:=hm c' bw;simp only[PN] at *;omega
  ·have:=hm _ (((hu.walk L).trans he).trans hw);simp only[PN,C4] at *;omega
def qI (L:Xm m rs rk Af)(K:Kept rs Af Cf)(hs:Wk rs s t c1)(h:UK Af rk t n x c2):(∀c,Wk rs s x c->PN (c1.1+c2.1,c1.2+c2.2) c)->UK Cf rk t n x c2:=by
 induction h with
 |nil=>exact λ _=>.nil
 | @snoc n x y c d hd hr ha ih =>
  intro hm;have cb:=(L.snd _ _ _ ha).1;refine .snoc (ih λ c' bw=>?_) hr ((K x y d).mpr ⟨ha,λ e he=>?_,λ p hp=>by cases hp;exact cb⟩)
  ·have:=hm _ (bw.trans cb);simp only[PN] at *;omega
  ·have:=hm _ ((hs.trans (hd.walk L)).trans he);simp only[PN,C4] at *;omega
def Wn (L:Xm m rs rk Af)(K:Kept rs Af Cf)(h:BG rs s w (some c)):∃t n c1 c2,Mt Cf rk s t c1/\UK Cf rk t n w c2/\c=(c1.1+c2.1,c1.2+c2.2):=by
 obtain⟨t,n,c1,c2,g1,g2,g3⟩:=qG L (h.2 c rfl) (c0:=(0,0)) ⟨s,0,_,_,.nil,.nil,by simp[PN]⟩;have hw:=(g1.walk L).trans (g2.walk L);have q:=h.1 _ hw;have e:c=(c1.1+c2.1,c1.2+c2.2):=by
  obtain⟨a,b⟩:=c;simp only[PN,C4] at *;refine Prod.ext ?_ ?_<;>dsimp only<;>omega
 refine⟨t,n,c1,c2,qH L K g1 (g2.walk L) λ c' bw=>?_,qI L K (g1.walk L) g2 λ c' bw=>?_,e⟩
 ·have:=h.1 _ bw;rw[e] at this;exact this
 ·have:=h.1 _ bw;rw[e] at this;exact this
structure UpC (rk:Int->Nat)(Cf:Int->Int->Co)(s:Int)(R:Int->Co):Prop where
 st:C4 (R s) (some (0,0))
 cl:∀x y,rk x<rk y->C4 (R y) (AD (R x) (Cf x y))
 sd:∀x c,R x=some c->Mt Cf rk s x c
def UpC.le (h:UpC rk Cf s R)(u:Mt Cf rk s t c):C4 (R t) (some c):=by
 induction u with
 |nil=>exact h.st
 | @snoc x y c d hu hr ha ih =>
  refine AI (h.cl x y hr) ?_;rw[ha];exact Gn (some d) ih
structure SwC (rk:Int->Nat)(Cf:Int->Int->Co)(s:Int)(R T:Int->Co)(m:Nat):Prop where
 top:∀x:Int,0<=x->x<m->C4 (T x) (R x)
 cl:∀x y:Int,0<=x->x<m->0<=y->y<m->rk y<rk x->C4 (T y) (AD (T x) (Cf x y))
 sd:∀x c,T x=some c->∃t n c1 c2,Mt Cf rk s t c1/\UK Cf rk t n x c2/\c=(c1.1+c2.1,c1.2+c2.2)
def Kept.fA (K:Kept rs Af Cf)(h:Cf x y=some c):Af x y=some c:=((K x y c).mp h).1
def Mt.of_kept (K:Kept rs Af Cf)(h:Mt Cf rk s t c):Mt Af rk s t c:=by
 induction h with
 |nil=>exact .nil
 |snoc _ hr ha ih=>exact .snoc ih hr (K.fA ha)
def UK.of_kept (K:Kept rs Af Cf)(h:UK Cf rk t n x c):UK Af rk t n x c:=by
 induction h with
 |nil=>exact .nil
 |snoc _ hr ha ih=>exact .snoc ih hr (K.fA ha)
def aaC (L:Xm m rs rk Af)(K:Kept rs Af Cf)(h:UK Cf rk t n x c)(ht:0<=t/\t<m):0<=x/\x<m:=by
 cases h with
 |nil=>exact ht
 |snoc _ hr ha=>exact (L.snd _ _ _ (K.fA ha)).2.2.2
def aaD (L:Xm m rs rk Af)(K:Kept rs Af Cf)(h:Mt Cf rk s t c)(ht:0<=s/\s<m):0<=t/\t<m:=by
 cases h with
 |nil=>exact ht
 |snoc _ hr ha=>exact (L.snd _ _ _ (K.fA ha)).2.2.2
def SwC.le (L:Xm m rs rk Af)(K:Kept rs Af Cf)(h:SwC rk Cf s R T m){t:Int}(ht:0<=t/\t<m)(hT:C4 (T t) (some c1))(u:UK Cf rk t n x c2):C4 (T x) (some (c1.1+c2.1,c1.2+c2.2)):=by
 induction u with
 |nil=>simpa using hT
 | @snoc n x y c d hd hr ha ih =>
  have hx:=aaC L K hd ht;have hy:=(L.snd _ _ _ (K.fA ha)).2.2.2;refine AI (h.cl x y hx.1 hx.2 hy.1 hy.2 hr) ?_;rw[ha];have:=Gn (some d) ih;simp only[AD,zd6] at this;exact this
def dO (L:Xm m rs rk Af)(K:Kept rs Af Cf)(hs:0<=s/\s<m)(hR:UpC rk Cf s R)(hT:SwC rk Cf s R T m)(hx:BG rs s w x):BG rs s w (T w):=by
 have key:C4 (T w) x:=by
  cases x with
  |none=>cases T w<;>exact trivial
  |some c =>
   obtain⟨t,n,c1,c2,g1,g2,e⟩:=Wn L K hx;have ht:=aaD L K g1 hs;rw[e];exact hT.le L K ht (AI (hT.top t ht.1 ht.2) (hR.le g1)) g2
 refine⟨λ c hc=>AI key (hx.1 c hc),λ p hp=>?_⟩;obtain⟨t,n,c1,c2,g1,g2,rfl⟩:=hT.sd w p hp;exact ((g1.of_kept K).walk L).trans ((g2.of_kept K).walk L)
end
def Wk.turn (h:Wk rs u w c):Wk (rs.map Mn) w u c:=by
 induction h with
 |nil u=>exact .nil u
 | @cons r l w c hr hl _ ih =>
  have h1:Wk (rs.map Mn) (Mn r).a (Mn r).b (l,1):=Wk.one (zaq.mpr ⟨r,hr,rfl⟩) hl;have:=ih.trans h1;have e:(c.1+l,c.2+1)=(l+c.1,1+c.2):=by rw[Int.add_comm,Int.add_comm c.2]
  rw[<-e];exact this
def Gu (rs:List Road):(rs.map Mn).map Mn=rs:=by
 rw[zby];exact (List.map_congr_left λ r _=>rfl).trans (List.map_id rs)
def BG.turn (h:BG rs u w x):BG (rs.map Mn) w u x:=by
 refine⟨λ c hc=>h.1 c ?_,λ p hp=>(h.2 p hp).turn⟩;have:=hc.turn;rw[Gu] at this;exact this
def Xm.turn (L:Xm m rs rk Af):Xm m (rs.map Mn) rk (λ x y=>Af y x):=by
 refine⟨λ x y c h=>?_,λ r hr=>?_,λ p x y ad h1 h2=>?_,L.inj,λ x y c h=>?_⟩
 ·obtain⟨a,b,c,d⟩:=L.snd _ _ _ h;exact⟨a.turn,zbm b,d,c⟩
 ·obtain⟨r',b6,rfl⟩:=zaq.mp hr;exact L.road r' b6
 ·rw[Nu];exact L.tri p y x (zbm ad) h2 h1
 ·have:=h.turn;rw[Gu] at this;exact L.nn _ _ _ this
def Kept.turn (K:Kept rs Af Cf):Kept (rs.map Mn) (λ x y=>Af y x) (λ x y=>Cf y x):=λ x y c=>by
 refine (K y x c).trans ⟨λ h=>⟨h.1,h.2.turn⟩,λ h=>⟨h.1,?_⟩⟩;have:=h.2.turn;rw[Gu] at this;exact this
section
variable {κ β:Type} [DecidableEq κ]
abbrev Ao:List (κ×β)->κ->Option β
 |[],_=>none
 |(k,v)::r,x=>if k=x then some v else Ao r x
abbrev CS (A:List (κ×β))(k:κ)(v:β):List (κ×β):=if (Ao A k).isSome=true then A.map λ kv=>if kv.1=k then (kv.1,v) else kv else A++[(k,v)]
def UL (k j:κ)(v:β):∀A:List (κ×β),Ao (A.map λ kv=>if kv.1=k then (kv.1,v) else kv) j=if j=k then (Ao A j).map λ _=>v else Ao A j
 |[]=>by simp[Ao]
 |(k',v')::r=>by
  rw[za6];by_cases h1:k'=k
  ·rw[if_pos h1];subst h1;simp only[Ao];by_cases h2:k'=j
   ·subst h2;simp
   ·rw[if_neg h2,if_neg h2,UL k' j v r]
  ·rw[if_neg h1];simp only[Ao];by_cases h2:k'=j
   ·subst h2;rw[if_pos rfl,if_pos rfl,if_neg h1]
   ·rw[if_neg h2,if_neg h2,UL k j v r]
def Wo (k j:κ)(v:β):∀A:List (κ×β),Ao A k=none->Ao (A++[(k,v)]) j=if j=k then some v else Ao A j
 |[],_=>by
  simp only[List.nil_append,Ao];by_cases h:k=j
  ·subst h;simp
  ·rw[if_neg h,if_neg (zbm h)]
 |(k',v')::r,h=>by
  simp only[Ao] at h;by_cases h1:k'=k
  ·rw[if_pos h1] at h;cases h
  ·rw[if_neg h1] at h;rw[zdb];simp only[Ao];rw[Wo k j v r h];by_cases h2:k'=j
   ·subst h2;rw[if_pos rfl,if_pos rfl,if_neg h1]
   ·rw[if_neg h2,if_neg h2]
def EI (A:List (κ×β))(k j:κ)(v:β):Ao (CS A k v) j=if j=k then some v else Ao A j:=by
 unfold CS;by_cases h:(Ao A k).isSome=true
 ·rw[if_pos h,UL];by_cases hj:j=k
  ·subst hj;rw[if_pos rfl,if_pos rfl];obtain⟨x,hx⟩:=zbx.mp h;rw[hx];rfl
  ·rw[if_neg hj,if_neg hj]
 ·rw[if_neg h];exact Wo k j v A (by cases e:Ao A k with|none=>rfl|some x=>rw[e] at h;exact (h rfl).elim)
def Hl:∀ {A:List (κ×β)}{k:κ},(Ao A k).isSome=true↔k∈A.map zb0
 |[],k=>by simp[Ao]
 |(k',v')::r,k=>by
  simp only[Ao,za6,zac];by_cases h:k'=k
  ·rw[if_pos h];simp[h]
  ·rw[if_neg h,Hl];simp[zbm h]
def Wq {A:List (κ×β)}{k:κ}:Ao A k=none↔k∉A.map zb0:=by
 rw[<-Hl];cases Ao A k<;>simp
def Wr (A:List (κ×β))(k:κ)(v:β):(CS A k v).map zb0=if (Ao A k).isSome=true then A.map zb0 else A.map zb0++[k]:=by
 unfold CS;split
 ·rw[zby];refine List.map_congr_left λ kv _=>?_;dsimp only [Function.comp];split<;>rfl
 ·rw[zat];rfl
def Nw {A:List (κ×β)}{k:κ}{v:β}(h:(A.map zb0).Nodup):((CS A k v).map zb0).Nodup:=by
 rw[Wr];split
 ·exact h
 ·rename_i hn;rw[Hl] at hn;rw[zaw];exact⟨h,by simp,λ x hx y hy=>by rw[za9.mp hy];exact λ e=>hn (e▸hx)⟩
def QR {A:List (κ×β)}{k x:κ}{v:β}(h:x∈(CS A k v).map zb0):x∈A.map zb0\/x=k:=by
 rw[Wr] at h;split at h
 ·exact .inl h
 ·rcases zal.mp h with h|h
  ·exact .inl h
  ·exact .inr (za9.mp h)
def QS:∀ {A:List (κ×β)}{k:κ}{v:β},Ao A k=some v->(k,v)∈A
 |(k',v')::r,k,v,h=>by
  simp only[Ao] at h;split at h
  ·rename_i e;cases h;subst e;exact za3
  ·exact za4 _ (QS h)
def UM:∀ {A:List (κ×β)}{k:κ}{v:β},(A.map zb0).Nodup->(k,v)∈A->Ao A k=some v
 |(k',v')::r,k,v,hn,h=>by
  rw[za6,zbd] at hn;simp only[Ao];rcases zac.mp h with e|h
  ·cases e;rw[if_pos rfl]
  ·have:k'≠k:=λ e=>hn.1 (e▸zaq.mpr ⟨_,h,rfl⟩);rw[if_neg this];exact UM hn.2 h
variable {kf:κ->D}{vf:β->D}(he:∀a b,Bw (kf a) (kf b)=decide (a=b))
include he
def Mu (A:List (κ×β))(k:κ):OC (A.map λ kv=>kf kv.1) (kf k)=(Ao A k).isSome:=by
 induction A with
 |nil=>rfl
 |cons kv r ih =>
  obtain⟨k',v'⟩:=kv;unfold OC at ih ⊢;rw[za6,zd4,ih,he];simp only[Ao];by_cases h:k'=k
  ·rw[if_pos h,decide_eq_true h];rfl
  ·rw[if_neg h,decide_eq_false h];rfl
def Gv (A:List (κ×β))(k:κ):F5 (A.map λ kv=>kf kv.1) (A.map λ kv=>vf kv.2) (kf k)=(Ao A k).map vf:=by
 induction A with
 |nil=>rfl
 |cons kv r ih =>
  obtain⟨k',v'⟩:=kv;rw[za6,za6,F5,he,ih];simp only[Ao];by_cases h:k'=k
  ·rw[decide_eq_true h,if_pos rfl,if_pos h];rfl
  ·rw[decide_eq_false h,if_neg zav,if_neg h]
def kI (k:κ)(v:β)(A:List (κ×β)):KO (A.map λ kv=>kf kv.1) (A.map λ kv=>vf kv.2) (kf k) (vf v)=(A.map λ kv=>if kv.1=k then (kv.1,v) else kv).map λ kv=>vf kv.2:=by
 induction A with
 |nil=>rfl
 |cons kv r ih =>
  obtain⟨k',v'⟩:=kv;rw[za6,za6,KO,he,ih,za6,za6];by_cases h:k'=k
  ·rw[decide_eq_true h,if_pos rfl,if_pos h]
  ·rw[decide_eq_false h,if_neg zav,if_neg h]
def IW (A:List (κ×β))(k:κ)(v:β):putD (A.map λ kv=>kf kv.1) (A.map λ kv=>vf kv.2) (kf k) (vf v)=((CS A k v).map (λ kv=>kf kv.1),(CS A k v).map λ kv=>vf kv.2):=by
 unfold putD CS;rw[Mu he];by_cases h:(Ao A k).isSome=true
 ·rw[if_pos h,if_pos h,kI he];refine Prod.ext ?_ rfl;dsimp only;rw[zby];refine List.map_congr_left λ kv _=>?_;dsimp only [Function.comp];split<;>rfl
 ·rw[if_neg h,if_neg h,zat,zat];rfl
end
def F9 (a b:Int):Bw (.int a) (.int b)=decide (a=b):=by
 simp only[Bw];by_cases h:a=b
 ·subst h;simp
 ·simp[h]
noncomputable abbrev LA:=List ((Int×Int)×((Int×Int)×Option Int))
abbrev Y9 (v:(Int×Int)×Option Int):D:=.tup [cst (some v.1),Ek v.2]
abbrev Ss (A:LA):D:=.BE true (A.map λ kv=>pD kv.1) (A.map λ kv=>Y9 kv.2)
abbrev OE (A:LA):OT:=.BE true (A.map λ kv=>pD kv.1) ((A.map λ kv=>Y9 kv.2).map .sh)
abbrev Ad (A:LA)(p:Int×Int):Co:=(Ao A p).map zb0
abbrev layA (A:LA)(p:Int×Int)(c:Co)(mid:Option Int):LA:=match c with
 |none=>A
 |some c=>(match Ao A p with
  |none=>CS A p (c,mid)
  |some z=>if c.1<z.1.1\/(c.1=z.1.1/\c.2<z.1.2) then CS A p (c,mid) else A)
def IX (A:LA)(p q:Int×Int)(c:Co)(mid:Option Int):Ad (layA A p c mid) q=if q=p then HJ (Ad A p) c else Ad A q:=by
 unfold layA Ad;cases c with
 |none =>
  by_cases h:q=p
  ·subst h;rw[if_pos rfl];cases Ao A q<;>rfl
  ·rw[if_neg h]
 |some c =>
  cases e:Ao A p with
  |none =>
   dsimp only;rw[EI];by_cases h:q=p
   ·rw[if_pos h,if_pos h];rfl
   ·rw[if_neg h,if_neg h]
  |some z =>
   dsimp only;by_cases hc:c.1<z.1.1\/(c.1=z.1.1/\c.2<z.1.2)
   ·rw[if_pos hc,EI];by_cases h:q=p
    ·rw[if_pos h,if_pos h];simp only[zbg,HJ,wH];rw[if_neg (by omega)]
    ·rw[if_neg h,if_neg h]
   ·rw[if_neg hc];by_cases h:q=p
    ·subst h;rw[if_pos rfl,e];simp only[zbg,HJ,wH];rw[if_pos (by omega)]
    ·rw[if_neg h]
def Yb (A:LA)(p q:Int×Int)(c:Co)(mid:Option Int):C4 (Ad (layA A p c mid) q) (Ad A q):=by
 rw[IX];split
 ·rename_i h;subst h;exact Hh _ _
 ·exact CF _
def kJ (h:x∈(layA A p c mid).map zb0):x∈A.map zb0\/x=p:=by
 unfold layA at h;split at h
 ·exact .inl h
 ·split at h
  ·exact QR h
  ·split at h
   ·exact QR h
   ·exact .inl h
def dP (h:(A.map zb0).Nodup):((layA A p c mid).map zb0).Nodup:=by
 unfold layA;split
 ·exact h
 ·split
  ·exact Nw h
  ·split
   ·exact Nw h
   ·exact h
abbrev PP (p u:Int)(A:LA)(w:Int):LA:=if u=w then A else layA A (u,w) (AD (Ad A (u,p)) (Ad A (p,w))) (some p)
abbrev dQ (p:Int)(H:List Int)(A:LA)(u:Int):LA:=H.foldl (PP p u) A
abbrev qJ (A:LA)(p:Int)(H:List Int):LA:=H.foldl (dQ p H) A
abbrev S8:LA->List Int->LA
 |A,[]=>A
 |A,p::r=>S8 (qJ A p r) r
abbrev lay0 (rs:List Road):LA:=rs.foldl (λ A r=>layA A (r.a,r.b) (Cv r) none) []
abbrev BC (rs:List Road)(L:List Int):LA:=S8 (lay0 rs) L
structure Ic (m:Nat)(A:LA):Prop where
 nd:(A.map zb0).Nodup
 rg:∀p∈A.map zb0,p.1≠p.2/\(0<=p.1/\p.1<m)/\0<=p.2/\p.2<m
def Ic.lay {m:Nat}{A:LA}(h:Ic m A){p:Int×Int}{c:Co}{mid:Option Int}(hp:p.1≠p.2/\(0<=p.1/\p.1<m)/\0<=p.2/\p.2<m):Ic m (layA A p c mid):=
 ⟨dP h.nd,λ q hq=>(kJ hq).elim (h.rg q) λ e=>e▸hp⟩
def Ic.len (h:Ic m A)(hm:m<=20):A.length<1000:=by
 have:=Cy.len (B:=A.map zb0) (m:=m) ⟨h.nd,λ x hx=>(h.rg _ hx).1 rfl,λ q hq=>⟨(h.rg q hq).2.1,(h.rg q hq).2.2⟩⟩ hm;rwa[za2] at this
def Gw {α β:Type}{f:β->α->β}(P:List α->β->Prop):∀ {L pre:List α}{b:β},P pre b->(∀a∈L,∀pre b,P pre b->P (pre++[a]) (f b a))->P (pre++L) (L.foldl f b)
 |[],pre,b,h,_=>by rw[zba];exact h
 |a::L,pre,b,h,hs=>by
  have:=Gw P (L:=L) (hs a za3 pre b h) λ x hx=>hs x (za4 _ hx);rw[zbi] at this;exact this
abbrev qK (rs:List Road)(A:LA):Prop:=∀x y c,Ad A (x,y)=some c->Wk rs x y c
def qK.lay (h:qK rs A)(hc:∀p,c=some p->Wk rs x y p):qK rs (layA A (x,y) c mid):=λ u w d hd=>by
 rw[IX] at hd;split at hd
 ·rename_i e;cases e;rcases DB (Ad A (x,y)) c with ⟨e,_⟩|⟨e,_⟩
  ·rw[e] at hd;exact h _ _ _ hd
  ·rw[e] at hd;exact hc d hd
 ·exact h _ _ _ hd
structure Over (m:Nat)(rs:List Road)(p:Int)(H:List Int)(A0 A:LA):Prop where
 ok:Ic m A
 sd:qK rs A
 le:∀q,C4 (Ad A q) (Ad A0 q)
 sm:∀x y,(x∉H\/y∉H)->Ad A (x,y)=Ad A0 (x,y)
def dR {m:Nat}{H:List Int}(hp:p∉H)(hH:∀x∈H,0<=x/\x<m)(h:Over m rs p H A0 A)(hu:u∈H)(hw:w∈H):Over m rs p H A0 (PP p u A w)/\(u≠w->C4 (Ad (PP p u A w) (u,w)) (AD (Ad A0 (u,p)) (Ad A0 (p,w)))):=by
 unfold PP;by_cases e:u=w
 ·rw[if_pos e];exact⟨h,λ z=>(z e).elim⟩
 ·rw[if_neg e];have e1:=h.sm u p (.inr hp);have e2:=h.sm p w (.inl hp);refine⟨⟨h.ok.lay ⟨e,hH u hu,hH w hw⟩,h.sd.lay λ c hc=>?_,λ q=>AI (Yb _ _ _ _ _) (h.le q),λ x y c9=>?_⟩,λ _=>?_⟩
  ·obtain⟨a,b,ha,hb,rfl⟩:=ET hc;exact (h.sd _ _ _ ha).trans (h.sd _ _ _ hb)
  ·rw[IX,if_neg (λ z=>by cases z;exact c9.elim (λ q=>q hu) λ q=>q hw)];exact h.sm x y c9
  ·rw[IX,if_pos rfl,e1,e2];exact JY _ _
def sJ (q:Int×Int):C4 (Ad (PP p u A w) q) (Ad A q):=by
 unfold PP;split
 ·exact CF _
 ·exact Yb _ _ _ _ _
def sL (q:Int×Int):∀(H:List Int) (A:LA),C4 (Ad (H.foldl (PP p u) A) q) (Ad A q)
 |[],A=>CF _
 |w::H,A=>AI (sL q H (PP p u A w)) (sJ q)
def wN {m:Nat}{H:List Int}(hp:p∉H)(hH:∀x∈H,0<=x/\x<m)(h:Over m rs p H A0 A)(hu:u∈H):Over m rs p H A0 (dQ p H A u)/\∀w∈H,u≠w->C4 (Ad (dQ p H A u) (u,w)) (AD (Ad A0 (u,p)) (Ad A0 (p,w))):=by
 unfold dQ;have:=Gw (L:=H) (pre:=[]) (f:=PP p u) (b:=A) (λ W A=>Over m rs p H A0 A/\∀w∈W,u≠w->C4 (Ad A (u,w)) (AD (Ad A0 (u,p)) (Ad A0 (p,w)))) ⟨h,λ w hw=>by cases hw⟩ λ w hw W B hB=>by
  obtain⟨b1,b2⟩:=hB;obtain⟨c1,c2⟩:=dR hp hH b1 hu hw;refine⟨c1,λ x hx ad=>?_⟩;rcases zal.mp hx with hx|hx
  ·exact AI (sJ _) (b2 x hx ad)
  ·rw[za9.mp hx] at ad ⊢;exact c2 ad
 exact this
def kK {m:Nat}{H:List Int}(hp:p∉H)(hH:∀x∈H,0<=x/\x<m)(h1:Ic m A)(h2:qK rs A):Over m rs p H A (qJ A p H)/\∀u∈H,∀w∈H,u≠w->C4 (Ad (qJ A p H) (u,w)) (AD (Ad A (u,p)) (Ad A (p,w))):=by
 unfold qJ;have:=Gw (L:=H) (pre:=[]) (f:=dQ p H) (b:=A) (λ U B=>Over m rs p H A B/\∀u∈U,∀w∈H,u≠w->C4 (Ad B (u,w)) (AD (Ad A (u,p)) (Ad A (p,w)))) ⟨⟨h1,h2,λ q=>CF _,λ x y _=>rfl⟩,λ u hu=>by cases hu⟩ λ u hu U B hB=>by
  obtain⟨b1,b2⟩:=hB;obtain⟨c1,c2⟩:=wN hp hH b1 hu;refine⟨c1,λ x hx w hw ad=>?_⟩;rcases zal.mp hx with hx|hx
  ·exact AI (sL _ H B) (b2 x hx w hw ad)
  ·rw[za9.mp hx] at ad ⊢;exact c2 w hw ad
 exact this
def UN (Aw:∀r∈rs,PL m r/\r.a≠r.b):Ic m (lay0 rs)/\qK rs (lay0 rs)/\∀r∈rs,C4 (Ad (lay0 rs) (r.a,r.b)) (Cv r):=by
 unfold lay0;have:=Gw (L:=rs) (pre:=[]) (f:=λ A r=>layA A (r.a,r.b) (Cv r) none) (b:=[]) (λ W A=>Ic m A/\qK rs A/\∀r∈W,C4 (Ad A (r.a,r.b)) (Cv r)) ⟨⟨by simp,λ p hp=>by cases hp⟩,⟨(λ _ _ _ h=>by cases h),λ r hr=>by cases hr⟩⟩ λ r hr W B hB=>by
  obtain⟨b1,b2,b3⟩:=hB;obtain⟨o1,o2⟩:=Aw r hr;refine⟨b1.lay ⟨o2,⟨o1.a0,o1.a1⟩,o1.b0,o1.b1⟩,b2.lay λ c hc=>?_,λ x hx=>?_⟩
  ·obtain⟨l,hl,rfl⟩:=Mp hc;exact Wk.one hr hl
  ·rcases zal.mp hx with hx|hx
   ·exact AI (Yb _ _ _ _ _) (b3 x hx)
   ·rw[za9.mp hx,IX,if_pos rfl];exact JY _ _
 exact this
abbrev C5:List Int->Int->Nat
 |[],_=>0
 |a::l,x=>if a=x then 0 else C5 l x+1
def ZG:∀ {pre post:List Int}{p:Int},p∉pre->C5 (pre++p::post) p=pre.length
 |[],post,p,_=>by simp[C5]
 |a::pre,post,p,h=>by
  rw[zac,not_or] at h;rw[zdb,C5,if_neg (zbm h.1),ZG h.2];rfl
def Yc:∀ {pre post:List Int}{x:Int},x∈pre->C5 (pre++post) x<pre.length
 |a::pre,post,x,h=>by
  rw[zdb,C5];by_cases e:a=x
  ·rw[if_pos e];simp
  ·rw[if_neg e,za8];have:=Yc (post:=post) ((zac.mp h).resolve_left (zbm e));omega
def UO:∀ {pre post:List Int}{x:Int},x∉pre->pre.length<=C5 (pre++post) x
 |[],post,x,_=>zbb _
 |a::pre,post,x,h=>by
  rw[zac,not_or] at h;rw[zdb,C5,if_neg (zbm h.1),za8];have:=UO (post:=post) h.2;omega
def UP:∀ {L:List Int}{x y:Int},x∈L->y∈L->C5 L x=C5 L y->x=y
 |a::l,x,y,hx,hy,e=>by
  rw[C5,C5] at e;by_cases h1:a=x
  ·by_cases h2:a=y
   ·rw[<-h1,<-h2]
   ·rw[if_pos h1,if_neg h2] at e;omega
  ·by_cases h2:a=y
   ·rw[if_neg h1,if_pos h2] at e;omega
   ·rw[if_neg h1,if_neg h2] at e;exact UP ((zac.mp hx).resolve_left (zbm h1)) ((zac.mp hy).resolve_left (zbm h2)) (by omega)
def Yd (h:C5 L x<L.length):x∈L:=by
 refine zd1 λ hn=>?_;have:=UO (pre:=L) (post:=[]) hn;rw[zba] at this;omega
def kL:∀(L:List Int) (x:Int),C5 L x<=L.length
 |[],_=>zag _
 |a::l,x=>by
  rw[C5,za8];split
  ·omega
  ·have:=kL l x;omega
def O4:∀ {L:List Int}{p:Int},p∈L->∃pre post,L=pre++p::post/\p∉pre
 |a::l,p,h=>by
  by_cases ha:a=p
  ·subst ha;exact⟨[],l,rfl,by simp⟩
  ·obtain⟨pre,post,e2,hn⟩:=O4 ((zac.mp h).resolve_left (zbm ha));exact⟨a::pre,post,by rw[zdb,<-e2],by simp[zbm ha,hn]⟩
def kM (h:C5 L p<L.length):∃pre post,L=pre++p::post/\p∉pre/\∀x,C5 L p<C5 L x->x∈L->x∈post:=by
 obtain⟨pre,post,e,hn⟩:=O4 (Yd h);refine⟨pre,post,e,hn,λ x hr hx=>?_⟩;subst e;rw[ZG hn] at hr;rcases zal.mp hx with hx|hx
 ·have:=Yc (post:=p::post) hx;omega
 ·rcases zac.mp hx with rfl|hx
  ·rw[ZG hn] at hr;omega
  ·exact hx
def wO {m:Nat}{rs:List Road}{L:List Int}(hL:L.Nodup)(hr:∀x∈L,0<=x/\x<m):∀(post pre:List Int) (A:LA),L=pre++post->Ic m A->qK rs A->(∀r∈rs,C4 (Ad A (r.a,r.b)) (Cv r))->
 (∀pa p pb,L=pa++p::pb->pa.length<pre.length->∀x∈pb,∀y∈pb,x≠y->C4 (Ad A (x,y)) (AD (Ad A (x,p)) (Ad A (p,y))))->
 Ic m (S8 A post)/\qK rs (S8 A post)/\(∀r∈rs,C4 (Ad (S8 A post) (r.a,r.b)) (Cv r))/\∀pa p pb,L=pa++p::pb->∀x∈pb,∀y∈pb,x≠y->C4 (Ad (S8 A post) (x,y)) (AD (Ad (S8 A post) (x,p)) (Ad (S8 A post) (p,y))):=by
 intro post;induction post with
 |nil =>
  intro pre A e h1 h2 h3 h4;rw[zba] at e;refine⟨h1,h2,h3,λ pa p pb e2=>h4 pa p pb e2 ?_⟩;rw[<-e,e2,zai,za8];omega
 |cons p post ih =>
  intro pre A e h1 h2 h3 h4;rw[S8];have hn:(pre++p::post).Nodup:=e▸hL;rw[zaw,zbd] at hn;have br:∀x∈post,0<=x/\x<m:=λ x hx=>hr x (by rw[e];simp[hx]);obtain⟨o,ov⟩:=kK (p:=p) hn.2.1.1 br h1 h2;refine ih (pre++[p]) (qJ A p post) (by rw[e];simp) o.ok o.sd (λ r b6=>AI (o.le _) (h3 r b6)) λ pa q pb e2 af x hx y hy ad=>?_;rw[zai,zbk] at af;by_cases hq:pa.length<pre.length
  ·-- an oh one
   have v4:q∉post:=λ gl=>by
    have e3:pre++p::post=pa++q::pb:=by rw[<-e,e2]
    have q1:q∈pre:=by
     have:=congrArg (λ l=>l[pa.length]?) e3;rw[zcb hq,zd5 (zag _),Nat.sub_self] at this;exact zas this
    exact hn.2.2 q q1 q (za4 _ gl) rfl
   rw[o.sm x q (.inr v4),o.sm q y (.inl v4)];exact AI (o.le _) (h4 pa q pb e2 hq x hx y hy ad)
  ·have hpl:pa.length=pre.length:=by omega
   have e3:pa++q::pb=pre++p::post:=by rw[<-e2,e]
   obtain⟨rfl,e4⟩:=List.append_inj e3 hpl;cases e4;rw[o.sm x p (.inr hn.2.1.1),o.sm p y (.inl hn.2.1.1)];exact ov x hx y hy ad
def Mv (hL:L.Perm (Bu m))(Aw:∀r∈rs,PL m r/\r.a≠r.b):Ic m (BC rs L)/\Xm m rs (C5 L) (λ x y=>Ad (BC rs L) (x,y)):=by
 have ia:L.Nodup:=Hk hL;obtain⟨a1,a2,a3⟩:=UN Aw;obtain⟨b1,b2,b3,b4⟩:=wO ia (λ x hx=>(Bd hL).mp hx) L [] (lay0 rs) rfl a1 a2 a3 (λ pa p pb _ h=>by simp at h);refine⟨b1,λ x y c h=>?_,b3,λ p x y ad h1 h2=>?_,λ x y x0 x1 y0 y1 e=>UP ((Bd hL).mpr ⟨x0,x1⟩) ((Bd hL).mpr ⟨y0,y1⟩) e,λ x y c h=>Wk.nn (λ r hr=>(Aw r hr).1) h⟩
 ·have hm:(x,y)∈(S8 (lay0 rs) L).map zb0:=by
   rw[<-Hl];unfold Ad at h;cases q:Ao (BC rs L) (x,y) with
   |none=>rw[q] at h;cases h
   |some z=>unfold BC at q;rw[q];rfl
  have:=b1.rg _ hm;exact⟨b2 _ _ _ h,this.1,this.2.1,this.2.2⟩
 ·have aA:∀ {x y:Int} {c:Int×Int},Ad (BC rs L) (x,y)=some c->x∈L/\y∈L:=fun {x y c} h=>by
   have hm:(x,y)∈(S8 (lay0 rs) L).map zb0:=by
    rw[<-Hl];unfold Ad at h;cases q:Ao (BC rs L) (x,y) with
    |none=>rw[q] at h;cases h
    |some z=>unfold BC at q;rw[q];rfl
   have:=b1.rg _ hm;exact⟨(Bd hL).mpr this.2.1,(Bd hL).mpr this.2.2⟩
  have hpl:C5 L p<L.length:=zan h1 (kL L x);obtain⟨pre,post,e,hn,ga⟩:=kM hpl;cases q1:Ad (BC rs L) (x,p) with
  |none=>cases Ad (BC rs L) (x,y)<;>exact trivial
  |some c1 =>
   cases q2:Ad (BC rs L) (p,y) with
   |none=>cases Ad (BC rs L) (x,y)<;>exact trivial
   |some c2 =>
    have r:=b4 pre p post e x (ga x h1 (aA q1).1) y (ga y h2 (aA q2).2) ad;rw[<-q1,<-q2];exact r
noncomputable abbrev CA:=List ((Int×Int)×(Int×Int))
abbrev Vi (C:CA):D:=.BE true (C.map λ kv=>pD kv.1) (C.map λ kv=>cst (some kv.2))
abbrev ccT (C:CA):OT:=.BE true (C.map λ kv=>pD kv.1) ((C.map λ kv=>cst (some kv.2)).map .sh)
noncomputable abbrev RA:=List (Int×(Int×Int))
abbrev dS (R:RA):D:=.BE false (R.map λ kv=>D.int kv.1) (R.map λ kv=>cst (some kv.2))
abbrev Ye (R:RA):OT:=.BE false (R.map λ kv=>D.int kv.1) ((R.map λ kv=>cst (some kv.2)).map .sh)
def UQ (A:LA):er (OE A)=Ss A:=IL
def UR (C:CA):er (ccT C)=Vi C:=IL
def US (R:RA):er (Ye R)=dS R:=IL
def Nx (i:Int):keyOk false (.int i)=true:=rfl
def UT (A:LA)(p:Int×Int)(neg:Bool):LC neg (pD p) (Ss A)=.ok (.bl (if neg=true then !(Ao A p).isSome else (Ao A p).isSome)):=by
 unfold Ss LC;dsimp only;rw[if_pos (IS p),Mu Hj]
def QT (h:Ao A p=some v):AB (Ss A) (pD p)=.ok (Y9 v):=by
 unfold Ss AB;dsimp only;rw[if_pos (IS p),Gv Hj,h];rfl
def wQ (C:CA)(p:Int×Int)(neg:Bool):LC neg (pD p) (Vi C)=.ok (.bl (if neg=true then !(Ao C p).isSome else (Ao C p).isSome)):=by
 unfold Vi LC;dsimp only;rw[if_pos (IS p),Mu Hj]
def wR (h:Ao C p=some c):AB (Vi C) (pD p)=.ok (cst (some c)):=by
 unfold Vi AB;dsimp only;rw[if_pos (IS p),Gv (vf:=λ c=>cst (some c)) Hj,h];rfl
def wU (C:CA)(p:Int×Int):To (Vi C) (.ok (pD p))=.ok (cst (Ao C p)):=by
 unfold Vi To;simp only[M.A8];rw[if_pos (IS p),Gv (vf:=λ c=>cst (some c)) Hj];cases Ao C p<;>rfl
def kN (R:RA)(p:Int)(neg:Bool):LC neg (.int p) (dS R)=.ok (.bl (if neg=true then !(Ao R p).isSome else (Ao R p).isSome)):=by
 unfold dS LC;dsimp only;rw[if_pos (Nx p),Mu (kf:=D.int) F9]
def Yg (h:Ao R p=some c):AB (dS R) (.int p)=.ok (cst (some c)):=by
 unfold dS AB;dsimp only;rw[if_pos (Nx p),Gv (kf:=D.int) (vf:=λ c=>cst (some c)) F9,h];rfl
def kO (R:RA)(p:Int):To (dS R) (.ok (.int p))=.ok (cst (Ao R p)):=by
 unfold dS To;simp only[M.A8];rw[if_pos (Nx p),Gv (kf:=D.int) (vf:=λ c=>cst (some c)) F9];cases Ao R p<;>rfl
def kQ (A:LA)(p:Int×Int)(v:(Int×Int)×Option Int):putD (A.map λ kv=>pD kv.1) (A.map λ kv=>Y9 kv.2) (pD p) (Y9 v)=((CS A p v).map (λ kv=>pD kv.1),(CS A p v).map λ kv=>Y9 kv.2):=IW Hj A p v
def wV (R:RA)(p:Int)(c:Int×Int):putD (R.map λ kv=>D.int kv.1) (R.map λ kv=>cst (some kv.2)) (.int p) (cst (some c))=((CS R p c).map (λ kv=>D.int kv.1),(CS R p c).map λ kv=>cst (some kv.2)):=IW (kf:=D.int) (vf:=λ c=>cst (some c)) F9 R p c
def PQ {α:Type}(k v:α->D):∀l:List α,UE (l.map λ x=>.tup [k x,v x])=some (l.map λ x=>(k x,v x))
 |[]=>rfl
 |x::l=>by rw[za6,UE,PQ k v l];rfl
def sM:∀(C C0:CA),((C0++C).map zb0).Nodup->(C.map λ kv=>(pD kv.1,cst (some kv.2))).foldl (λ z kv=>putD z.1 z.2 kv.1 kv.2) (C0.map (λ kv=>pD kv.1),C0.map λ kv=>cst (some kv.2))=((C0++C).map (λ kv=>pD kv.1),(C0++C).map λ kv=>cst (some kv.2))
 |[],C0,_=>by simp
 |kv::C,C0,hn=>by
  obtain⟨p,c⟩:=kv;rw[za6,zam];dsimp only;have h0:Ao C0 p=none:=by
   rw[Wq];intro hm;rw[zat,zaw] at hn;exact hn.2.2 p hm p (by simp) rfl
  have e:CS C0 p c=C0++[(p,c)]:=by unfold CS;rw[h0];rfl
  rw[IW (vf:=λ c=>cst (some c)) Hj,e,sM C (C0++[(p,c)]) (by rw[zbi];exact hn),zbi];rfl
def kR (hn:(C.map zb0).Nodup)(hl:C.length<=1000):pS (.lst (C.map λ kv=>.tup [pD kv.1,cst (some kv.2)]))=.ok (ccT C):=by
 unfold pS;dsimp only;rw[PQ (λ kv:(Int×Int)×(Int×Int)=>pD kv.1) (λ kv=>cst (some kv.2))];dsimp only;have e:=sM C [] hn;rw[if_pos ⟨by rw[za2];exact hl,by rw[List.all_map];exact List.all_eq_true.mpr λ x _=>rfl⟩];have e2:pR (C.map λ kv=>(pD kv.1,cst (some kv.2)))=(C.map (λ kv=>pD kv.1),C.map λ kv=>cst (some kv.2)):=e;rw[e2];rfl
abbrev Bg (m:Nat)(rs:List Road)(L:List Int)(A:LA)(K:List (Int×Int)):D:=.ins "Ladder" ["own_map","own_order","laid","kept_ones"] [Ac m rs,.lst (L.map D.int),Ss A,.lst (K.map pD)]
structure Bi (m:Nat)(rs:List Road)(L:List Int)(A:LA)(K:List (Int×Int)):Prop where
 m1:1<=m
 m2:m<=16
 rl:rs.length<=60
 ok:∀r∈rs,PL m r/\r.a≠r.b
 pm:L.Perm (Bu m)
 la:A=BC rs L
 kn:K.Nodup
 km:∀p,p∈K↔∃c,Ad A p=some c/\BG rs p.1 p.2 (some c)
def Bi.aok {K}(h:Bi m rs L A K):Ic m A:=by
 rw[h.la];exact (Mv h.pm h.ok).1
def Bi.fA {K}(h:Bi m rs L A K):Xm m rs (C5 L) (λ x y=>Ad A (x,y)):=by
 rw[h.la];exact (Mv h.pm h.ok).2
def Fb (h:Ad A p=some c):p∈A.map zb0:=by
 rw[<-Hl];unfold Ad at h;cases q:Ao A p with
 |none=>rw[q] at h;cases h
 |some z=>rfl
def Bi.Xi {K}(h:Bi m rs L A K)(hp:p∈K):p.1≠p.2/\(0<=p.1/\p.1<m)/\0<=p.2/\p.2<m:=by
 obtain⟨c,hc,_⟩:=(h.km p).mp hp;exact h.aok.rg p (Fb hc)
def Bi.kl {K}(h:Bi m rs L A K):K.length<1000:=
 Cy.len (m:=m) ⟨h.kn,λ x hx=>(h.Xi hx).1 rfl,λ q hq=>⟨(h.Xi hq).2.1,(h.Xi hq).2.2⟩⟩ (by have:=h.m2;omega)
abbrev Ig (A:LA)(K:List (Int×Int)):CA:=K.map λ p=>(p,(Ad A p).getD (0,0))
def QU (A:LA)(K:List (Int×Int)):(Ig A K).map zb0=K:=by
 unfold Ig;rw[zby];exact (List.map_congr_left λ p _=>rfl).trans (List.map_id K)
def Bi.kept {K}(h:Bi m rs L A K):Kept rs (λ x y=>Ad A (x,y)) (λ x y=>Ao (Ig A K) (x,y)):=λ x y c=>by
 have hn:((Ig A K).map zb0).Nodup:=by rw[QU];exact h.kn
 constructor
 ·intro hf;have hm:=QS hf;unfold Ig at hm;obtain⟨p,hp,e⟩:=zaq.mp hm;obtain⟨c',hc,aX⟩:=(h.km p).mp hp;rw[hc] at e;cases e;exact⟨hc,aX⟩
 ·rintro ⟨h1,h2⟩;refine UM hn ?_;unfold Ig;exact zaq.mpr ⟨(x,y),(h.km (x,y)).mpr ⟨c,h1,h2⟩,by rw[show Ad A (x,y)=some c from h1];rfl⟩
abbrev Su (C:CA):CA:=C.map λ kv=>((kv.1.2,kv.1.1),kv.2)
def dU (h:(C.map zb0).Nodup):((Su C).map zb0).Nodup:=by
 have e:(Su C).map zb0=(C.map zb0).map λ p=>(p.2,p.1):=by
  unfold Su;rw[zby,zby];rfl
 rw[e];exact (List.pairwise_map.mpr (h.imp fun {a b} lf e=>lf (by cases a;cases b;cases e;rfl)))
def Mw (x y:Int):∀C:CA,Ao (Su C) (x,y)=Ao C (y,x)
 |[]=>rfl
 |((a,b),c)::C=>by
  unfold Su;rw[za6,Ao,Ao];have:=Mw x y C;unfold Su at this;rw[this];by_cases h:a=y/\b=x
  ·rw[if_pos (by rw[h.1,h.2]),if_pos (by rw[h.1,h.2])]
  ·rw[if_neg (λ e=>h (by cases e;exact⟨rfl,rfl⟩)),if_neg (λ e=>h (by cases e;exact⟨rfl,rfl⟩))]
def ab6 (p q:Int×Int):jU (cst (some p)) (cst (some q))=.ok (.bl (decide (p.1<q.1\/(p.1=q.1/\p.2<q.2)))):=by
 rw[<-FZ];rfl
def QV (h:WP m (λ ρ=>IH ρ=some t/\OT.sh .Av=r) (λ o=>match o with | .FX r' ρ=>IH ρ=some t/\r'=r | _=>False) (λ _=>False)):F6 m=.ok (t,r):=by
 cases m with
 |bad|ex x=>exact h.elim
 |ok o =>
  cases o with
  |next ρ=>obtain⟨h1,h2⟩:=(show IH ρ=some t/\OT.sh .Av=r from h);unfold F6;dsimp only;rw[h1,<-h2]
  |FX r' ρ=>obtain⟨h1,h2⟩:=(show IH ρ=some t/\r'=r from h);unfold F6;dsimp only;rw[h1,<-h2]
  |ret d|CC d|brk d|cont d=>exact h.elim
def Ny (h:ρ[i]?=some (some (.ow (.tree p t))))(hN:W3 t=true)(hF:F t ar=.ok (t2,r)):NZ i F ρ [] ar=.ok (ρ.set i (some (toCl p t2)),r):=by
 rw[jF h rfl rfl hN hF,E6]
def EU:HI 0 (some (.ow (.tree p (OE A)))::ρ) []=.ok (true,A.map (λ kv=>pD kv.1),A.map λ kv=>Y9 kv.2):=Dy
def JZ:HI 0 (some (.ow (.tree p (Ye R)))::ρ) []=.ok (false,R.map (λ kv=>D.int kv.1),R.map λ kv=>cst (some kv.2)):=Dy
def Ic.ov (h:Ic m A){u w:Int}(hu:0<=u/\u<m)(hw:0<=w/\w<m):Ic m (PP p u A w):=by
 unfold PP;split
 ·exact h
 ·rename_i e;exact h.lay ⟨e,hu,hw⟩
def Ic.ou {m:Nat}{p u:Int}(hu:0<=u/\u<m):∀ {H:List Int}{A:LA},Ic m A->(∀x∈H,0<=x/\x<m)->Ic m (H.foldl (PP p u) A)
 |[],A,h,_=>h
 |w::H,A,h,hH=>by
  have r:=Ic.ou (A:=PP p u A w) (H:=H) (p:=p) hu (h.ov hu (hH w za3)) λ x hx=>hH x (za4 _ hx);exact r
def Fc {α β:Type}{f}{l:List α}{x}{b:β}(h:l[i]?=some x):(l.take (i+1)).foldl f b=f ((l.take i).foldl f b) x:=by
 rw[zc7,h,Option.toList_some,List.foldl_append];rfl
def Ic.lo {m:Nat}{p:Int}{H0:List Int}(h0:∀x∈H0,0<=x/\x<m):∀ {H:List Int}{A:LA},Ic m A->(∀x∈H,0<=x/\x<m)->Ic m (H.foldl (dQ p H0) A)
 |[],A,h,_=>h
 |w::H,A,h,hH=>by
  have r:=Ic.lo (p:=p) (A:=dQ p H0 A w) (H:=H) h0 (Ic.ou (hH w za3) h h0) λ x hx=>hH x (za4 _ hx);exact r
def PR (c:Co):Xl (.ok (.sh (cst c)))=.ok (.sh (cst c)):=by
 cases c<;>rfl
abbrev Rcb (a b:List Co×Bool):Prop:=b.2=true/\(a.2=false\/(a.2=true/\S7 ltN a.1 b.1))
def wW (x:List Co):Acc Rcb (x,false):=.intro _ λ y h=>by cases h.1
def wX (x:List Co):Acc Rcb (x,true):=by
 have:=dB x;induction this with
 |intro x _ ih =>
  refine .intro _ λ y h=>?_;obtain⟨y,b⟩:=y;rcases h.2 with e|⟨e,h2⟩
  ·dsimp only at e;subst e;exact wW y
  ·dsimp only at e;subst e;exact ih y h2
def Yh (n:Nat):CO 0 n=(Bu n).map D.int:=by rw[Qk,QO]
def F8.okR (h:F8 m r):PL m r/\r.a≠r.b:=⟨⟨h.a0,h.a1,h.b0,h.b1,λ l hl=>(h.l0 l hl).1⟩,h.ab⟩
abbrev KP (rs:List Road)(A:LA)(p:Int×Int):Prop:=∃c,Ad A p=some c/\BG rs p.1 p.2 (some c)
abbrev pkA (A:LA)(cs:List Co)(u w:Int):Bool:=match Ad A (u,w) with
 |none=>false
 |some c=>decide (some c=atC cs w)
def kS (hR:Right m s rs cs)(Aw:∀r∈rs,PL m r){w:Int}(h0:0<=w)(h1:w<m):pkA A cs s w=true↔KP rs A (s,w):=by
 have hm:=hR.sG Aw h0 h1;unfold pkA KP;cases q:Ad A ((s:Int),w) with
 |none=>simp
 |some c =>
  dsimp only;constructor
  ·intro h;have e:=of_decide_eq_true h;exact⟨c,rfl,e▸hm⟩
  ·rintro ⟨c',e,h⟩;cases e;exact decide_eq_true (h.Cj hm)
def wY {K:List (Int×Int)}(hA:Ic m A)(hm:m<=20)(hn:K.Nodup)(hK:∀p∈K,KP rs A p):K.length<1000:=by
 have hr:∀p∈K,p.1≠p.2/\(0<=p.1/\p.1<m)/\0<=p.2/\p.2<m:=λ p hp=>by
  obtain⟨c,hc,_⟩:=hK p hp;exact hA.rg p (Fb hc)
 exact Cy.len (m:=m) ⟨hn,λ x hx=>(hr _ hx).1 rfl,λ q hq=>⟨(hr q hq).2.1,(hr q hq).2.2⟩⟩ hm
def Nz:∀ds:List D,(∀d∈ds,Lu d=true)->HG (ds.map .sh)=true
 |[],_=>rfl
 |d::ds,h=>by
  rw[za6,HG,IC,h d za3,Nz ds λ x hx=>h x (za4 _ hx)];rfl
def Mx {ds:List D}(h:∀d∈ds,Lu d=true):Xl (.ok (.lst (ds.map .sh)))=.ok (.lst (ds.map .sh)):=by
 unfold Xl;simp only[M.A8];rw[IC,Nz ds h];rfl
def Ws (L:List Int):Xl (.ok (.lst ((L.map D.int).map .sh)))=.ok (.lst ((L.map D.int).map .sh)):=Mx λ d hd=>by
 obtain⟨x,_,rfl⟩:=zaq.mp hd;rfl
def qL (K:List (Int×Int)):Xl (.ok (.lst ((K.map pD).map .sh)))=.ok (.lst ((K.map pD).map .sh)):=Mx λ d hd=>by
 obtain⟨x,_,rfl⟩:=zaq.mp hd;exact kD x
def kT (cs:List Co):Xl (.ok (.lst ((cs.map cst).map .sh)))=.ok (.lst ((cs.map cst).map .sh)):=Mx λ d hd=>by
 obtain⟨x,_,rfl⟩:=zaq.mp hd;exact ZD x
def wZ (v:(Int×Int)×Option Int):Lu (Y9 v)=true:=by
 obtain⟨c,l⟩:=v;cases l<;>rfl
def qM (A:LA):Xl (.ok (OE A))=.ok (OE A):=by
 unfold Xl OE;simp only[M.A8];rw[IC,Nz _ λ d hd=>by
  obtain⟨x,_,rfl⟩:=zaq.mp hd;exact wZ x.2]
 rfl
def QW (hn:L.Nodup)(h:L[i]?=some x):C5 L x=i:=by
 have af:=(zaf.mp h).1;have e:L=L.take i++x::L.drop (i+1):=by
  have h2:L.drop i=x::L.drop (i+1):=by
   rw[zcl af];rw[za7 af] at h;rw[zao h]
  rw[<-h2,zcc]
 have hx:x∉L.take i:=λ hm=>by
  rw[e,zaw] at hn;exact hn.2.2 x hm x za3 rfl
 rw[e,ZG hx,zbh];omega
def ZH (hn:L.Nodup)(h:y∈L.drop i):i<=C5 L y:=by
 have hy:y∉L.take i:=λ hm=>by
  rw[<-zcc i L,zaw] at hn;exact hn.2.2 y hm y h rfl
 have h1:=UO (pre:=L.take i) (post:=L.drop i) hy;rw[zcc,zbh] at h1;have h2:L.drop i≠[]:=λ e=>by rw[e] at h;cases h
 have h3:i<L.length:=by
  rw[Ne,List.drop_eq_nil_iff] at h2;omega
 omega
def qN (h:y∈L)(hr:i<=C5 L y):y∈L.drop i:=by
 rw[<-zcc i L] at h;rcases zal.mp h with h|h
 ·have h1:=Yc (post:=L.drop i) h;rw[zcc,zbh] at h1;omega
 ·exact h
structure S9 (L:List Int)(C:CA)(s:Int)(i:Nat)(R:RA):Prop where
 nd:(R.map zb0).Nodup
 rg:∀k∈R.map zb0,k∈L
 st:C4 (Ao R s) (some (0,0))
 sd:∀y c,Ao R y=some c->Mt (λ x y=>Ao C (x,y)) (C5 L) s y c
 cl:∀x y,C5 L x<i->C5 L x<C5 L y->C4 (Ao R y) (AD (Ao R x) (Ao C (x,y)))
def S9.len (h:S9 L C s i R):R.length<=L.length:=by
 have:=Gq h.nd h.rg;rwa[za2] at this
structure sN (L:List Int)(C:CA)(s:Int)(i:Nat)(x:Int)(c0:Int×Int)(W:List Int)(R0 R:RA):Prop where
 nd:(R.map zb0).Nodup
 rg:∀k∈R.map zb0,k∈L
 sd:∀y c,Ao R y=some c->Mt (λ x y=>Ao C (x,y)) (C5 L) s y c
 le:∀y,C4 (Ao R y) (Ao R0 y)
 sm:∀y,C5 L y<=i->Ao R y=Ao R0 y
 cw:∀y∈W,C4 (Ao R y) (AD (some c0) (Ao C (x,y)))
def sN.put {R0}(h:sN L C s i x c0 W R0 R)(hy:y∈L)(hr:i<C5 L y)(hx:C5 L x=i)(oe:Ao R0 x=some c0)(hd:Ao C (x,y)=some d)(hv:HJ (Ao R y) (some (c0.1+d.1,c0.2+d.2))=some v):sN L C s i x c0 (W++[y]) R0 (CS R y v):=by
 have hle:C4 (some v) (Ao R y):=hv▸Hh _ _;refine⟨Nw h.nd,λ k hk=>(QR hk).elim (h.rg k) λ e=>e▸hy,λ z c hz=>?_,λ z=>?_,λ z hz=>?_,λ z hz=>?_⟩
 ·rw[EI] at hz;split at hz
  ·rename_i e;subst e;cases hz;rcases DB (Ao R z) (some (c0.1+d.1,c0.2+d.2)) with ⟨e,_⟩|⟨e,_⟩
   ·rw[hv] at e;exact h.sd z _ e.symm
   ·rw[hv] at e;cases e;have aD:=h.sd x c0 (by rw[h.sm x (by omega)];exact oe);exact .snoc aD (by omega) hd
  ·exact h.sd z c hz
 ·rw[EI];split
  ·rename_i e;subst e;exact AI hle (h.le z)
  ·exact h.le z
 ·rw[EI,if_neg (λ e=>by subst e;omega)];exact h.sm z hz
 ·rw[EI];split
  ·rename_i e;subst e;rw[hd];exact hv▸JY _ _
  ·rename_i e;rcases zal.mp hz with hz|hz
   ·exact h.cw z hz
   ·exact (e (za9.mp hz)).elim
def sN.skip {R0}(h:sN L C s i x c0 W R0 R)(hd:Ao C (x,y)=none):sN L C s i x c0 (W++[y]) R0 R:=
 ⟨h.nd,h.rg,h.sd,h.le,h.sm,λ z hz=>by
  rcases zal.mp hz with hz|hz
  ·exact h.cw z hz
  ·rw[za9.mp hz,hd];cases Ao R y<;>exact trivial⟩
def S9.go {R0}(hC:∀p c,Ao C p=some c->p.2∈L)(h0:S9 L C s i R0)(hx:L[i]?=some x)(hn:L.Nodup)(hc:Ao R0 x=some c0)(h:sN L C s i x c0 (L.drop (i+1)) R0 R):S9 L C s (i+1) R:=by
 have t7:=QW hn hx;refine⟨h.nd,h.rg,AI (h.le s) h0.st,h.sd,λ u y hu hy=>?_⟩;by_cases e:C5 L u<i
 ·rw[h.sm u (by omega)];exact AI (h.le y) (h0.cl u y e hy)
 ·have e2:C5 L u=i:=by omega
  have hi:=(zaf.mp hx).1;have t8:u∈L:=Yd (by omega);have eu:u=x:=UP t8 (zas hx) (by omega);subst eu;rw[h.sm u (by omega),hc];cases q:Ao C (u,y) with
  |none=>cases Ao R y<;>exact trivial
  |some d =>
   have:=h.cw y (qN (hC _ _ q) (by omega));rw[q] at this;exact this
def S9.skip (h0:S9 L C s i R)(hx:L[i]?=some x)(hn:L.Nodup)(hc:Ao R x=none):S9 L C s (i+1) R:=by
 have t7:=QW hn hx;refine⟨h0.nd,h0.rg,h0.st,h0.sd,λ u y hu hy=>?_⟩;by_cases e:C5 L u<i
 ·exact h0.cl u y e hy
 ·have hi:=(zaf.mp hx).1;have eu:u=x:=UP (Yd (by omega)) (zas hx) (by omega);subst eu;rw[hc];cases Ao C (u,y)<;>cases Ao R y<;>exact trivial
def S9.start (hs:s∈L):S9 L C s 0 [(s,(0,0))]:=by
 refine⟨by simp,λ k hk=>by simp at hk;rw[hk];exact hs,by simp[Ao,C4],λ y c h=>?_,λ x y h=>by omega⟩;simp only[Ao] at h;split at h
 ·rename_i e;subst e;cases h;exact .nil
 ·cases h
def S9.upC {m:Nat}(h:S9 L C s L.length R)(hC:∀p c,Ao C p=some c->p.1∈L/\p.2∈L):UpC (C5 L) (λ x y=>Ao C (x,y)) s (Ao R):=by
 refine⟨h.st,λ x y hr=>?_,h.sd⟩;cases q:Ao C (x,y) with
 |none=>cases Ao R x<;>cases Ao R y<;>exact trivial
 |some d =>
  have hx:C5 L x<L.length:=zan hr (kL L y);have:=h.cl x y hx hr;rw[q] at this;exact this
structure mD (m:Nat)(L:List Int)(C:CA)(s:Int)(R:RA)(W:List Int)(T:List Co):Prop where
 len:T.length=m
 no:∀x:Int,0<=x->x<m->x∉W->atC T x=none
 top:∀x∈W,C4 (atC T x) (Ao R x)
 cl:∀x∈W,∀y∈W,C5 L y<C5 L x->C4 (atC T y) (AD (atC T x) (Ao C (x,y)))
 sd:∀(x:Int) c,0<=x->x<m->atC T x=some c->∃t n c1 c2,Mt (λ x y=>Ao C (x,y)) (C5 L) s t c1/\UK (λ x y=>Ao C (x,y)) (C5 L) t n x c2/\c=(c1.1+c2.1,c1.2+c2.2)
def mD.step (hR:∀y c,Ao R y=some c->Mt (λ x y=>Ao C (x,y)) (C5 L) s y c)(h:mD m L C s R W T){y:Int}(t9:0<=y)(yd:y<m)(ub:y∉W)(hW:∀x∈W,(0<=x/\x<m)/\C5 L y<C5 L x):
 mD m L C s R (W++[y]) (T.set y.toNat (Ib (Ao R y::W.map λ x=>AD (atC T x) (Ao C (x,y))))):=by
 obtain⟨v,hv⟩:∃v,v=Ib (Ao R y::W.map λ x=>AD (atC T x) (Ao C (x,y))):=⟨_,rfl⟩;rw[<-hv];have bv:∀i:Int,0<=i->atC (T.set y.toNat v) i=if i=y then v else atC T i:=λ i hi=>UH t9 hi (by rw[h.len];exact yd)
 have c9:∀x∈W,x≠y:=λ x hx e=>ub (e▸hx);refine⟨by rw[zcd];exact h.len,λ x h0 h1 hx=>?_,λ x hx=>?_,λ x hx z hz hr=>?_,λ x c h0 h1 hx=>?_⟩
 ·rw[zal,not_or] at hx;rw[bv x h0,if_neg (λ e=>hx.2 (za9.mpr e))];exact h.no x h0 h1 hx.1
 ·rcases zal.mp hx with hx|hx
  ·rw[bv x (hW x hx).1.1,if_neg (c9 x hx)];exact h.top x hx
  ·have e:=za9.mp hx;subst e;rw[bv x t9,if_pos rfl,hv];exact PJ za3
 ·rcases zal.mp hx with aD|aD
  ·rcases zal.mp hz with c7|c7
   ·rw[bv x (hW x aD).1.1,if_neg (c9 x aD),bv z (hW z c7).1.1,if_neg (c9 z c7)];exact h.cl x aD z c7 hr
   ·have e:=za9.mp c7;rw[e] at hr ⊢;rw[bv x (hW x aD).1.1,if_neg (c9 x aD),bv y t9,if_pos rfl,hv];exact PJ (za4 _ (zaq.mpr ⟨x,aD,rfl⟩))
  ·have e:=za9.mp aD;rw[e] at hr;rcases zal.mp hz with c7|c7
   ·have:=(hW z c7).2;omega
   ·rw[za9.mp c7] at hr;omega
 ·rw[bv x h0] at hx;split at hx
  ·rename_i e;subst e;rw[hv] at hx;rcases Mm (Ao R x::W.map λ z=>AD (atC T z) (Ao C (z,x))) with e|e
   ·rw[e] at hx;cases hx
   ·rw[hx] at e;rcases zac.mp e with e|e
    ·exact⟨x,0,c,(0,0),hR x c e.symm,.nil,by simp⟩
    ·obtain⟨z,hz,e⟩:=zaq.mp e;obtain⟨p,q,e1,e2,rfl⟩:=ET e;obtain⟨t,n,c1,c2,g1,g2,rfl⟩:=h.sd z p (hW z hz).1.1 (hW z hz).1.2 e1;exact⟨t,n+1,c1,_,g1,.snoc g2 (hW z hz).2 e2,by simp only[zd6]⟩
  ·exact h.sd x c h0 h1 hx
def mD.start:mD m L C s R [] (zak m none):=by
 have ce:∀x:Int,atC (zak m none) x=none:=λ x=>by
  unfold atC;rw[zbc,zcq];split<;>rfl
 exact⟨by simp,λ x _ _ _=>ce x,(λ x hx=>by cases hx),(λ x hx=>by cases hx),λ x c _ _ h=>by rw[ce] at h;cases h⟩
noncomputable abbrev Ar:=Option ((Int×Int)×Option Int)
abbrev KQ (v:Ar)(c:Co)(mid:Option Int):Ar:=match c with
 |none=>v
 |some c=>(match v with
  |none=>some (c,mid)
  |some z=>if c.1<z.1.1\/(c.1=z.1.1/\c.2<z.1.2) then some (c,mid) else v)
def ZI (A:LA)(p q:Int×Int)(c:Co)(mid:Option Int):Ao (layA A p c mid) q=if q=p then KQ (Ao A p) c mid else Ao A q:=by
 unfold layA KQ;cases c with
 |none =>
  dsimp only;by_cases h:q=p
  ·rw[if_pos h,h]
  ·rw[if_neg h]
 |some c =>
  cases e:Ao A p with
  |none=>dsimp only;rw[EI]
  |some z =>
   dsimp only;by_cases hc:c.1<z.1.1\/(c.1=z.1.1/\c.2<z.1.2)
   ·rw[if_pos hc,if_pos hc,EI]
   ·rw[if_neg hc,if_neg hc];by_cases h:q=p
    ·rw[if_pos h,h,e]
    ·rw[if_neg h]
def Yi (p u w:Int)(A:LA)(x y:Int):Ao (PP p u A w) (x,y)=if x=u/\y=w/\x≠y then KQ (Ao A (x,y)) (AD (Ad A (x,p)) (Ad A (p,y))) (some p) else Ao A (x,y):=by
 unfold PP;by_cases e:u=w
 ·rw[if_pos e,if_neg (λ h=>h.2.2 (h.1.trans (e.trans h.2.1.symm)))]
 ·rw[if_neg e,ZI];by_cases h:(x,y)=(u,w)
  ·cases h;rw[if_pos rfl,if_pos ⟨rfl,rfl,e⟩]
  ·rw[if_neg h,if_neg (λ z=>h (by rw[z.1,z.2.1]))]
def kU {p u:Int}(hu:u≠p)(x y:Int):∀ {H:List Int}{A:LA},H.Nodup->p∉H->Ao (H.foldl (PP p u) A) (x,y)=if x=u/\y∈H/\x≠y then KQ (Ao A (x,y)) (AD (Ad A (x,p)) (Ad A (p,y))) (some p) else Ao A (x,y)
 |[],A,_,_=>by rw[List.foldl_nil,if_neg (λ h=>by cases h.2.1)]
 |w::H,A,hn,hp=>by
  rw[zbd] at hn;have uc:p≠w:=λ e=>hp (by rw[e];exact za3);have ye:p∉H:=λ e=>hp (za4 _ e);have c1:Ad (PP p u A w) (x,p)=Ad A (x,p):=by unfold Ad;rw[Yi,if_neg (λ h=>uc h.2.1)]
  have c2:Ad (PP p u A w) (p,y)=Ad A (p,y):=by unfold Ad;rw[Yi,if_neg (λ h=>hu h.1.symm)]
  rw[zam,kU hu x y hn.2 ye,c1,c2,Yi];by_cases h1:x=u
  ·by_cases h2:x=y
   ·rw[if_neg (λ h=>h.2.2 h2),if_neg (λ h=>h.2.2 h2),if_neg (λ h=>h.2.2 h2)]
   ·by_cases h3:y=w
    ·have h4:y∉H:=by rw[h3];exact hn.1
     rw[if_neg (λ h=>h4 h.2.1),if_pos ⟨h1,h3,h2⟩,if_pos ⟨h1,by rw[h3];exact za3,h2⟩]
    ·by_cases h4:y∈H
     ·rw[if_pos ⟨h1,h4,h2⟩,if_neg (λ h=>h3 h.2.1),if_pos ⟨h1,za4 _ h4,h2⟩]
     ·rw[if_neg (λ h=>h4 h.2.1),if_neg (λ h=>h3 h.2.1),if_neg (λ h=>by rcases zac.mp h.2.1 with z|z;exact h3 z;exact h4 z)]
  ·rw[if_neg (λ h=>h1 h.1),if_neg (λ h=>h1 h.1),if_neg (λ h=>h1 h.1)]
def Wt {p:Int}{H:List Int}(hn:H.Nodup)(hp:p∉H)(x y:Int):∀ {U:List Int}{A:LA},U.Nodup->p∉U->Ao (U.foldl (dQ p H) A) (x,y)=if x∈U/\y∈H/\x≠y then KQ (Ao A (x,y)) (AD (Ad A (x,p)) (Ad A (p,y))) (some p) else Ao A (x,y)
 |[],A,_,_=>by rw[List.foldl_nil,if_neg (λ h=>by cases h.1)]
 |u::U,A,hU,v5=>by
  rw[zbd] at hU;have v6:u≠p:=λ e=>v5 (by rw[e];exact za3);have yf:p∉U:=λ e=>v5 (za4 _ e);have at':∀x y,Ao (dQ p H A u) (x,y)=if x=u/\y∈H/\x≠y then KQ (Ao A (x,y)) (AD (Ad A (x,p)) (Ad A (p,y))) (some p) else Ao A (x,y):=λ x y=>kU v6 x y hn hp
  have c1:Ad (dQ p H A u) (x,p)=Ad A (x,p):=by unfold Ad;rw[at',if_neg (λ h=>hp h.2.1)]
  have c2:Ad (dQ p H A u) (p,y)=Ad A (p,y):=by unfold Ad;rw[at',if_neg (λ h=>v6 h.1.symm)]
  rw[zam,Wt hn hp x y hU.2 yf,c1,c2,at'];by_cases h2:y∈H/\x≠y
  ·by_cases h1:x=u
   ·have h3:x∉U:=by rw[h1];exact hU.1
    rw[if_neg (λ h=>h3 h.1),if_pos ⟨h1,h2⟩,if_pos ⟨by rw[h1];exact za3,h2⟩]
   ·by_cases h3:x∈U
    ·rw[if_pos ⟨h3,h2⟩,if_neg (λ h=>h1 h.1),if_pos ⟨za4 _ h3,h2⟩]
    ·rw[if_neg (λ h=>h3 h.1),if_neg (λ h=>h1 h.1),if_neg (λ h=>by rcases zac.mp h.1 with z|z;exact h1 z;exact h3 z)]
  ·rw[if_neg (λ h=>h2 h.2),if_neg (λ h=>h2 h.2),if_neg (λ h=>h2 h.2)]
def NA (hn:H.Nodup)(hp:p∉H)(A:LA)(x y:Int):Ao (qJ A p H) (x,y)=if x∈H/\y∈H/\x≠y then KQ (Ao A (x,y)) (AD (Ad A (x,p)) (Ad A (p,y))) (some p) else Ao A (x,y):=Wt hn hp x y hn hp
abbrev qO (A:LA)(x y:Int)(W:List Int)(v:Ar):Ar:=W.foldl (λ v p=>KQ v (AD (Ad A (x,p)) (Ad A (p,y))) (some p)) v
def QX {x y:Int}:∀ {L:List Int}{A:LA},L.Nodup->(x∉L\/y∉L)->Ao (S8 A L) (x,y)=Ao A (x,y)
 |[],A,_,_=>rfl
 |p::r,A,hn,h=>by
  rw[zbd] at hn;have h':x∉r\/y∉r:=h.imp (λ z w=>z (za4 _ w)) λ z w=>z (za4 _ w);rw[S8,QX hn.2 h',NA hn.2 hn.1,if_neg (λ z=>h'.elim (λ w=>w z.1) λ w=>w z.2.1)]
def ZJ {x y:Int}(ad:x≠y):∀ {L:List Int}{A:LA},L.Nodup->x∈L->y∈L->Ao (S8 A L) (x,y)=qO (S8 A L) x y (L.take (min (C5 L x) (C5 L y))) (Ao A (x,y))
 |[],A,_,h,_=>by cases h
 |p::r,A,hn,hx,hy=>by
  rw[zbd] at hn;have v7:∀z,z≠p->C5 (p::r) z=C5 r z+1:=λ z hz=>by show (if p=z then 0 else C5 r z+1)=_;rw[if_neg (zbm hz)]
  have v8:C5 (p::r) p=0:=by show (if p=p then 0 else C5 r p+1)=_;rw[if_pos rfl]
  rw[S8];by_cases h1:x=p
  ·rw[QX hn.2 (.inl (by rw[h1];exact hn.1)),NA hn.2 hn.1,if_neg (λ z=>hn.1 (by rw[<-h1];exact z.1)),h1,v8,Nat.zero_min];rfl
  by_cases h2:y=p
  ·rw[QX hn.2 (.inr (by rw[h2];exact hn.1)),NA hn.2 hn.1,if_neg (λ z=>hn.1 (by rw[<-h2];exact z.2.1)),h2,v8,Nat.min_zero];rfl
  have n6:x∈r:=(zac.mp hx).resolve_left h1;have nk:y∈r:=(zac.mp hy).resolve_left h2;have e1:Ad (S8 (qJ A p r) r) (x,p)=Ad A (x,p):=by unfold Ad;rw[QX hn.2 (.inr hn.1),NA hn.2 hn.1,if_neg (λ z=>hn.1 z.2.1)]
  have e2:Ad (S8 (qJ A p r) r) (p,y)=Ad A (p,y):=by unfold Ad;rw[QX hn.2 (.inl hn.1),NA hn.2 hn.1,if_neg (λ z=>hn.1 z.1)]
  have et:(p::r).take (min (C5 (p::r) x) (C5 (p::r) y))=p::r.take (min (C5 r x) (C5 r y)):=by
   rw[v7 x h1,v7 y h2,Nat.add_min_add_right,List.take_succ_cons]
  rw[et,ZJ ad hn.2 n6 nk,NA hn.2 hn.1,if_pos ⟨n6,nk,ad⟩];unfold qO;rw[zam,e1,e2]
def dW (hn:L.Nodup)(hx:x∈L)(hy:y∈L)(ad:x≠y):Ao (BC rs L) (x,y)=qO (BC rs L) x y (L.take (min (C5 L x) (C5 L y))) (Ao (lay0 rs) (x,y)):=ZJ ad hn hx hy
def ZK (rs:List Road):∀x y c mid,Ao (lay0 rs) (x,y)=some (c,mid)->mid=none/\∃r∈rs,r.a=x/\r.b=y/\Cv r=some c:=by
 unfold lay0;have:=Gw (L:=rs) (pre:=[]) (f:=λ A r=>layA A (r.a,r.b) (Cv r) none) (b:=[]) (λ _ A=>∀x y c mid,Ao A (x,y)=some (c,mid)->mid=none/\∃r∈rs,r.a=x/\r.b=y/\Cv r=some c) (λ _ _ _ _ h=>by cases h) λ r hr W B hB x y c mid h=>by
  rw[ZI] at h;by_cases e:(x,y)=(r.a,r.b)
  ·cases e;rw[if_pos rfl] at h;unfold KQ at h;cases q:Cv r with
   |none=>rw[q] at h;exact hB _ _ _ _ h
   |some d =>
    rw[q] at h;dsimp only at h;split at h
    ·cases h;exact⟨rfl,r,hr,rfl,rfl,q⟩
    ·rename_i z hz;split at h
     ·cases h;exact⟨rfl,r,hr,rfl,rfl,q⟩
     ·exact hB _ _ _ _ h
  ·rw[if_neg e] at h;exact hB _ _ _ _ h
 exact this
abbrev kW (v:Ar):Co:=v.map zb0
def qP (v:Ar)(c:Co)(mid:Option Int):kW (KQ v c mid)=HJ (kW v) c:=by
 unfold KQ kW;cases c with
 |none=>cases v<;>rfl
 |some c =>
  cases v with
  |none=>rfl
  |some z =>
   dsimp only;simp only[zbg,HJ,wH];by_cases hc:c.1<z.1.1\/(c.1=z.1.1/\c.2<z.1.2)
   ·rw[if_pos hc,if_neg (by omega)];rfl
   ·rw[if_neg hc,if_pos (by omega)];rfl
structure Fd (cd:Int->Co)(v0:Ar)(W:List Int)(v:Ar):Prop where
 le0:C4 (kW v) (kW v0)
 lec:∀p∈W,C4 (kW v) (cd p)
 Av:∀c,v=some (c,none)->v0=some (c,none)
 mid:∀c p,v=some (c,some p)->(∃W1 W2,W=W1++p::W2/\cd p=some c/\∀q∈W1,cd q≠some c)/\kW v0≠some c
def xA (h0:∀c p,v0≠some (c,some p))(W:List Int):Fd cd v0 W (W.foldl (λ v p=>KQ v (cd p) (some p)) v0):=by
 have:=Gw (L:=W) (pre:=[]) (f:=λ v p=>KQ v (cd p) (some p)) (b:=v0) (λ W v=>Fd cd v0 W v) ⟨CF _,(λ p hp=>by cases hp),λ c h=>h,λ c p h=>absurd h (h0 c p)⟩ λ p hp W v hv=>by
  have lg:=qP v (cd p) (some p);refine⟨?_,λ q hq=>?_,λ c h=>?_,λ c q h=>?_⟩
  ·rw[lg];exact AI (Hh _ _) hv.le0
  ·rw[lg];rcases zal.mp hq with hq|hq
   ·exact AI (Hh _ _) (hv.lec q hq)
   ·rw[za9.mp hq];exact JY _ _
  ·unfold KQ at h;split at h
   ·exact hv.Av c h
   ·split at h
    ·cases h
    ·rename_i z;split at h
     ·cases h
     ·exact hv.Av c h
  ·have keep:v=some (c,some q)->(∃W1 W2,W++[p]=W1++q::W2/\cd q=some c/\∀q∈W1,cd q≠some c)/\kW v0≠some c:=λ h=>by
    obtain⟨⟨W1,W2,e1,e2,e3⟩,e4⟩:=hv.mid c q h;exact⟨⟨W1,W2++[p],by rw[e1];simp,e2,e3⟩,e4⟩
   have new:∀d:Int×Int,cd p=some d->(∀z,kW v=some z->d.1<z.1\/(d.1=z.1/\d.2<z.2))->(∃W1 W2,W++[p]=W1++p::W2/\cd p=some d/\∀q∈W1,cd q≠some d)/\kW v0≠some d:=λ d hd af=>by
    have no:∀o:Co,C4 (kW v) o->o≠some d:=λ o ho e=>by
     subst e;obtain⟨z,hz,hle⟩:=QQ ho;have:=af z hz;simp only[PN] at hle;omega
    exact⟨⟨W,[],rfl,hd,λ q hq=>no _ (hv.lec q hq)⟩,no _ hv.le0⟩
   unfold KQ at h;split at h
   ·exact keep h
   ·rename_i c' hd;split at h
    ·cases h;exact new _ hd λ z hz=>by cases hz
    ·rename_i z;split at h
     ·rename_i hc;cases h;exact new _ hd λ z' hz=>by cases hz;exact hc
     ·exact keep h
 exact this
section
variable {m:Nat}
def Wu (hn:L.Nodup)(h:x∈L.take k):x∈L/\C5 L x<k:=by
 obtain⟨i,hi⟩:=List.mem_iff_getElem?.mp h;rw[List.getElem?_take] at hi;split at hi
 ·rename_i hk;exact⟨zas hi,by rw[QW hn hi];exact hk⟩
 ·cases hi
end
def xB (ha:0<=a/\a<Tu)(hb:0<=b/\b<Tu)(h0:0<=i)(h1:i<2):∃w:Int,AB (.lst [.int a,.int b]) (.int i)=.ok (.int w)/\0<=w/\w<Tu:=by
 have hi:i=0\/i=1:=by omega
 rcases hi with rfl|rfl
 ·exact⟨a,rfl,ha⟩
 ·exact⟨b,rfl,hb⟩
def qQ {α:Type}{a b c d e f g h:D}{x y:α}:(if [a,b,c,d,e,f,g,h].length<=1000 then x else y)=x:=if_pos (by simp)
def ZL (r:Road):dp (.ok (Bx r))=.ok (Bx r):=by
 obtain⟨a,b,l,w⟩:=r;cases l<;>rfl
def UU (i:Int):dp (.ok (.int i))=.ok (.int i):=rfl
def qR (cs:List Co):Pl 16 (.lst (cs.map cst)):=(Ql (n:=1) λ d hd=>by
 obtain⟨c,_,rfl⟩:=zaq.mp hd;exact QM (n:=0) c).le (by decide)
def Inv.freeze (I:Inv X pins σ H s)(e:H a=some (.dK kvs)):
 ∃o,s.heap.get? a=some o/\Inv X pins σ (upd H a (.HC o (.dK kvs))) s:=by
 obtain⟨z,y,vs,r,o,es,ep,ho,c⟩:=(show Bo X.prog X.w H s.heap a (.dK kvs) from I.Aw a _ e);have ne:∀b u,H b=some u->u≠.dK kvs->b≠a:=λ b u q n hb=>n (by rw[hb,e] at q;exact (zao q).symm);have Aw:HE X.prog X.w (upd H a (.HC o (.dK kvs))) s.heap:=λ b u q=>by
  by_cases hb:b=a
  ·subst hb;rw[An] at q;cases q;exact⟨ho,⟨z,y,vs,r,o,es,ep,ho,c⟩⟩
  ·rw[Ai hb] at q;exact (I.Aw b u q).Sb (λ _ _ _ w=>w) (λ d w=>by rw[Ai (ne d _ w (λ z=>by cases z))];exact w) λ d xs w=>by rw[Ai (ne d _ w (λ z=>by cases z))];exact w
 refine⟨o,ho,?_⟩;have:=I.step (g':=s.gens) (d':=s.drawn) (t':=s.toks) (ch:=[]) (h':=s.heap) (H':=upd H a (.HC o (.dK kvs))) (λ b hb=>by cases hb) (λ _ _ _ _ _ q _=>q) (λ b o _ _ _ q _=>⟨o.slots,q⟩) (λ b o _ _ n=>by rw[Ai (λ z=>by rw[z,e] at n;cases n)];exact n)
  (λ b o _ q=>⟨o,q⟩) (λ b xs q=>by rw[Ai (ne b _ q (λ z=>by cases z))];exact q) (λ b o u q=>by rw[Ai (ne b _ q (λ z=>by cases z))];exact q) (λ b ps q=>⟨#[],by rw[Ai (ne b _ q (λ z=>by cases z)),q];simp⟩) (λ _ q=>q) Aw I.bare
 exact this
def Inv.aaG (I:Inv X pins σ H s)(e:H a=some (.dK kvs)):∀o u,X.H₀ a≠some (.HC o u):=λ o u q=>by
 rw[I.base.Oy a o u q] at e;cases e
def Inv.kX (I:Inv X pins σ H s)(e:H a=some (.HC o (.dK kvs)))(n0:∀o u,X.H₀ a≠some (.HC o u)):Inv X pins σ (upd H a (.dK kvs)) s:=by
 have ne:∀b u,H b=some u->u≠.HC o (.dK kvs)->b≠a:=λ b u q n hb=>n (by rw[hb,e] at q;exact (zao q).symm);have nn:∀b,H b=none->b≠a:=λ b q hb=>by rw[hb,e] at q;cases q
 refine⟨I.ok,I.os,I.bare,⟨I.base.keep,I.base.slot,λ b ob q n hx=>?_,I.base.there,λ b xs q=>?_,λ b ob u q=>?_,λ b ps q=>?_⟩,I.loc,I.cell,?_,λ x c h=>?_,λ p hp=>?_,λ b u q=>?_,I.len⟩
 ·have:=I.base.free b ob q n hx;rw[Ai (nn b this)];exact this
 ·have:=I.base.Sd b xs q;rw[Ai (ne b _ this (λ z=>by cases z))];exact this
 ·by_cases hb:b=a
  ·subst hb;exact absurd q (n0 ob u)
  ·rw[Ai hb];exact I.base.Oy b ob u q
 ·obtain⟨m,h⟩:=I.base.Se b ps q;exact⟨m,by rw[Ai (ne b _ h (λ z=>by cases z))];exact h⟩
 ·rw[Ai (nn _ I.free)];exact I.free
 ·rw[Ai (nn _ (I.Ga x c h))];exact I.Ga x c h
 ·obtain⟨h1,h2,h3⟩:=I.pin p hp;exact⟨h1,by rw[Ai (nn _ h2)];exact h2,h3⟩
 ·by_cases hb:b=a
  ·subst hb;rw[An] at q;cases q;obtain⟨h1,z,y,vs,r,ob,es,ep,ho,c⟩:=(show Bo X.prog X.w H s.heap b (.HC o (.dK kvs)) from I.Aw b _ e);exact⟨z,y,vs,r,ob,es,ep,ho,c⟩
  ·rw[Ai hb] at q;exact (I.Aw b u q).Sb (λ _ _ _ w=>w) (λ d w=>by rw[Ai (ne d _ w (λ z=>by cases z))];exact w) λ d xs w=>by rw[Ai (ne d _ w (λ z=>by cases z))];exact w
def dX:∀ {k:Key}{u:Value},PX k u=true->RelV (kV k) u
 | .inl i,u,h=>by
  obtain⟨t,e⟩:=Value.isInt_shape (k:=i) (v:=u) h;exact⟨t,e⟩
 | .inr x,u,h=>by
  obtain⟨t,e⟩:=Value.isStrOf_shape (x:=x) (v:=u) h;exact⟨t,e⟩
def KV.get (r:KV kvs vs){i:Nat}{k:Key}(h:vs[i]?=some (k,x)):∃v,kvs[i]?=some (k,v):=by
 induction r generalizing i with
 |nil=>cases h
 | @cons p q ps qs hd tl ih =>
  cases i with
  |zero =>
   rw[zbz] at h;cases h;have ep:p=(k,p.2):=Prod.ext hd.1 rfl;exact⟨p.2,by rw[zbz,<-ep]⟩
  |succ i=>rw[zaz] at h ⊢;exact ih h
abbrev Itd (a:Addr)(o:Obj)(kvs:List (Key×V)):It:=
 ⟨λ i H=>H a=some (.HC o (.dK kvs))/\i<kvs.length,λ i H v H'=>H'=H/\∃kv,kvs[i]?=some kv/\v=kV kv.1,λ i H=>H a=some (.HC o (.dK kvs))/\kvs.length<=i⟩
def dY {K}(a it:Addr)(o:Obj)(kvs:List (Key×V))(vs:List (Key×Value))(ep:Nat)(hD:∀h:Heap,h.get? a=some o->h.DictAt (AN P w) a vs ep)(lh:KV kvs vs)(ad:a≠it):
 Turn P w K tg (Itd a o kvs) [it] it (λ i h=>i<=kvs.length/\h.IsKeyIter it a i kvs.length ep) where
 mem:=by simp
 obj:=λ i h st b hb=>by
  have e:b=it:=by simpa using hb
  subst e;obtain⟨_,o,e,c,d⟩:=st;exact⟨o,e,λ v z=>by rw[d] at z;cases z⟩
 keep:=λ i h h' st k=>⟨st.1,st.2.at λ o e=>k it (by simp) o e⟩
 item:=by
  intro X hP hw hK hc i pins s σ H E I hf st hg;subst hP hw hK;obtain⟨he,hi⟩:=hg;have hlen:kvs.length=vs.length:=zcx lh;have im:s.heap.get? a=some o:=(show Bo X.prog X.w H s.heap a (.HC o (.dK kvs)) from I.Aw a _ he).1;obtain⟨f0,f1,f2,f3,f4,f5⟩:=hf it (by simp);have W:=Walks.dictKeys (prog:=X.prog) (w:=X.w) (knd:=AN X.prog X.w) (A:=X.A) (I.ok.hd hc) it a ad vs ep;refine W.item i s _ _ (by omega) ⟨by rw[<-hlen];exact st.2,hD _ im⟩ λ v h' tk hv bc kp=>?_;obtain⟨k,x,hk,yg⟩:=hv;obtain⟨v',js⟩:=lh.get hk;have I1:Inv X pins σ H {s with heap:=h',toks:=tk}:=I.turned (t':=tk) (λ b o hb e=>kp b o (by simpa using hb) e) f0 f1 f3 f4 f5;obtain⟨ob,e,c,d⟩:=id bc.1;exact⟨v,rfl,Vs (s:={s with heap:=h',toks:=tk}) e c d (by decide) ⟨kV k,H,I1,dX yg,⟨rfl,_,js,rfl⟩,⟨hi,by rw[hlen];exact bc.1⟩,λ b hb=>(hf b hb).1⟩⟩
 done:=by
  intro X hP hw hK hc i pins s σ H E I hf st hg;subst hP hw hK;obtain⟨he,hi⟩:=hg;have hlen:kvs.length=vs.length:=zcx lh;have im:s.heap.get? a=some o:=(show Bo X.prog X.w H s.heap a (.HC o (.dK kvs)) from I.Aw a _ he).1;obtain⟨f0,f1,f2,f3,f4,f5⟩:=hf it (by simp);have W:=Walks.dictKeys (prog:=X.prog) (w:=X.w) (knd:=AN X.prog X.w) (A:=X.A) (I.ok.hd hc) it a ad vs ep;have tw:i=vs.length:=by have:=st.1;omega
  subst tw;exact W.done s _ _ ⟨by rw[<-hlen];rw[<-hlen] at st;exact st.2,hD _ im⟩ λ h' tk kp=>⟨rfl,I.turned (t':=tk) (λ b o hb e=>kp b o (by simpa using hb) e) f0 f1 f3 f4 f5⟩
 self:=λ _ _ _ _ _ st h=>wpAny_pyIter_keyiter st.2 h
section
variable {f g:Ah->M D}{p:Pos}{te:TE}
abbrev aaI (H0:Hp)(te:TE):TI:=λ σ H R=>te σ H λ v H1=>∃a kvs,v=.ref a/\((H1 a=some (.dK kvs)/\∀o,(∀o u,H0 a≠some (.HC o u))->R (Itd a o kvs) (upd H1 a (.HC o (.dK kvs))))\/∃o,H1 a=some (.HC o (.dK kvs))/\R (Itd a o kvs) H1)
def qS (ha:PE X e te):PI X tg e (aaI X.H₀ te):=by
 intro pins s σ H R I h;refine B9 (ha pins s σ H _ I h) λ v s1 zz=>?_;obtain⟨x,H1,I1,r1,q1⟩:=zz;obtain⟨a,kvs,rfl,q⟩:=q1;cases r1;have fin:∀(H2:Hp) (o:Obj),Inv X pins σ H2 s1->H2 a=some (.HC o (.dK kvs))->R (Itd a o kvs) H2->wpAny (model X.prog X.w) X.A (pyIter (.ref a)) (PIE X pins σ tg R) X.xe s1:=λ H2 o I2 e2 q2=>by
  obtain⟨im,z,y,vs,r,ob,es,ep,ho,c⟩:=(show Bo X.prog X.w H2 s1.heap a (.HC o (.dK kvs)) from I2.Aw a _ e2);have eo:o=ob:=zao (im.symm.trans ho);subst eo;have hD:∀h:Heap,h.get? a=some o->h.DictAt (AN X.prog X.w) a vs ep:=λ h q=>⟨o,es,q,c⟩;have hlen:kvs.length=vs.length:=zcx r;refine wpAny_pyIter_dict y (hD _ im) ?_;refine⟨s1.heap.objs.size,[s1.heap.objs.size],_,_,H2,rfl,I2.kept (t':=s1.toks) λ b o e=>zaa _ e,dY a _ o kvs vs ep hD r (zar (zaj im)),⟨zbb _,_,zap _ rfl,rfl,by rw[hlen];rfl⟩,λ b hb=>?_,q2⟩;have e:b=s1.heap.objs.size:=by simpa using hb
  subst e;exact I2.Xp (zag _) (I2.Aw.fresh (zag _))
 rcases q with ⟨e1,q⟩|⟨o,e1,q⟩
 ·obtain⟨o,ho,I2⟩:=I1.freeze e1;exact fin _ o I2 An (q o (I1.aaG e1))
 ·exact fin H1 o I1 e1 q
end
abbrev Rz (H H':Hp):Prop:=∀b u,H b=some u->H' b=some u\/(∃o kvs,u=.HC o (.dK kvs)/\H' b=some (.dK kvs))\/∃o kvs,u=.dK kvs/\H' b=some (.HC o (.dK kvs))
def Rz.tup (e:Rz H H')(h:H a=some (.tup xs)):H' a=some (.tup xs):=by
 rcases e _ _ h with q|⟨o,k,q,_⟩|⟨o,k,q,_⟩
 ·exact q
 ·cases q
 ·cases q
def Rz.dT (e:Rz H H')(h:Rd H a (.dT kvs)):Rd H' a (.dT kvs):=by
 rcases h with h|⟨o,h⟩
 ·rcases e _ _ h with q|⟨o,k,q,_⟩|⟨o,k,q,_⟩
  ·exact .inl q
  ·cases q
  ·cases q
 ·rcases e _ _ h with q|⟨o,k,q,_⟩|⟨o,k,q,_⟩
  ·exact .inr ⟨_,q⟩
  ·cases q
  ·cases q
def Rz.dK (e:Rz H H')(h:Rd H a (.dK kvs)):Rd H' a (.dK kvs):=by
 rcases h with h|⟨o,h⟩
 ·rcases e _ _ h with q|⟨o,k,q,_⟩|⟨o,k,q,r⟩
  ·exact .inl q
  ·cases q
  ·cases q;exact .inr ⟨_,r⟩
 ·rcases e _ _ h with q|⟨o,k,q,r⟩|⟨o,k,q,_⟩
  ·exact .inr ⟨_,q⟩
  ·cases q;exact .inl r
  ·cases q
def Rz.ins (e:Rz H H')(h:H a=some (.ins C dx fs)):H' a=some (.ins C dx fs):=by
 rcases e _ _ h with q|⟨o,k,q,_⟩|⟨o,k,q,_⟩
 ·exact q
 ·cases q
 ·cases q
def Rz.seq {K}(e:Rz H H')(h:DU K H a xs):DU K H' a xs:=by
 rcases h with (h|⟨o,h⟩)|h
 ·rcases e _ _ h with q|⟨o,k,q,_⟩|⟨o,k,q,_⟩
  ·exact .inl (.inl q)
  ·cases q
  ·cases q
 ·rcases e _ _ h with q|⟨o,k,q,_⟩|⟨o,k,q,_⟩
  ·exact .inl (.inr ⟨_,q⟩)
  ·cases q
  ·cases q
 ·exact .inr h
mutual
theorem BQ.rz {K:za1}{H H':Hp}(e:Rz H H'):∀ {v:V}{d:D},BQ K H v d->BQ K H' v d:=by
 intro _ _ x_;cases x_ with
 |Av=>exact .Av
 |bl b=>exact .bl b
 |int i=>exact .int i
 |str x=>exact .str x
 |tup h r=>exact .tup (e.tup h) (Ak.rz e r)
 |lst h r=>exact .lst (e.seq h) (Ak.rz e r)
 |Vf h r=>exact .Vf (e.dK h) (Ak.rz e r)
 |VN h r=>exact .VN (e.dT h) (Ak.rz e r)
 |ins n h r=>exact .ins n (e.ins h) (Ak.rz e r)
 |N5 h r=>exact .N5 h r
theorem Ak.rz {K:za1}{H H':Hp}(e:Rz H H'):∀ {vs:List V}{ds:List D},Ak K H vs ds->Ak K H' vs ds:=by
 intro _ _ x_;cases x_ with
 |nil=>exact .nil
 |cons h t=>exact .cons (BQ.rz e h) (Ak.rz e t)
end
mutual
theorem C6.rz {K:za1}{H H':Hp}{P P':Addr->Prop}(sm:Rz (del H P) (del H' P')):∀ {v:V}{t:OT}{fp:List Addr},(∀a∈fp,H' a=H a)->C6 K H P v t fp->C6 K H' P' v t fp:=by
 intro _ _ _ k x_;cases x_ with
 |sh h=>exact .sh (h.rz sm)
 |lst h r=>exact .lst ((k _ za3).trans h) (Ax.rz sm (λ a ha=>k a (za4 _ ha)) r)
 |tup h r=>exact .tup (sm.tup h) (Ax.rz sm k r)
 |dK h r=>exact .dK ((k _ za3).trans h) (Ax.rz sm (λ a ha=>k a (za4 _ ha)) r)
 |dT h r=>exact .dT ((k _ za3).trans h) (Ax.rz sm (λ a ha=>k a (za4 _ ha)) r)
 |ins n h r=>exact .ins n ((k _ za3).trans h) (Ax.rz sm (λ a ha=>k a (za4 _ ha)) r)
theorem Ax.rz {K:za1}{H H':Hp}{P P':Addr->Prop}(sm:Rz (del H P) (del H' P')):∀ {v:List V}{t:List OT}{fp:List Addr},(∀a∈fp,H' a=H a)->Ax K H P v t fp->Ax K H' P' v t fp:=by
 intro _ _ _ k x_;cases x_ with
 |nil=>exact .nil
 |cons h r=>exact .cons (C6.rz sm (λ a ha=>k a (zb4 _ ha)) h) (Ax.rz sm (λ a ha=>k a (zad _ ha)) r)
end
def Df.rz {K:za1}{H H':Hp}{P P':Addr->Prop}(sm:Rz (del H P) (del H' P')):∀ {ps:List Addr}{GR:List (List D)},(∀a∈ps,H' a=H a)->Df K H P ps GR->Df K H' P' ps GR:=by
 intro _ _ k x_;cases x_ with
 |nil=>exact .nil
 |cons h r t=>exact .cons ((k _ za3).trans h) (r.rz sm) (Df.rz sm (λ a ha=>k a (za4 _ ha)) t)
def Dd.rz {K}(sm:Rz (del H P) (del H' P'))(k:∀a∈fp,H' a=H a)(h:Dd K H P c v fp):Dd K H' P' c v fp:=by
 cases c with
 |val d=>exact h
 |own ds =>
  obtain⟨p,xs,rfl,rfl,h1,h2⟩:=h;exact⟨p,xs,rfl,rfl,(k p za3).trans h1,h2.rz sm⟩
 |ow o =>
  cases o with
  |rows GR =>
   obtain⟨p,ps,rfl,rfl,h1,h2⟩:=h;exact⟨p,ps,rfl,rfl,(k p za3).trans h1,h2.rz sm λ a ha=>k a (za4 _ ha)⟩
  |OB p ds =>
   obtain⟨p,xs,rfl,rfl,h1,h2⟩:=h;exact⟨p,xs,rfl,rfl,(k p za3).trans h1,h2.rz sm⟩
  |tree p t=>exact C6.rz sm k h
def Am.rz {K}(E:Am K P0 P H σ ρ)(k:∀a,P a->H' a=H a)(sm:Rz (del H P) (del H' P)):Am K P0 P H' σ ρ:=by
 have key:∀(j:Nat) (d:Cl) (w:V) (fq:List Addr),ρ[j]?=some (some d)->σ[j]?=some (some w)->Dd K H' P d w fq->Dd K H P d w fq:=λ j d w fq hk sk ho=>by
  have io:GU d=true:=by cases d<;>first|rfl|exact ho.elim
  obtain⟨w',b9,s2,o2,h3,_⟩:=E.ows j d hk io;rw[sk] at s2;cases s2;have o3:=o2.rz sm λ a ha=>k a (h3 a ha).1;rw[ho.Cj o3];exact o2
 exact⟨E.sub,λ a h=>by obtain⟨o,z,y⟩:=E.Cb a h;exact⟨o,(k a h).trans z,y⟩,λ i d h=>let ⟨v,h1,h2⟩:=E.val i d h;⟨v,h1,h2.rz sm⟩,
  λ i c h io=>let ⟨v,fp,h1,h2,h3,h4⟩:=E.ows i c h io;⟨v,fp,h1,h2.rz sm λ a ha=>k a (h3 a ha).1,h3,h4⟩,
  λ i j c c' v v' fp ah hi hj si sj h h' ad=>E.apart i j c c' v v' fp ah hi hj si sj (key i c v fp hi si h) (key j c' v' ah hj sj h') ad,E.len,E.pin⟩
abbrev Fz (H0:Hp)(H H':Hp):Prop:=H'=H\/∃a o kvs,H a=some (.dK kvs)/\H'=upd H a (.HC o (.dK kvs))/\∀o u,H0 a≠some (.HC o u)
abbrev Uz (H0:Hp)(H H':Hp):Prop:=H'=H\/∃a o kvs,H a=some (.HC o (.dK kvs))/\H'=upd H a (.dK kvs)/\∀o u,H0 a≠some (.HC o u)
def Inv.uz (I:Inv X pins σ H s)(u:Uz X.H₀ H H'):Inv X pins σ H' s:=by
 rcases u with rfl|⟨a,o,kvs,e,rfl,n0⟩
 ·exact I
 ·exact I.kX e n0
abbrev tUz (H0:Hp)(t:TE):TE:=λ σ H Q=>t σ H λ v H2=>∃H3,Uz H0 H2 H3/\Q v H3
def aaJ (h:PE X e t):PE X e (tUz X.H₀ t):=by
 intro pins s σ H Q I q;refine B9 (h pins s σ H _ I q) λ v s1 zz=>?_;obtain⟨x,H1,I1,r1,q1⟩:=zz;obtain⟨H3,u,q⟩:=q1;exact⟨x,H3,I1.uz u,r1,q⟩
abbrev DIK (X:Cx)(WX:Str->Hp->Prop)(tg iter:Expr)(f:Ah->M (List D)):Prop:=
 ∃wi,PI X tg iter wi/\∀P0 P σ H R ρ,Am X.K P0 P H σ ρ->(match f ρ with | .ok ds=>∀J H1 H',Aj H H1->Fz X.H₀ H1 H'->(∀b,P b->H' b=H1 b)->Rz (del H1 P) (del H' P)->XR X.K J P H' ds->R J H' | .ex x=>∀H',Aj H H'->WX x H' | .bad=>False)->wi σ H R
abbrev xC (d:D):M (List D):=match d with | .BE false ks _=>.ok ks | _=>.bad
def qT {K}:∀k:Key,BQ K H (kV k) (Cz k)
 | .inl i=>.int i
 | .inr x=>.str x
def kY {K}(nP:¬ P a)(e:H a=some (.HC o (.dK kvs))):XR K (Itd a o kvs) P H (kvs.map λ kv=>Cz kv.1):=by
 have at':∀ {P':Addr->Prop} {H':Hp},Aj (del H P) (del H' P')->H' a=some (.HC o (.dK kvs)):=λ s=>(Al (s a _ (by rw[AG nP];exact e))).2;refine⟨λ i P' H' s hi=>⟨at' s,by rw[za2] at hi;exact hi⟩,λ i P' H' s hi=>⟨at' s,by rw[za2] at hi;exact hi⟩,λ i P' H' v d0 d s ht hd y=>?_⟩;obtain⟨rfl,kv,hk,rfl⟩:=y;rw[zax,hk] at hd;cases hd;exact⟨Aj.refl _,qT _⟩
section
variable {c:Bool}{P:Addr->Prop}{H:Hp}{a b:Expr}{f g:Ah->M D}{fs:Ah->M (List D)}
def qU (ha:DE X WX true e f):DIK X WX tg e (λ ρ=>(f ρ).bind xC):=by
 obtain⟨ta,a1,a2⟩:=ha;refine⟨_,qS a1,λ P0 P σ H R ρ E h=>?_⟩;dsimp only at h;refine a2 P0 P σ H _ ρ E ?_;cases q:f ρ with
 |bad|ex x=>rw[q] at h;exact h
 |ok d =>
  rw[q] at h;simp only[M.A8] at h;unfold xC at h;cases d with
  |BE t ks vs =>
   intro v H1 s1 hv;cases hv with
   | @Vf a kvs _ hh hl =>
    rcases hh with hh|⟨o,hh⟩
    ·obtain⟨nP,ea⟩:=Al hh;refine⟨a,kvs,rfl,.inl ⟨ea,λ o n0=>h _ H1 _ s1 (.inr ⟨a,o,kvs,ea,rfl,n0⟩) (λ b hb=>Ai λ z=>nP (by rw[<-z];exact hb)) (λ b u q=>?_) (kY nP An)⟩⟩;obtain⟨n,q'⟩:=Al q;by_cases hb:b=a
     ·subst hb;rw[ea] at q';cases q';exact .inr (.inr ⟨o,kvs,rfl,by rw[AG n];exact An⟩)
     ·exact .inl (by rw[AG n,Ai hb];exact q')
    ·obtain⟨nP,ea⟩:=Al hh;exact⟨a,kvs,rfl,.inr ⟨o,ea,h _ H1 H1 s1 (.inl rfl) (λ _ _=>rfl) (λ _ _ q=>.inl q) (kY nP ea)⟩⟩
   |VN _ _=>exact h.elim
  |_=>exact h.elim
def qV (i2:∀P0 P σ H R ρ,Am X.K P0 P H σ ρ->(match fi ρ with | .ok ds=>∀J H1 H',Aj H H1->Fz X.H₀ H1 H'->(∀b,P b->H' b=H1 b)->Rz (del H1 P) (del H' P)->XR X.K J P H' ds->R J H' | .ex x=>∀H',Aj H H'->WX x H' | .bad=>False)->wi σ H R)(g2:∀P0 P σ H Q ρ v d,Am X.K P0 P H σ ρ->BQ X.K (del H P) v d->gG X.K P0 P H Q (gt d ρ)->gg v σ H Q)(t2:∀s H' C ex P0 P σ H Q ρ,Am X.K P0 P H σ ρ->gT (λ _ _=>False) H Q (ft ρ)->tc s H' C ex σ H Q)(e2:∀s H' C ex P0 P σ H Q ρ,Am X.K P0 P H σ ρ->gV X.K (λ _ _=>False) (Lv true P0 P) H Q (fe ρ)->te s H' C ex σ H Q)(E:Am X.K P0 P H σ ρ)(h:eZ X.K WX P H Q ((fi ρ).bind λ ds=>if ds.length<=1000 then HH (Bb gt ft fe ds (Bf μ ρ)) else .bad)):tUz X.H₀ (VM wi μ gg tc te) σ H Q:=by
 unfold tUz;refine i2 P0 P σ H _ ρ E ?_;cases q:fi ρ with
 |bad|ex x=>rw[q] at h;exact h
 |ok ds =>
  rw[q] at h;simp only[M.A8] at h;by_cases hd:¬ ds.length<=1000
  ·rw[if_neg hd] at h;exact h.elim
  have hd:ds.length<=1000:=by omega
  rw[if_pos hd] at h;intro J H0 H1 s0 fz kP rz ok s C ex;cases qc:Bb gt ft fe ds (Bf μ ρ) with
  |bad|ex x=>rw[qc] at h;exact h.elim
  |ok total =>
   rw[qc] at h;unfold HH at h;dsimp only at h;have E1:Am X.K P0 P H1 σ ρ:=(E.same s0).rz kP rz;refine⟨λ i m ys H2=>m=ds.length-i/\i<=ds.length/\ys.length<=i/\Aj H1 H2/\∃es rest,Ak X.K (del H2 P) ys es/\Bb gt ft fe (ds.drop i) (Bf μ ρ)=.ok rest/\es++rest=total,
    ⟨ds.length,by simp,zbb _,zag _,Aj.refl _,[],total,.nil,by rw[zd9];exact qc,rfl⟩,?_⟩
   rintro i m ys H2 ⟨rfl,hi,hy,s2,es,rest,ci,ae,a9⟩;by_cases af:i<ds.length
   ·refine .inr ⟨ok.go i P H2 s2.del af,Nat.lt_of_le_of_lt hy (AF (by omega)),λ aR H'=>i+1<=ds.length/\aR.length<=i+1/\Aj H1 H'/\∃es rest,Ak X.K (del H' P) aR es/\Bb gt ft fe (ds.drop (i+1)) (Bf μ ρ)=.ok rest/\es++rest=total,λ aR H' hq=>⟨ds.length-(i+1),by omega,rfl,hq.1,hq.2.1,hq.2.2.1,hq.2.2.2⟩,λ v H3 y=>?_⟩;have E2:=E1.same s2;obtain⟨s3,hv⟩:=ok.mM i P H2 v H3 ds[i] s2.del E2.Cb (za7 af) y;rw[Iv af,Bb] at ae;have E3:=(E2.same s3).block μ;refine g2 P0 P _ H3 _ (Bf μ ρ) v ds[i] E3 hv ?_;cases q1:gt ds[i] (Bf μ ρ) with
    |bad|ex x=>rw[q1] at ae;cases ae
    |ok ρ1 =>
     rw[q1] at ae;dsimp only at ae;intro σ4 E4;refine t2 s H1 C ex P0 P σ4 H3 _ ρ1 E4 ?_;cases q2:ft ρ1 with
     |bad|ex x=>rw[q2] at ae;cases ae
     |ok k =>
      rw[q2] at ae;dsimp only at ae;intro H5 s5;cases k with
      |false =>
       simp only[zb1,if_false] at ae ⊢;exact⟨af,by omega,(s2.trans s3).trans s5,es,rest,(ci.mono s3.del).mono s5.del,ae,a9⟩
      |true =>
       simp only[if_true] at ae ⊢;refine e2 s H1 C ex P0 P σ4 H5 _ ρ1 (E4.same s5) ?_;cases q3:fe ρ1 with
       |bad|ex x=>rw[q3] at ae;cases ae
       |ok y' =>
        rw[q3] at ae;dsimp only at ae;cases q4:Bb gt ft fe (ds.drop (i+1)) (Bf μ ρ) with
        |bad|ex x=>rw[q4] at ae;cases ae
        |ok kb =>
         rw[q4] at ae;cases ae;intro w H6 s6 hw;refine⟨af,by rw[zai,zbk];omega,((s2.trans s3).trans s5).trans s6,es++[y'],kb,(((ci.mono s3.del).mono s5.del).mono s6.del).snoc hw,rfl,?_⟩;rw[zbi];exact a9
   ·have e:i=ds.length:=by omega
    subst e;rw[zcs,Bb] at ae;cases ae;rw[zba] at a9;subst a9;refine .inl ⟨ok.stop _ P H2 s2.del (zag _),λ D0 hn=>?_⟩;rcases fz with rfl|⟨a,o,kvs,ea,rfl,n0⟩
    ·exact⟨_,.inl rfl,h.K3 (s0.trans s2) ci D0 hn⟩
    ·have e2:H2 a=some (.HC o (.dK kvs)):=s2 a _ An;have nP:¬ P a:=λ z=>by
      have:=kP a z;rw[An,ea] at this;cases this
     have ad:a≠D0:=λ z=>by rw[<-z,e2] at hn;cases hn
     have ec:upd (upd H2 D0 (.lst ys)) a (.dK kvs)=upd (upd H2 a (.dK kvs)) D0 (.lst ys):=by
      funext b;by_cases hb:b=a
      ·subst hb;rw[An,Ai ad,An]
      ·rw[Ai hb];by_cases hd:b=D0
       ·subst hd;rw[An,An]
       ·rw[Ai hd,Ai hd,Ai hb]
     refine⟨upd (upd H2 D0 (.lst ys)) a (.dK kvs),.inr ⟨a,o,kvs,by rw[Ai ad];exact e2,rfl,n0⟩,?_⟩;rw[ec];have su:Aj H (upd H2 a (.dK kvs)):=s0.trans λ b u q=>by
      by_cases hb:b=a
      ·subst hb;rw[ea] at q;cases q;exact An
      ·rw[Ai hb];exact s2 b u (by rw[Ai hb];exact q)
     refine h.K3 su (ci.rz λ b u q=>?_) D0 (by rw[Ai (zbm ad)];exact hn);by_cases hb:b=a
     ·subst hb;rw[AG nP,e2] at q;cases q;exact .inr (.inl ⟨o,kvs,rfl,by rw[AG nP];exact An⟩)
     ·refine .inl ?_;obtain⟨n,q'⟩:=Al q;rw[AG n,Ai hb];exact q'
def kZ (μ:List (Option Nat))(hc:X.calm=true)(hi:DIK X WX tg iter fi)(av:Ia scope X.env.scope=true)(bd:Sl X.N NB scope μ=true)(hg:yC X scope NB μ tg gt)(ht:∀s H C ex,yD (blockOf X s H scope C NB ex) ifs ft)(he:∀s H C ex,DE (blockOf X s H scope C NB ex) (λ _ _=>False) true elt fe)(hs:∀x,foldedSetIterable iter X.env x=pure x:=by intro _;rfl):
 DN X WX (.ListComp elt [⟨tg,iter,ifs,0⟩] scope pos) (λ ρ=>(fi ρ).bind λ ds=>if ds.length<=1000 then HH (Bb gt ft fe ds (Bf μ ρ)) else .bad):=by
 obtain⟨wi,i1,i2⟩:=hi;obtain⟨gg,g1,gk,g2⟩:=hg;refine⟨_,aaJ (YY hc i1 av bd gk (λ s H C ex=>⟨g1 s H C ex,(za0 (ht s H C ex)).1,(za0 (he s H C ex)).1⟩) hs),λ P0 P σ H Q ρ E h=>?_⟩;exact qV i2 g2 (λ s H' C ex P0 P σ H Q ρ E h=>(za0 (ht s H' C ex)).2 P0 P σ H Q ρ E h) (λ s H' C ex P0 P σ H Q ρ E h=>(za0 (he s H' C ex)).2 P0 P σ H Q ρ E h) E h
end
def ZM:∀ {kvs:List (Key×V)}{vs:List (Key×Value)},KV kvs vs->∀us:List Value,us.length=vs.length->(∀(j:Nat) (v:Value),us[j]?=some v->∃k,vs[j]?=some (k,v))->Vals (kvs.map zbs) us
 |_,_,.nil,[],_,_=>.nil
 |_,_,.nil,_::_,h,_|_,_,.cons _ _,[],h,_=>by cases h
 |_,_,.cons hd tl,u::us,h,g=>by
  obtain⟨k,e⟩:=g 0 u rfl;rw[zbz] at e;cases e;exact .cons hd.2 (ZM tl us (by simpa using h) λ j v e=>by
   obtain⟨k,q⟩:=g (j+1) v (by rw[zaz];exact e);rw[zaz] at q;exact⟨k,q⟩)
section
variable {c:Bool}{o:Expr}{f:Ah->M D}{p apos ac:Pos}{to:TE}
abbrev aaK (to:TE):TE:=λ σ H Q=>to σ H λ x H1=>∃a kvs,x=.ref a/\Rd H1 a (.dK kvs)/\∀p,H1 p=none->Q (.ref p) (upd H1 p (.ext λ h=>h.IsValuesView p a))
def dZ (ho:PE X o to)(ai: ~~~(attributeBase o "values" X.env (eval o X.env)=eval o X.env))(aj: ~~~((apos.endLine==ac.line)=true)):PE X (.Call (.Attribute o "values" apos) [] [] ac) (aaK to):=by
 intro pins s0 σ H Q I0 h;refine wpAny_Call_method0_late ai aj (B9 (ho pins s0 σ H _ I0 h) λ v s zz=>?_);obtain⟨x,H1,I,r,q⟩:=zz;obtain⟨a,kvs,rfl,ha,q⟩:=q;cases r;obtain⟨z,hd,vs,rel,dd⟩:=K6 I.Aw ha;obtain⟨ob,es,ep,aJ,hx,fg⟩:=id dd;refine⟨"dict","dict.values",PySem.F.plainAttrs_dict,PySem.F.slot_dict_values,PySem.F.type_dict_values,dd.typeIs,λ b e=>?_,zcu rfl (PySem.evalArgs_none ?_)⟩
 ·cases e;exact⟨ob,aJ,hx.2.1⟩
 refine call_meetsIn PySem.F.slot_dict_values dd.typeIs PySem.F.entry_dict_values (PySem.F.args_dict_values_1 _) (meets_dict_values (AN X.prog X.w) a hd) ⟨⟨vs,dd⟩,?_⟩;refine⟨.ref s.heap.objs.size,_,I.laid (a:=s.heap.objs.size) (o:=.ext λ h=>h.IsValuesView s.heap.objs.size a) (t':=s.toks) (λ b ob e=>zaa _ e) (zag _) ⟨⟨_,zap _ rfl,rfl,rfl⟩,⟨_,zap _ rfl⟩,λ h1 h2 ⟨ob,e,cc⟩ k=>⟨ob,k ob e,cc⟩⟩,rfl,q _ (I.Aw.fresh (zag _))⟩
def Yj:Gd X (.type "list") (λ xs H Q=>∃p a kvs,xs=[.ref p]/\H p=some (.ext λ h=>h.IsValuesView p a)/\Rd H a (.dK kvs)/\X.calm=true/\∀l,H l=none->Q (.ref l) (upd H l (.lst (kvs.map zbs)))):=by
 intro pins s σ H xs us Q I r h;obtain⟨p,a,kvs,rfl,hp,ha,hc,q⟩:=h;obtain⟨u,rfl,rx⟩:=vals1 r;cases rx;obtain⟨z,hd,vs,rel,dd⟩:=K6 I.Aw ha;obtain⟨ep,dat⟩:=dd.dictAt;have hv:s.heap.IsValuesView p a:=(show Bo X.prog X.w H s.heap p (.ext λ h=>h.IsValuesView p a) from I.Aw p _ hp).1;have hlen:kvs.length=vs.length:=zcx rel;refine PySem.W.kdl_call (PySem.W.kdl_values (knd:=AN X.prog X.w) (kvs:=vs) (ep:=ep)) (I.ok.hd hc) ⟨hv,dat⟩ (by rw[<-hlen];exact z) λ h' tk acc c' hk hS d6=>?_;have li:Vals (kvs.map zbs) acc.toList:=ZM rel acc.toList (by rw[zde];exact d6.1) λ j v e=>d6.2 j v (by rw[<-Array.getElem?_toList];exact e);exact⟨.ref s.heap.objs.size,_,I.laid (t':=tk) hk (zag _) (show Bo X.prog X.w _ h' _ (.lst (kvs.map zbs)) from ⟨by rw[za2];exact z,acc.toList,c',li,by rw[Array.toArray_toList];exact hS⟩),rfl,q _ (I.Aw.fresh (zag _))⟩
abbrev lA (d:D):M OT:=match d with | .BE false _ vs=>.ok (.lst (vs.map .sh)) | _=>.bad
def Wv (hc:X.calm=true)(hg:Gl X "list")(hm:X.mg "list" = none)(ha:DE X WX true o f)(hb:bootBuiltins "list" = some (.type "list"):=by decide +kernel)(ai: ~~~(attributeBase o "values" X.env (eval o X.env)=eval o X.env))(aj: ~~~((apos.endLine==ac.line)=true))(ax: ~~~(starEach [.Call (.Attribute o "values" apos) [] [] ac] X.env=[(false,eval (.Call (.Attribute o "values" apos) [] [] ac) X.env)])):
 DN X WX (.Call (.Name "list" p) [.Call (.Attribute o "values" apos) [] [] ac] [] pos) (λ ρ=>(f ρ).bind lA):=by
 obtain⟨ta,a1,a2⟩:=ha;refine⟨_,Na Yj hg hm hb (Ba (dZ a1 ai aj) Ci ax) (he:=ax),λ P0 P σ H Q ρ E h=>?_⟩;dsimp only at h;refine a2 P0 P σ H _ ρ E ?_;refine bV h λ d h=>?_;intro v H1 s1 hv;unfold lA at h;split at h
 ·cases hv with
  | @Vf a kvs _ hh hl =>
   have hr:=hh.Be;refine⟨a,kvs,rfl,hr,λ p hp=>?_⟩;have sp:Aj H1 (upd H1 p (.ext λ h=>h.IsValuesView p a)):=AL hp _;exact⟨p,a,kvs,rfl,An,hr.same sp,hc,h.K3 (s1.trans sp) (hl.mono sp.del)⟩
 ·exact h.elim
end
section
variable {c:Bool}{P:Addr->Prop}{H:Hp}{a b:Expr}{f g:Ah->M D}
def xD (ha:DE X WX true e f):DI X WX tg e (λ ρ=>(f ρ).bind λ d=>match d with | .tup ds=>.ok ds | _=>.bad):=by
 obtain⟨ta,a1,a2⟩:=ha;refine⟨_,tZ a1,λ P0 P σ H R ρ E h=>?_⟩;dsimp only at h;refine a2 P0 P σ H _ ρ E ?_;cases q:f ρ with
 |bad|ex x=>rw[q] at h;exact h
 |ok d =>
  rw[q] at h;cases d with
  |tup ds =>
   intro v H1 s1 hv;cases hv with
   | @tup a xs _ hh hl =>
    have at':∀ {P':Addr->Prop} {H':Hp},Aj (del H1 P) (del H' P')->FE X.K H' a xs:=λ s=>.inl (.inl (Al (s a _ hh)).2);refine⟨a,rfl,⟨xs,.inl (.inl (Al hh).2)⟩,h _ H1 s1 ⟨λ i P' H' s hi=>?_,λ i P' H' s hi=>?_,λ i P' H' v d0 d s ht hd y=>?_⟩⟩
    ·obtain⟨x,hx,_⟩:=hl.get (za7 hi);exact⟨xs,x,at' s,hx⟩
    ·exact⟨xs,at' s,by rw[hl.length];exact hi⟩
    ·obtain⟨rfl,y⟩:=y;obtain⟨x,hx,aZ⟩:=hl.get hd;have e:=y xs (at' s);rw[hx] at e;cases e;exact⟨Aj.refl _,aZ.mono s⟩
  |_=>exact h.elim
end
section
variable {w:World}{A:Around}{E:Value->Shared->Prop}{s:Shared}
def Tv {K:Type}[DecidableEq K]{knd:KeyKind prog w K}{h h':Heap}{d I l:Addr}{i:Nat}{xs:List (K×Value)}(hd:h.DictOf knd d xs)(hit:h.IsListIter I l i)(sb:∀b o,b≠I->h.get? b=some o->h'.get? b=some o):h'.DictOf knd d xs:=by
 obtain⟨o,es,ep,h1,h2,h3,h4⟩:=hd;obtain⟨oi,i1,i2,i3⟩:=hit;refine⟨o,es,ep,sb d o (λ z=>?_) h1,h2,h3,h4⟩;subst z;rw[i1] at h1;cases h1;rw[i3] at h3;cases h3
def Yk {K:Type}[DecidableEq K]{knd:KeyKind prog w K}{R:Result->Shared->Prop}{d I l:Addr}{items:Array Value}{h0:Heap}(ps:List (K×Value×Value))(hh:A.handled=none)(gx:l≠I)(ss:d≠I)(f9:l≠d)
 (kr:ps.length=items.size) (hsz:items.size+1<=sizeLine) (hl:h0.IsList l items)
 (hp:∀(j:Nat) p,ps[j]?=some p->knd.is p.1 p.2.1=true/\∃t,items[j]?=some (.ref t)/\t≠d/\t≠I/\IsTup h0 t #[p.2.1,p.2.2]):
 ∀(m i:Nat) (xs:List (K×Value)) (s:Shared),items.size-i=m->i<=items.size->xs.length<=i->s.heap.IsListIter I l i->s.heap.DictOf knd d xs->(∀b o,b≠d->b≠I->h0.get? b=some o->s.heap.get? b=some o)->
  (∀h' tk,h'.DictOf knd d ((ps.drop i).foldl (λ acc p=>stored acc p.1 p.2.2) xs)->(∀b o,b≠d->b≠I->h0.get? b=some o->h'.get? b=some o)->R (.ok (.ret .none)) {s with heap:=h',toks:=tk})->
  codeAny (model prog w) A (.builtin "dict.update.loop" ⟨[.ref d,.ref I,rawInt i,.none],[]⟩) R s:=by
 intro m;induction m with
 |zero =>
  intro i xs s hm hi sv hit hd hf h;have br:i=items.size:=by omega
  refine codeAny_builtin JX ?_;rw[zco D9 _];show wpAny _ A.in1 (pyNext (.ref I) >>= _) _ _ s;refine wpAny_bind (wpAny_pyNext_list_end (A:=A.in1) hh hit (hl.at λ o e=>hf l o f9 gx e) (by simp[br]) λ h' eb=>?_);have hd2:=Tv hd hit λ b o hb e=>eb b o hb e;show wpAny _ A.in1 (Dict.addKeywords d [] >>= _) _ _ _;unfold Dict.addKeywords;refine wpAny_bind (wpAny_bind ?_);refine wpAny_pure (wpAny_pure (wpAny_pure ?_));have ed:ps.drop i=[]:=by rw[List.drop_eq_nil_iff];omega
  rw[ed] at h;exact h h' s.toks hd2 λ b o h1 h2 e=>eb b o h2 (hf b o h1 h2 e)
 |succ m ih =>
  intro i xs s hm hi sv hit hd hf h;have af:i<items.size:=by omega
  obtain⟨p,ig⟩:∃p,ps[i]?=some p:=⟨ps[i]'(by omega),za7 _⟩;obtain⟨p3,t,ht,t1,t2,t3⟩:=hp i p ig;refine codeAny_builtin JX ?_;rw[zco D9 _];show wpAny _ A.in1 (pyNext (.ref I) >>= _) _ _ s;refine wpAny_bind (wpAny_pyNext_list_item (A:=A.in1) hit (hl.at λ o e=>hf l o f9 gx e) ht λ h' bt sb=>?_);have hd2:h'.DictOf knd d xs:=Tv hd hit λ b o hb e=>(sb.2 b hb).trans e;have jh:∀b o,b≠d->b≠I->h0.get? b=some o->h'.get? b=some o:=λ b o h1 h2 e=>(sb.2 b h2).trans (hf b o h1 h2 e);have t4:IsTup h' t #[p.2.1,p.2.2]:=by
   obtain⟨o,e1,e2⟩:=t3;exact⟨o,jh t o t1 t2 e1,e2⟩
  dsimp only;refine wpAny_bind (wpAny_holding (wpAny_bind (wpAny_tryCatch (Tn t4 ?_))));show wpAny _ A.in1 (holding [p.2.1,p.2.2] (dictSet d p.2.1 p.2.2)) _ _ _;refine wpAny_holding (wpAny_dictSet_pairs (knd:=knd) (hsz:=by omega) p3 hd2 λ h3 ii kt=>?_);refine wpAny_pure ⟨plainId_quiet D9 _,?_⟩;have ij:h3.IsListIter I l (i+1):=by
   obtain⟨o,e1,e2⟩:=bt;exact⟨o,(kt.2 I (zbm ss)).trans e1,e2⟩
  have ed:ps.drop i=p::ps.drop (i+1):=by
   rw[zcl (by omega:i<ps.length)];rw[za7 (by omega:i<ps.length)] at ig;rw[zao ig]
  rw[ed,zam] at h;have d8:(stored xs p.1 p.2.2).length<=i+1:=by
   unfold stored;split
   ·rw[za2];omega
   ·rw[zai,zbk];omega
  exact ih (i+1) (stored xs p.1 p.2.2) {s with heap:=h3,toks:=s.toks+1} (by omega) (by omega) d8 ij ii (λ b o h1 h2 e=>(kt.2 b h1).trans (jh b o h1 h2 e)) h
def Sv {K:Type}[DecidableEq K]{knd:KeyKind prog w K}{Q:Value->Shared->Prop}{l:Addr}{items:Array Value}{n:Nat}{sl:Array (Option Value)}(ps:List (K×Value×Value))(hh:A.handled=none)
 (kr:ps.length=items.size) (hsz:items.size+1<=sizeLine) (hl:s.heap.get? l=some {cls:=.type "list",data:=.seq items n,slots:=sl})
 (hp:∀(j:Nat) p,ps[j]?=some p->knd.is p.1 p.2.1=true/\∃t,items[j]?=some (.ref t)/\IsTup s.heap t #[p.2.1,p.2.2])
 (h:∀h' tk,h'.DictOf knd s.heap.objs.size (ps.foldl (λ acc p=>stored acc p.1 p.2.2) [])->(∀b o,s.heap.get? b=some o->h'.get? b=some o)->Q (.ref s.heap.objs.size) {s with heap:=h',toks:=tk}):
 wpAny (model prog w) A (call (.type "dict") [.ref l]) Q E s:=by
 refine callType_codes (Q₁:=λ obj s₁=>obj=.ref s.heap.objs.size/\s₁={s with heap:=s.heap.push {cls:=.type "dict",data:=.dict #[]} }) PySem.F.kt_called_dict (PySem.F.kt_typeCall_dict_1 _) PySem.F.entry_dict_init
  (kt_code_dict_new _ ⟨rfl,rfl⟩) λ obj s₁ h₁=>?_
 obtain⟨rfl,rfl⟩:=h₁;have hS:(s.heap.push {cls:=.type "dict",data:=.dict #[]}).get? s.heap.objs.size=some {cls:=.type "dict",data:=.dict #[]}:=zap _ rfl;have ll:l<s.heap.objs.size:=zaj hl;have cf:(s.heap.push {cls:=.type "dict",data:=.dict #[]}).get? l=some {cls:=.type "list",data:=.seq items n,slots:=sl}:=zaa _ hl;refine⟨⟨_,hS,rfl⟩,PySem.F.args_dict_init_2 _ _,?_⟩;have TD:Looks (model prog w) (s.heap.push {cls:=.type "dict",data:=.dict #[]}) (typeOf (.ref s.heap.objs.size)) (.type "dict"):=(Looks.ld hS).andThen .now;have TL:Looks (model prog w) (s.heap.push {cls:=.type "dict",data:=.dict #[]}) (typeOf (.ref l)) (.type "list"):=(Looks.ld cf).andThen .now;unfold Builtin.«dict.__init__» Dict.selfAndRest Dict.notOrdered;dsimp only;rw[if_pos (by decide)];refine wpAny_bind (wpAny_bind (wpAny_bind (TD.at ?_)));rw[if_neg (by decide)];refine wpAny_pure ?_;unfold Dict.addrOf;refine wpAny_bind (wpAny_pure (wpAny_pure ?_));unfold Dict.updateCommon Dict.updateFrom;dsimp only;refine wpAny_bind (TL.at ?_);rw[if_pos (by decide)];refine wpAny_bind (O1 (A:=A.in1.in1) hh cf λ h2 xL ik=>?_);rw[if_pos (show (none:Option Value).isNone=true from rfl)];refine wpAny_bind (wpAny_rule ?_);have al:h2.IsList l items:=⟨_,ik _ _ cf,rfl,n,rfl⟩;have ku:=ik _ _ hS;refine wpAny_bind (wpAny_pyIter_list al ?_);refine wpAny_pure ⟨plainId_quiet D9 _,?_⟩;have lz:s.heap.objs.size<h2.objs.size:=zaj ku;have sw:∀b o,s.heap.get? b=some o->(h2.push {cls:=.type "list_iterator",data:=.fields #[.ref l,.int 0 0]}).get? b=some o:=λ b o e=>zaa _ (ik _ _ (zaa _ e));have ii:(h2.push {cls:=.type "list_iterator",data:=.fields #[.ref l,.int 0 0]}).DictOf knd s.heap.objs.size []:=
  ⟨_,#[],0,zaa _ ku,⟨rfl,rfl,rfl⟩,rfl,(by intro e he;simp at he),.nil,zbn⟩
 have af:∀b o,s.heap.get? b=some o->b≠s.heap.objs.size/\b≠h2.objs.size:=λ b o e=>by
  have:=zaj e;exact⟨zar this,zar (Nat.lt_trans this lz)⟩
 refine Yk (A:=A.in1) (knd:=knd) (l:=l) (h0:=s.heap) ps hh (zar (Nat.lt_trans ll lz)) (zar lz) (zar ll) kr hsz ⟨_,hl,rfl,n,rfl⟩ (λ j p hj=>?_) items.size 0 [] _ (by omega) (by omega) (by simp) ⟨_,zap _ rfl,rfl,rfl⟩ ii (λ b o h1 gz e=>sw b o e) λ h' tk aZ sx=>?_
 ·obtain⟨q1,t,q2,q3⟩:=hp j p hj;obtain⟨o2,e2,_⟩:=id q3;exact⟨q1,t,q2,(af _ _ e2).1,(af _ _ e2).2,q3⟩
 ·exact⟨rfl,h h' tk aZ λ b o e=>sx b o (af _ _ e).1 (af _ _ e).2 e⟩
end
structure eA where
 (t:Addr) (κ:Key) (v:V)
abbrev xE (H:Hp)(p:eA):Prop:=H p.t=some (.tup [kV p.κ,p.v])
abbrev qW (ps:List eA):List (Key×V):=ps.foldl (λ acc p=>putK acc p.κ p.v) []
abbrev tDK (X:Cx)(te:TE):TE:=λ σ H Q=>te σ H λ x H1=>∃(l:Addr) (ps:List eA),x=.ref l/\DU X.K H1 l (ps.map λ p=>V.ref p.t)/\(∀p∈ps,xE H1 p)/\ps.length<=1000/\∀r,H1 r=none->Q (.ref r) (upd H1 r (.dK (qW ps)))
def Ww:∀ {ps:List eA}{us:List Value},Vals (ps.map λ p=>V.ref p.t) us->us=ps.map λ p=>zb8 p.t
 |[],_,.nil=>rfl
 |p::ps,_,.cons h t=>by
  cases h;rw[za6,<-Ww t]
def sO:∀ {ps:List eA}{qs:List (Key×Value×Value)}{kvs:List (Key×V)}{xs:List (Key×Value)},Paired (λ(p:eA) (q:Key×Value×Value)=>p.κ=q.1/\RelV p.v q.2.2) ps qs->KV kvs xs->KV (ps.foldl (λ acc p=>putK acc p.κ p.v) kvs) (qs.foldl (λ acc p=>stored acc p.1 p.2.2) xs)
 |[],_,_,_,.nil,h=>h
 |p::ps,_,_,_,.cons (b:=q) hq t,h=>by
  obtain⟨q1,q2,q3⟩:=q;obtain⟨e1,e3⟩:=hq;dsimp only at e1 e3;subst e1;have r:=sO (ps:=ps) t (h.put p.κ e3);exact r
def ZN:∀(ps:List eA) (kvs:List (Key×V)),(ps.foldl (λ acc p=>putK acc p.κ p.v) kvs).length<=kvs.length+ps.length
 |[],kvs=>zag _
 |p::ps,kvs=>by
  have h1:=ZN ps (putK kvs p.κ p.v);have h2:=E5 kvs p.κ p.v;rw[zam,za8];omega
def ZO (ok:HE P w H h):∀ {ps:List eA},(∀p∈ps,xE H p)->∃qs:List (Key×Value×Value),Paired (λ(p:eA) (q:Key×Value×Value)=>p.κ=q.1/\RelV p.v q.2.2) ps qs/\
 ∀(j:Nat) q,qs[j]?=some q->(AN P w).is q.1 q.2.1=true/\∃t,(ps.map λ p=>zb8 p.t)[j]?=some (.ref t)/\IsTup h t #[q.2.1,q.2.2]
 |[],_=>⟨[],.nil,λ j q e=>by simp at e⟩
 |p::ps,ho=>by
  obtain⟨qs,h1,h2⟩:=ZO ok λ p hp=>ho p (za4 _ hp);have o1:=ho p za3;obtain⟨_,aa,r,it⟩:=(show Bo P w H h p.t (.tup [kV p.κ,p.v]) from ok p.t _ o1);obtain⟨u,v,rfl,ru,rv⟩:=r.two;refine⟨(p.κ,u,v)::qs,.cons ⟨rfl,rv⟩ h1,λ j q e=>?_⟩;cases j with
  |zero =>
   rw[zbz] at e;cases e;exact⟨Ld ru,p.t,by simp,it⟩
  |succ j =>
   rw[zaz] at e;obtain⟨a1,t,a2,a3⟩:=h2 j q e;exact⟨a1,t,by simpa using a2,a3⟩
section
variable {c:Bool}{P:Addr->Prop}{H:Hp}{a b:Expr}{f g:Ah->M D}{te:TE}
def lB (hc:X.calm=true)(hg:Gl X "dict")(hm:X.mg "dict" = none)(he:PE X e te)(hv:bootBuiltins "dict" = some (.type "dict"):=by decide +kernel)(hs: ~~~(starEach [e] X.env=[(false,eval e X.env)])):
 PE X (.Call (.Name "dict" p) [e] [] pos) (tDK X te):=by
 intro pins s σ H Q I h;refine wpAny_Call_Name_kw (Ei I hg hm hv ?_);refine zbl ?_ hs;rw[hs];refine zc3 (B9 (he pins s σ H _ I h) λ u s1 zz=>?_);obtain⟨x,H1,I1,r1,q1⟩:=zz;obtain⟨l,ps,rfl,hq,ho,hlen,q⟩:=q1;cases r1;refine zcg ?_;obtain⟨aa,r',pl,hz⟩:=I1.list hq;have hits:=Ww r';subst hits;obtain⟨⟨sy,lb,lc,il⟩,n0,o1,o2,o3,o4⟩:=pl;dsimp only at o2 o3 o4;subst o2 o3 o4;obtain⟨qs,h1,h2⟩:=ZO I1.Aw ho;refine Sv (knd:=AN X.prog X.w) qs (I1.ok.hd hc) (by rw[zab,za2,<-h1.length]) (AF (by rw[zab,za2];omega)) o1 (λ j p hj=>?_) λ h' tk hd kp=>?_
 ·obtain⟨a1,t,a2,a3⟩:=h2 j p hj;exact⟨a1,t,by rw[List.getElem?_toArray];exact a2,a3⟩
 ·have sB:=sO h1 (show KV [] [] from .nil);have f7:s1.heap.objs.size<=s1.heap.objs.size:=zag _;have b5:=I1.Aw.fresh f7;have og:=ZN ps [];exact⟨.ref _,_,I1.laid (t':=tk) (o:=.dK (qW ps)) kp f7 ⟨zbq (AF (by unfold qW;simp at og;omega)),beq_eq_false_iff_ne.mpr (zbm (zar I1.big)),_,sB,hd⟩,rfl,q _ b5⟩
abbrev eB (d:D):M OT:=match d with
 | .lst xs=>(match UE xs with|some l=>if l.length<=1000/\(l.all λ kv=>keyOk false kv.1)=true then .ok (.BE false (pR l).1 ((pR l).2.map .sh)) else .bad|none=>.bad)
 |_=>.bad
def ZP {K:za1}{H:Hp}{P:Addr->Prop}:∀ {xs:List V}{ds:List D}{l:List (D×D)},Ak K (del H P) xs ds->UE ds=some l->(l.all λ kv=>keyOk false kv.1)=true->
 ∃ps:List eA,xs=ps.map (λ p=>V.ref p.t)/\(∀p∈ps,xE H p)/\Paired (λ(p:eA) (kv:D×D)=>kv.1=Cz p.κ/\BQ K (del H P) p.v kv.2) ps l
 |_,[],l,.nil,e,_=>by cases e;exact⟨[],rfl,λ p hp=>(by cases hp),.nil⟩
 |_,d::ds,l,.cons hd ht,e,hk=>by
  unfold UE at e;split at e
  ·rename_i cz;cases cz
  ·rename_i k v r cz;cases cz;obtain⟨l',e1,e2⟩:=zcr.mp e;subst e2;rw[List.all_cons,zb6] at hk;obtain⟨ps,q1,q2,q3⟩:=ZP ht e1 hk.2;have hK:=E7 hk.1;cases hK with
   |k κ =>
    cases hd with
    | @tup tt _ _ h1 h2 =>
     obtain⟨x,y,rfl,hx,hy⟩:=h2.two;have ex:=hx.oK;subst ex;refine⟨⟨tt,κ,y⟩::ps,by rw[za6,q1],λ p hp=>?_,.cons ⟨rfl,hy⟩ q3⟩;rcases zac.mp hp with rfl|hp
     ·exact (Al h1).2
     ·exact q2 p hp
  ·cases e
def ZQ {K:za1}{H:Hp}{P:Addr->Prop}:∀ {ps:List eA}{l:List (D×D)}{kvs:List (Key×V)}{vs:List D},Paired (λ(p:eA) (kv:D×D)=>kv.1=Cz p.κ/\BQ K (del H P) p.v kv.2) ps l->Ak K (del H P) (kvs.map zbs) vs->
 ∃aE,l.foldl (λ z kv=>putD z.1 z.2 kv.1 kv.2) (kvs.map (λ kv=>Cz kv.1),vs)=((ps.foldl (λ acc p=>putK acc p.κ p.v) kvs).map (λ kv=>Cz kv.1),aE)/\Ak K (del H P) ((ps.foldl (λ acc p=>putK acc p.κ p.v) kvs).map zbs) aE
 |[],_,kvs,vs,.nil,h=>⟨vs,rfl,h⟩
 |p::ps,_,kvs,vs,.cons (b:=kv) hq t,h=>by
  obtain⟨k,d⟩:=kv;obtain⟨e1,e2⟩:=hq;dsimp only at e1 e2;subst e1;have aV:∃aE,(putD (kvs.map λ kv=>Cz kv.1) vs (Cz p.κ) d)=((putK kvs p.κ p.v).map (λ kv=>Cz kv.1),aE)/\Ak K (del H P) ((putK kvs p.κ p.v).map zbs) aE:=by
   unfold putD putK;rw[Lz (fk:=Cz) ID];by_cases hh:(kvs.any λ kv=>decide (kv.1=p.κ))=true
   ·rw[if_pos hh,if_pos hh];refine⟨_,by rw[IF (fk:=Cz) ID],?_⟩;rw[<-IE (fk:=Cz) ID];exact IG e2 h
   ·rw[if_neg hh,if_neg hh];refine⟨_,by rw[zat];rfl,?_⟩;rw[zat];exact h.snoc e2
  obtain⟨ya,g1,g2⟩:=aV;obtain⟨sK,g3,g4⟩:=ZQ t g2;refine⟨sK,?_,g4⟩;rw[zam];dsimp only;rw[g1];exact g3
def Wx (hc:X.calm=true)(hg:Gl X "dict")(hm:X.mg "dict" = none)(he:DE X WX true e f)(hv:bootBuiltins "dict" = some (.type "dict"):=by decide +kernel)(hs: ~~~(starEach [e] X.env=[(false,eval e X.env)])):
 DN X WX (.Call (.Name "dict" p) [e] [] pos) (λ ρ=>(f ρ).bind eB):=by
 obtain⟨te,e1,e2⟩:=he;refine⟨_,lB hc hg hm e1 hv hs,λ P0 P σ H Q ρ E h=>?_⟩;refine e2 P0 P σ H _ ρ E ?_;dsimp only at h;refine bV h λ d h=>?_;intro v H1 s1 hv;unfold eB at h;split at h
 ·rename_i xs;split at h
  ·rename_i l eb;split at h
   ·rename_i hl;cases hv with
    |lst hs hh =>
     obtain⟨ps,q1,q2,q3⟩:=ZP hh eb hl.2;subst q1;obtain⟨aE,g1,g2⟩:=ZQ (kvs:=[]) q3 .nil;refine⟨_,ps,rfl,hs.Be,q2,by rw[q3.length];exact hl.1,λ r hr=>?_⟩;have e3:pR l=((qW ps).map (λ kv=>Cz kv.1),aE):=g1;rw[e3] at h;have aS:∀a∈[r],H1 a=none:=λ a ha=>by rw[za9.mp ha];exact hr
     exact h _ [r] _ (s1.trans (AL hr _)) (λ a ha=>Dw s1 (aS a ha)) (by simp) (.dK An (g2.mono (Cr (AL hr _) aS)).ows)
   ·exact h.elim
  ·exact h.elim
 ·exact h.elim
end
def Bi.xF {K}(ok:Bi m rs L A K):∀p c,Ao (Ig A K) p=some c->p.1∈L/\p.2∈L:=λ p c h=>by
 have hm:=QS h;unfold Ig at hm;obtain⟨q,hq,e⟩:=zaq.mp hm;cases e;have:=ok.Xi hq;exact⟨(Bd ok.pm).mpr this.2.1,(Bd ok.pm).mpr this.2.2⟩
def Bi.aaL {K}(ok:Bi m rs L A K):∀p c,Ao (Su (Ig A K)) p=some c->p.1∈L/\p.2∈L:=λ p c h=>by
 rw[show p=(p.1,p.2) from rfl,Mw] at h;have:=ok.xF _ _ h;exact⟨this.2,this.1⟩
def qX (R:RA):xC (dS R)=.ok (R.map λ kv=>D.int kv.1):=rfl
def qY (R:RA):lA (dS R)=.ok (.lst ((R.map λ kv=>cst (some kv.2)).map .sh)):=rfl
def xG (ha:0<=a/\a<Tu)(hb:0<=b/\b<Tu)(hg:0<=g/\g<Tu)(h0:0<=i)(h1:i<8):∃l:Option Int,AB (.lst [.Av,.int 0,.int 0,.int 1,.int a,.int a,.int b,.int g]) (.int i)=.ok (Ek l)/\∀z,l=some z->0<=z/\z<Tu:=by
 have ht:=Y8;have hi:i=0\/i=1\/i=2\/i=3\/i=4\/i=5\/i=6\/i=7:=by omega
 rcases hi with rfl|rfl|rfl|rfl|rfl|rfl|rfl|rfl
 ·exact⟨none,rfl,λ z e=>by cases e⟩
 ·exact⟨some 0,rfl,λ z e=>by cases e;omega⟩
 ·exact⟨some 0,rfl,λ z e=>by cases e;omega⟩
 ·exact⟨some 1,rfl,λ z e=>by cases e;omega⟩
 ·exact⟨some a,rfl,λ z e=>by cases e;exact ha⟩
 ·exact⟨some a,rfl,λ z e=>by cases e;exact ha⟩
 ·exact⟨some b,rfl,λ z e=>by cases e;exact hb⟩
 ·exact⟨some g,rfl,λ z e=>by cases e;exact hg⟩
def Yl (cs:List Int):HF 0 (cs.map D.int)=(zb9 cs.length).map λ i:Nat=>D.tup [.int (i:Int),.int (cs.getD i 0)]:=by
 apply zd3;intro i;rw[zax];by_cases hi:i<cs.length
 ·obtain⟨e,he⟩:∃e,(HF 0 (cs.map D.int))[i]?=some e:=⟨_,za7 (by rw[D4,za2];exact hi)⟩;obtain⟨d,hd,rfl⟩:=Gg he;rw[he,List.getElem?_range hi];rw[zax,za7 hi] at hd;cases hd;rw[zbg,zbc,Nat.zero_add,za7 hi];rfl
 ·rw[zbp (by rw[D4,za2];omega),zbp (by rw[zc9];omega)];rfl
def O5 (rs:List Road):Xk 16 (.lst (rs.map Bx)) (.lst [])=.ok (.bl (decide (rs≠[]))):=by
 have h1:Pl 16 (.lst (rs.map Bx)):=(Ql (n:=1) λ d hd=>by
  obtain⟨r,_,rfl⟩:=zaq.mp hd;exact sF r).le (by decide)
 have h2:Pl 16 (.lst ([]:List D)):=(Ql (n:=1) λ d hd=>by cases hd).le (by decide);rw[Qn h1 h2];cases rs with
 |nil=>rfl
 |cons r q=>simp[Bw,Cq]
abbrev CH (R1 R2:RA):RA:=R1.filterMap λ kv=>(Ao R2 kv.1).map λ c=>(kv.1,(kv.2.1+c.1,kv.2.2+c.2))
def DD (R2:RA):∀R1:RA,((CH R1 R2).map zb0).Sublist (R1.map zb0)
 |[]=>.slnil
 |kv::r=>by
  unfold CH;rw[zca];cases Ao R2 kv.1 with
  |none=>exact (DD R2 r).cons _
  |some c=>exact (DD R2 r).cons₂ _
def QY {R2:RA}{p:Int}:∀ {R1:RA},(R1.map zb0).Nodup->Ao (CH R1 R2) p=AD (Ao R1 p) (Ao R2 p)
 |[],_=>by simp only[CH,List.filterMap_nil,Ao];rfl
 |(k,v)::r,hn=>by
  rw[za6,zbd] at hn;have ih:=QY (R2:=R2) (p:=p) hn.2;by_cases hk:k=p
  ·subst hk;have n1:Ao (CH r R2) k=none:=by
    cases q:Ao (CH r R2) k with
    |none=>rfl
    |some c=>exact absurd ((DD R2 r).subset (Hl.mp (by rw[q];rfl))) hn.1
   have e2:Ao ((k,v)::r) k=some v:=by simp[Ao]
   rw[e2];unfold CH;rw[zca];cases q:Ao R2 k with
   |none=>exact n1
   |some c=>simp[Ao,AD]
  ·have e2:Ao ((k,v)::r) p=Ao r p:=by simp[Ao,hk]
   rw[e2,<-ih];unfold CH;rw[zca];cases q:Ao R2 k with
   |none=>rfl
   |some c=>simp[Ao,hk]
def Tw (R2:RA):∀R1:RA,((R1.filter λ kv=>(Ao R2 kv.1).isSome).map λ kv=>D.tup [.int kv.1,cst (AD (some kv.2) (Ao R2 kv.1))])=(CH R1 R2).map λ kv=>D.tup [.int kv.1,cst (some kv.2)]
 |[]=>rfl
 |kv::r=>by
  have ih:=Tw R2 r;unfold CH at ih ⊢;rw[zca];cases q:Ao R2 kv.1 with
  |none=>rw[List.filter_cons_of_neg (by rw[q];simp)];exact ih
  |some c=>rw[List.filter_cons_of_pos (by rw[q];rfl),za6,ih,q];rfl
def sP:∀(C C0:RA),((C0++C).map zb0).Nodup->(C.map λ kv=>(D.int kv.1,cst (some kv.2))).foldl (λ z kv=>putD z.1 z.2 kv.1 kv.2) (C0.map (λ kv=>D.int kv.1),C0.map λ kv=>cst (some kv.2))=((C0++C).map (λ kv=>D.int kv.1),(C0++C).map λ kv=>cst (some kv.2))
 |[],C0,_=>by simp
 |kv::C,C0,hn=>by
  obtain⟨p,c⟩:=kv;rw[za6,zam];dsimp only;have h0:Ao C0 p=none:=by
   rw[Wq];intro hm;rw[zat,zaw] at hn;exact hn.2.2 p hm p (by simp) rfl
  have e:CS C0 p c=C0++[(p,c)]:=by unfold CS;rw[h0];rfl
  rw[IW (vf:=λ c=>cst (some c)) F9,e,sP C (C0++[(p,c)]) (by rw[zbi];exact hn),zbi];rfl
def xH (hn:(C.map zb0).Nodup)(hl:C.length<=1000):eB (.lst (C.map λ kv=>.tup [.int kv.1,cst (some kv.2)]))=.ok (Ye C):=by
 unfold eB;dsimp only;rw[PQ (λ kv:Int×(Int×Int)=>D.int kv.1) (λ kv=>cst (some kv.2))];dsimp only;have e:=sP C [] hn;rw[if_pos ⟨by rw[za2];exact hl,by rw[List.all_map];exact List.all_eq_true.mpr λ x _=>rfl⟩];have e2:pR (C.map λ kv=>(D.int kv.1,cst (some kv.2)))=(C.map (λ kv=>D.int kv.1),C.map λ kv=>cst (some kv.2)):=e;rw[e2];rfl
def Mt.front (hr:rk s<rk y)(ha:Cf s y=some d)(u:Mt Cf rk y t c):Mt Cf rk s t (d.1+c.1,d.2+c.2):=by
 induction u with
 |nil =>
  have:=Mt.snoc (Mt.nil (Af:=Cf) (rk:=rk) (s:=s)) hr ha;simpa using this
 | @snoc x z c e hu b6 cb ih =>
  have:=Mt.snoc ih b6 cb;rwa[zd6,zd6] at this
def UK.up (h:UK Cf rk t n x c):Mt (λ a b=>Cf b a) rk x t c:=by
 induction h with
 |nil=>exact .nil
 | @snoc n x y c d hd hr ha ih =>
  have:=Mt.front (Cf:=λ a b=>Cf b a) hr ha ih;rwa[Int.add_comm d.1,Int.add_comm d.2] at this
def qZ (h:PN a c)(k:PN b d):PN (a.1+b.1,a.2+b.2) (c.1+d.1,c.2+d.2):=by
 unfold PN at *;simp only;omega
def QZ:C4 a (some q)↔∃p,a=some p/\PN p q:=by
 constructor
 ·exact QQ
 ·rintro ⟨p,rfl,h⟩;unfold PN at h;unfold C4;simp only;omega
def lC {K}{s g:Int}{R1 R2}(ok:Bi m rs L A K)(hs:0<=s/\s<m)(hg:0<=g/\g<m)(h1:S9 L (Ig A K) s L.length R1)(h2:S9 L (Su (Ig A K)) g L.length R2)(hx:BG rs s g x):
 Ib ((CH R1 R2).map λ kv=>some kv.2)=x:=by
 have u1:=h1.upC (m:=m) ok.xF;have u2:=h2.upC (m:=m) ok.aaL;have ef:(λ x y=>Ao (Su (Ig A K)) (x,y))=λ x y=>Ao (Ig A K) (y,x):=by funext x y;exact Mw x y _
 rw[ef] at u2;have mem:∀p c,Ao (CH R1 R2) p=some c->some c∈(CH R1 R2).map λ kv=>some kv.2:=λ p c h=>zaq.mpr ⟨_,QS h,rfl⟩;have walk:∀p c,Ao (CH R1 R2) p=some c->Wk rs s g c:=λ p c h=>by
  rw[QY h1.nd] at h;cases q1:Ao R1 p with
  |none=>rw[q1] at h;cases h
  |some a =>
   cases q2:Ao R2 p with
   |none=>rw[q1,q2] at h;cases h
   |some b =>
    rw[q1,q2] at h;cases h;have w1:=((u1.sd p a q1).of_kept ok.kept).walk ok.fA;have w2:=(((u2.sd p b q2).of_kept ok.kept.turn).walk ok.fA.turn).turn;rw[Gu] at w2;exact w1.trans w2
 have ia:((CH R1 R2).map zb0).Nodup:=(DD R2 R1).nodup h1.nd;have walk2:∀v∈(CH R1 R2).map (λ kv=>some kv.2),C4 x v:=λ v hv=>by
  obtain⟨kv,hk,rfl⟩:=zaq.mp hv;exact hx.1 _ (walk kv.1 kv.2 (UM ia hk))
 refine ZA walk2 λ ad=>?_;cases x with
 |none=>exact absurd rfl ad
 |some c =>
  obtain⟨t,n,c1,c2,g1,g2,e⟩:=Wn ok.fA ok.kept hx;obtain⟨p1,q1,l1⟩:=QZ.mp (u1.le g1);obtain⟨p2,q2,l2⟩:=QZ.mp (u2.le g2.up);have hf:Ao (CH R1 R2) t=some (p1.1+p2.1,p1.2+p2.2):=by rw[QY h1.nd,q1,q2];rfl
  exact⟨_,mem t _ hf,QZ.mpr ⟨_,rfl,by rw[e];exact qZ l1 l2⟩⟩
def sQ (p:Int×Int):Pl (n+1) (pD p):=Uu (DZ (Cu _) (DZ (Cu _) Uv))
def xI (p q:Int×Int):bY 16 (pD p) (pD q)=.ok (.bl (decide (p=q))):=by rw[Qm (sQ (n:=15) p) (sQ (n:=15) q),Hj]
abbrev lD (rs:List Road)(p c:Int×Int)(i:Nat):Bool:=match rs[i]? with
 |some r=>decide (r.a=p.1/\r.b=p.2/\Cv r=some c)
 |none=>false
abbrev R3 (rs:List Road)(p c:Int×Int):Nat:=((zb9 rs.length).filter (lD rs p c)).headD 0
def ZR (h:∃r∈rs,r.a=p.1/\r.b=p.2/\Cv r=some c):∃(r:Road) (t:List Nat),(zb9 rs.length).filter (lD rs p c)=R3 rs p c::t/\rs[R3 rs p c]?=some r/\r.a=p.1/\r.b=p.2/\Cv r=some c:=by
 obtain⟨r,hr,h1⟩:=h;obtain⟨i,hi⟩:=List.mem_iff_getElem?.mp hr;have hm:i∈(zb9 rs.length).filter (lD rs p c):=zb2.mpr ⟨zcf.mpr (zaf.mp hi).1,by unfold lD;rw[hi];exact decide_eq_true h1⟩;unfold R3;cases q:(zb9 rs.length).filter (lD rs p c) with
 |nil=>rw[q] at hm;cases hm
 |cons n t =>
  have hn:n∈(zb9 rs.length).filter (lD rs p c):=by rw[q];exact za3
  have hb:=(zb2.mp hn).2;unfold lD at hb;cases z:rs[n]? with
  |none=>rw[z] at hb;cases hb
  |some r' =>
   rw[z] at hb;have ay:r'.a=p.1/\r'.b=p.2/\Cv r'=some c:=by simpa using hb
   exact⟨r',t,rfl,z,ay⟩
abbrev sR (rs:List Road)(A:LA):Nat->Int×Int->List Nat
 |0,_=>[]
 |k+1,p=>match Ao A p with
  |none=>[]
  |some (c,none)=>[R3 rs p c]
  |some (_,some q)=>sR rs A k (p.1,q)++sR rs A k (q,p.2)
abbrev Wy (L:List Int)(p:Int×Int):Nat:=min (C5 L p.1) (C5 L p.2)
inductive R4 (rs:List Road):Int->List Nat->Int->Int->Prop
 |nil (x:Int):R4 rs x [] x 0
 |cons {x y l s:Int} {n:Nat} {N:List Nat} {r:Road}:rs[n]?=some r->r.a=x->r.l=some l->R4 rs r.b N y s->R4 rs x (n::N) y (l+s)
def R4.app {M}(h:R4 rs x N q s)(k:R4 rs q M y t):R4 rs x (N++M) y (s+t):=by
 induction h with
 |nil x=>simpa using k
 |cons h1 h2 h3 _ ih =>
  have:=R4.cons h1 h2 h3 (ih k);simpa [zd6] using this
def R4.inv (h:R4 rs x (n::N) y s):∃r l t,rs[n]?=some r/\r.a=x/\r.l=some l/\R4 rs r.b N y t/\s=l+t:=by
 cases h with
 |cons h1 h2 h3 h4=>exact⟨_,_,_,h1,h2,h3,h4,rfl⟩
section
variable {m:Nat}{A:LA}{K:List (Int×Int)}
def K0 (ok:Bi m rs L A K)(h:Ao A p=some (c,mid)):(p.1∈L/\p.2∈L/\p.1≠p.2)/\(mid=none->∃r∈rs,r.a=p.1/\r.b=p.2/\Cv r=some c)/\∀q,mid=some q->C5 L q<Wy L p/\q∈L/\∃a b ma mb,Ao A (p.1,q)=some (a,ma)/\Ao A (q,p.2)=some (b,mb)/\c=(a.1+b.1,a.2+b.2):=by
 obtain⟨x,y⟩:=p;have hn:=Hk ok.pm;rw[ok.la] at h;have lg:Ad (BC rs L) (x,y)=some c:=by unfold Ad;rw[h];rfl
 obtain⟨_,ad,oj,db⟩:=(Mv ok.pm ok.ok).2.snd x y c lg;have hx:=(Bd ok.pm).mpr oj;have hy:=(Bd ok.pm).mpr db;have hf:=dW (rs:=rs) hn hx hy ad;have h0:∀c p,Ao (lay0 rs) (x,y)≠some (c,some p):=λ c p h=>by cases (ZK rs x y c _ h).1
 have hF:=xA (cd:=λ p=>AD (Ad (BC rs L) (x,p)) (Ad (BC rs L) (p,y))) h0 (L.take (min (C5 L x) (C5 L y)));unfold qO at hf;rw[<-hf] at hF;refine⟨⟨hx,hy,ad⟩,λ e=>?_,λ q e=>?_⟩
 ·subst e;exact (ZK rs x y c none (hF.Av c h)).2
 ·subst e;obtain⟨⟨W1,W2,e1,e2,_⟩,_⟩:=hF.mid c q h;have hq:q∈L.take (min (C5 L x) (C5 L y)):=by rw[e1];simp
  obtain⟨q1,q2⟩:=Wu hn hq;obtain⟨a,b,ha,hb,rfl⟩:=ET e2;have ex:∀ {z:Int×Int} {d:Int×Int},Ad (BC rs L) z=some d->∃md,Ao A z=some (d,md):=fun {z d} hd=>by
   rw[ok.la];unfold Ad at hd;cases w:Ao (BC rs L) z with
   |none=>rw[w] at hd;cases hd
   |some v=>rw[w] at hd;cases hd;exact⟨v.2,rfl⟩
  obtain⟨ma,h1⟩:=ex ha;obtain⟨mb,h2⟩:=ex hb;exact⟨q2,q1,a,b,ma,mb,h1,h2,rfl⟩
def lE (h:C5 L q<Wy L p):Wy L (p.1,q)=C5 L q/\Wy L (q,p.2)=C5 L q:=by
 unfold Wy at *;dsimp only;omega
def My (ok:Bi m rs L A K):∀(k k':Nat) (p:Int×Int),Wy L p<k->Wy L p<k'->sR rs A k p=sR rs A k' p
 |0,_,_,h,_|_+1,0,_,_,h=>absurd h (Nat.not_lt_zero _)
 |k+1,k'+1,p,h,h'=>by
  unfold sR;cases q:Ao A p with
  |none=>rfl
  |some z =>
   obtain⟨c,mid⟩:=z;cases mid with
   |none=>rfl
   |some v =>
    obtain⟨_,_,h3⟩:=K0 ok q;obtain⟨hv,_,_⟩:=h3 v rfl;obtain⟨e1,e2⟩:=lE hv;dsimp only;rw[My ok k k' (p.1,v) (by omega) (by omega),My ok k k' (v,p.2) (by omega) (by omega)]
abbrev CT (rs:List Road)(L:List Int)(A:LA)(p:Int×Int):List Nat:=sR rs A (Wy L p+1) p
def Wz (ok:Bi m rs L A K)(h:Ao A p=some (c,some v)):CT rs L A p=CT rs L A (p.1,v)++CT rs L A (v,p.2):=by
 obtain⟨_,_,h3⟩:=K0 ok h;obtain⟨hv,_,_⟩:=h3 v rfl;obtain⟨e1,e2⟩:=lE hv
 conv=>lhs;unfold CT sR;rw[h]
 dsimp only;unfold CT;rw[My ok (Wy L p) (Wy L (p.1,v)+1) (p.1,v) (by omega) (by omega),My ok (Wy L p) (Wy L (v,p.2)+1) (v,p.2) (by omega) (by omega)]
def Tx (h:Ao A p=some (c,none)):CT rs L A p=[R3 rs p c]:=by
 unfold CT sR;rw[h]
structure aaM (rs:List Road)(L:List Int)(p c:Int×Int)(N:List Nat):Prop where
 ch:R4 rs p.1 N p.2 c.1
 ln:(N.length:Int)=c.2
 ne:1<=N.length
 up:N.length<=2^Wy L p
 lo:∀n∈N.tail,∀r,rs[n]?=some r->C5 L r.a<Wy L p
def NC (ok:Bi m rs L A K):∀(k:Nat){p c:Int×Int}{mid:Option Int},Wy L p=k->Ao A p=some (c,mid)->aaM rs L p c (CT rs L A p):=by
 intro k;induction k using Nat.strongRecOn with
 |ind k ih =>
  intro p c mid hk h;obtain⟨_,h2,h3⟩:=K0 ok h;cases mid with
  |none =>
   rw[Tx h];obtain⟨r,t,_,hr,ha,hb,hc⟩:=ZR (h2 rfl);obtain⟨l,hl,rfl⟩:=Mp hc;refine⟨?_,rfl,zag _,Nat.one_le_two_pow,λ n hn=>by cases hn⟩;have:=R4.cons hr ha hl (.nil r.b);rw[hb] at this;simpa using this
  |some v =>
   obtain⟨hv,_,a,b,ma,mb,f1,f2,rfl⟩:=h3 v rfl;obtain⟨e1,e2⟩:=lE hv;have u1:=ih (C5 L v) (by omega) e1 f1;have u2:=ih (C5 L v) (by omega) e2 f2;rw[Wz ok h];have p2:2^(C5 L v)+2^(C5 L v)<=2^Wy L p:=by
    have:2^(C5 L v+1)<=2^Wy L p:=Nat.pow_le_pow_right (by decide) (by omega);rw[Nat.pow_succ] at this;omega
   have l1:=u1.up;have l2:=u2.up;rw[e1] at l1;rw[e2] at l2;refine⟨u1.ch.app u2.ch,?_,?_,?_,λ n hn r hr=>?_⟩
   ·rw[zai,Int.natCast_add,u1.ln,u2.ln]
   ·rw[zai];have:=u1.ne;omega
   ·rw[zai];omega
   ·have n1:=u1.ne;rcases zal.mp (by
     have:(CT rs L A (p.1,v)++CT rs L A (v,p.2)).tail=(CT rs L A (p.1,v)).tail++CT rs L A (v,p.2):=by
      cases q:CT rs L A (p.1,v) with
      |nil=>rw[q] at n1;cases n1
      |cons x xs=>rfl
     rw[this] at hn;exact hn) with hn|hn
    ·have:=u1.lo n hn r hr;omega
    ·cases q:CT rs L A (v,p.2) with
     |nil=>rw[q] at hn;cases hn
     |cons x xs =>
      rw[q] at hn;rcases zac.mp hn with rfl|hn
      ·have ch:=u2.ch;rw[q] at ch;obtain⟨r',_,_,g1,g2,_⟩:=ch.inv;rw[g1] at hr;cases hr;rw[g2];exact hv
      ·have:=u2.lo n (by rw[q];exact hn) r hr;omega
end
def Tz (rs:List Road):HF 0 (rs.map Bx)=(zb9 rs.length).map λ i:Nat=>D.tup [.int (i:Int),Bx (rs.getD i ⟨0,0,none,0⟩)]:=by
 apply zd3;intro i;rw[zax];by_cases hi:i<rs.length
 ·obtain⟨e,he⟩:∃e,(HF 0 (rs.map Bx))[i]?=some e:=⟨_,za7 (by rw[D4,za2];exact hi)⟩;obtain⟨d,hd,rfl⟩:=Gg he;obtain⟨r,hr,rfl⟩:=BB hd;rw[he,List.getElem?_range hi,zbg,zbc,hr,Nat.zero_add];rfl
 ·rw[zbp (by rw[D4,za2];omega),zbp (by rw[zc9];omega)];rfl
def eC (h:ρ[i]?=some (some (.own (xs++[d])))):jQ i ρ [] (xs++[d])=.ok (ρ.set i (some (.own xs)),.sh d):=by
 rw[Zu h (p:=none) (t:=.lst ((xs++[d]).map .sh)) rfl (d:=d) (by simp)];rw[E6,List.dropLast_concat,toCl_list]
abbrev WA (rs:List Road)(L:List Int)(A:LA)(W:List (Int×Int)):List Nat:=W.flatMap (CT rs L A)
abbrev sS (rs:List Road)(L:List Int)(A:LA):List (Int×Int)->Nat
 |[]=>0
 |p::W=>2*(CT rs L A p).length-1+sS rs L A W
def UW {K}(ok:Bi m rs L A K):∀ {W:List (Int×Int)},(∀p∈W,(Ao A p).isSome=true)->W.length<=(WA rs L A W).length
 |[],_=>zag _
 |p::W,h=>by
  obtain⟨z,hz⟩:=zbx.mp (h p za3);have:=(NC ok _ (c:=z.1) (mid:=z.2) rfl hz).ne;have ih:=UW ok λ q hq=>h q (za4 _ hq);show W.length+1<=(CT rs L A p++WA rs L A W).length;rw[zai];omega
section
variable {c:Bool}{a b d:Expr}{f g h:Ah->M D}
def eE {p q:Int->Int->Bool}(ho:GN X (compareOp op) (eX λ i j=>.bl (p i j)))(aJ:GN X (compareOp bn) (eX λ i j=>.bl (q i j)))(ha:DE X WX c a f)(hb:DE X WX c b g)(hd:DE X WX c d h)(hm:lastMarks [op,bn] [b,d]=false:=by with_unfolding_all rfl):DT X WX (.Compare a [op,bn] [b,d] pos) (λ ρ=>((f ρ).bind λ x=>(g ρ).bind λ y=>Bk (λ i j=>if p i j=true then (h ρ).bind λ z=>Bk (λ _ k=>.ok (.bl (q j k))) (.int 0) z else .ok (.bl false)) x y).bind Sn):=by
 obtain⟨ta,a1,a2⟩:=ha;obtain⟨tb,b1,b2⟩:=hb;obtain⟨td,d1,d2⟩:=hd;refine⟨_,fV ho aJ a1 b1 d1 hm,λ P0 P σ H Q0 ρ E yh=>?_⟩;unfold fS;have hh:=rR (K:=X.K) (P:=Lv c P0 P) yh;refine a2 P0 P σ H _ ρ E ?_;cases e:f ρ with
 |bad|ex x=>rw[e] at hh;exact hh
 |ok x =>
  rw[e] at hh;intro v H1 s1 hv;refine b2 P0 P σ H1 _ ρ (E.same s1) ?_;cases e2:g ρ with
  |bad=>rw[e2] at hh;exact hh
  |ex y=>rw[e2] at hh;exact gV.same (m:=.ex y) hh s1
  |ok y =>
   rw[e2] at hh;simp only[M.A8] at hh;unfold Bk at hh;split at hh
   ·rename_i i j;intro w H2 s2 hw;refine⟨i,j,hv.int_inv,hw.int_inv,p i j,rfl,?_⟩;dsimp only at hh;by_cases hp:p i j=true
    ·rw[if_pos hp] at hh ⊢;refine d2 P0 P σ H2 _ ρ ((E.same s1).same s2) ?_;cases e3:h ρ with
     |bad=>rw[e3] at hh;exact hh
     |ex z=>rw[e3] at hh;exact gV.same (gV.same (m:=.ex z) hh s1) s2
     |ok z =>
      rw[e3] at hh;simp only[M.A8] at hh;cases z with
      |int k=>exact λ u H3 s3 hu=>⟨j,k,hw.int_inv,hu.int_inv,hh _ H3 ((s1.trans s2).trans s3) (.bl _)⟩
      |_=>exact hh.elim
    ·rw[if_neg hp] at hh ⊢;exact hh _ H2 (s1.trans s2) (.bl _)
   ·exact hh.elim
end
section
variable {a:Expr}{i:Nat}{fp:Ah->M (List Nat)}
def TB (ha:DP X WX a i fp)(be: ~~~(swapsWith (.Call (.Attribute a "clear" apos) [] [] ac) none pos.line X.env=pure false))(ai: ~~~(attributeBase a "clear" X.env (eval a X.env)=eval a X.env))(aj: ~~~((apos.endLine==ac.line)=true)):
 DS X WX (.Expr (.Call (.Attribute a "clear" apos) [] [] ac) pos) (λ ρ=>(fp ρ).bind λ π=>(E8 i ρ π).bind λ _=>II i ρ π (.lst [])):=by
 obtain⟨ta,a1,a2⟩:=ha;refine⟨_,FF (gK zc2 PySem.F.slot_list_clear PySem.F.type_list_clear gL a1 ai aj) be,λ P0 P σ H Z ρ E h=>?_⟩;dsimp only at h;refine a2 P0 P σ H _ ρ E ?_;refine iN h E λ π h=>?_;intro v t1 H1 s1 pl;have E1:=E.same s1;cases q1:E8 i ρ π with
 |bad=>rw[q1] at h;exact h.elim
 |ex x=>unfold E8 at q1;split at q1<;>cases q1
 |ok ts =>
  rw[q1] at h;simp only[M.A8] at h;obtain⟨rfl,l,xs,fq,rfl,hl,ol,nl,vq⟩:=pl.lst E1 q1;refine⟨.inl ⟨rfl,xs,.of hl⟩,l,xs,rfl,rfl,hl,?_⟩;obtain⟨c,p,t0,g1,g2,E3,t3⟩:=E1.oI pl hl ol (us:=[]) (ys:=[]) .nil zbn (by simp) (λ b hb=>by cases hb);rw[Hb g1 g2] at h;exact h _ _ _ ((E.tr s1).trans t3) E3
end
def aaN {α:Type}(l:List α):cG [.lst (l.map λ _=>D.bl true)]=.ok (.bl true):=by
 have e:(l.map λ _=>D.bl true)=(l.map λ _=>true).map D.bl:=by rw[zby];rfl
 rw[e,IU];simp
def acb (n:Str)(N:List Str)(d:D)(ds:List D):D5 (n::N) (d::ds)=some (.val d)::D5 N ds:=by
 unfold D5;rw[za8,za8,Nat.add_sub_add_right];rfl
def acd (n:Str)(N:List Str):D5 (n::N) []=none::D5 N []:=rfl
def ace:D5 [] []=[]:=rfl
def R5 (hr:r∈rs)(hl:r.l=some l)(w:Wk rs r.b g c)(h:BG rs r.a g (some (l+c.1,1+c.2))):BG rs r.b g (some c):=by
 refine⟨λ d hd=>?_,λ p hp=>by cases hp;exact w⟩;have:=h.1 _ (.cons hr hl hd);simp only[C4] at this ⊢;omega
def UX (Aw:∀r∈rs,PL m r/\r.a≠r.b)(h:Wk rs u g c)(hu:0<=u/\u<m):BG rs u g (some c)->∃V:List Int,V.Nodup/\(V.length:Int)=c.2+1/\∀v∈V,(0<=v/\v<m)/\∃d,BG rs v g (some d)/\d.2<=c.2:=by
 induction h with
 |nil u=>exact λ hm=>⟨[u],by simp,rfl,λ v hv=>by rw[za9.mp hv];exact⟨hu,_,hm,Int.le_refl _⟩⟩
 | @cons r l g c hr hl w ih =>
  intro hm;have ok:=(Aw r hr).1;obtain⟨V,h1,h2,h3⟩:=ih ⟨ok.b0,ok.b1⟩ (R5 hr hl w hm);refine⟨r.a::V,zbd.mpr ⟨λ z=>?_,h1⟩,by rw[za8];omega,λ v hv=>?_⟩
  ·obtain⟨_,d,hd,al⟩:=h3 _ z;have:=hd.Cj hm;cases this;omega
  ·rcases zac.mp hv with rfl|hv
   ·exact⟨hu,_,hm,Int.le_refl _⟩
   ·obtain⟨a,d,hd,al⟩:=h3 _ hv;exact⟨a,d,hd,by omega⟩
def IY (Aw:∀r∈rs,PL m r/\r.a≠r.b){u:Int}(hu:0<=u/\u<m)(h:BG rs u g (some c)):c.2<m:=by
 obtain⟨V,h1,h2,h3⟩:=UX Aw (h.2 c rfl) hu h;have:=Gq h1 (u:=Bu m) λ v hv=>by
  obtain⟨⟨a,b⟩,_⟩:=h3 v hv;exact zaq.mpr ⟨v.toNat,zcf.mpr (by omega),by omega⟩
 rw[Gr] at this;omega
section
variable {m:Nat}{A:LA}{K:List (Int×Int)}
abbrev eF (A:LA)(T:List Co)(p:Int)(q:Int×Int):Bool:=decide (AD (Ad A q) (atC T q.2)=atC T p)
abbrev O6 (A:LA)(K:List (Int×Int))(T:List Co)(p:Int):List (Int×Int):=(K.filter λ q=>decide (q.1=p)).filter (eF A T p)
def eG (ok:Bi m rs L A K){p:Int}(hT:∀w:Int,0<=w->w<m->BG rs w g (atC T w))(hp:0<=p/\p<m)(ad:p≠g)(hc:atC T p=some cp):∃q r,O6 A K T p=q::r:=by
 have hm:=hT p hp.1 hp.2;rw[hc] at hm;have w:=hm.2 cp rfl
 suffices ∃q,q∈O6 A K T p by
  obtain⟨q,hq⟩:=this;cases e:O6 A K T p with
  |nil=>rw[e] at hq;cases hq
  |cons a r=>exact⟨a,r,rfl⟩
 cases w with
 |nil=>exact (ad rfl).elim
 | @cons r l _ c' hr hl w' =>
  have v9:=ok.ok r hr;have hb:=R5 hr hl w' hm;have eb:atC T r.b=some c':=(hT r.b v9.1.b0 v9.1.b1).Cj hb;have e1:Cv r=some (l,1):=by unfold Cv;rw[hl]
  have hle:=ok.fA.road r hr;rw[e1] at hle;obtain⟨d,hd,f9⟩:=QQ hle;have wd:=(ok.fA.snd _ _ _ hd).1;have h2:=hm.1 _ (wd.trans w');have ed:d=(l,1):=by
   simp only[C4] at h2;unfold PN at f9;dsimp only at f9;exact Prod.ext (by omega) (by omega)
  subst ed;have aX:BG rs r.a r.b (some (l,1)):=⟨λ e he=>by
   have:=hm.1 _ (he.trans w');simp only[C4] at this ⊢;omega,λ p hp=>by cases hp;exact wd⟩
  have hK:(r.a,r.b)∈K:=(ok.km _).mpr ⟨_,hd,aX⟩;refine⟨(r.a,r.b),zb2.mpr ⟨zb2.mpr ⟨hK,by simp⟩,?_⟩⟩;unfold eF;dsimp only;rw[hc,eb,hd];simp[AD]
structure acf (m:Nat)(rs:List Road)(A:LA)(T:List Co)(p:Int)(cp:Int×Int)(q ca cq:Int×Int):Prop where
 a:q.1=p
 r:0<=q.2/\q.2<m
 c:Ad A q=some ca
 t:atC T q.2=some cq
 s:cp=(ca.1+cq.1,ca.2+cq.2)
def xJ (ok:Bi m rs L A K)(hc:atC T p=some cp)(h:O6 A K T p=q::r):∃ca cq,acf m rs A T p cp q ca cq:=by
 have hq:q∈O6 A K T p:=by rw[h];exact za3
 obtain⟨h1,h2⟩:=zb2.mp hq;obtain⟨h3,h4⟩:=zb2.mp h1;have e4:q.1=p:=by simpa using h4
 have e2:AD (Ad A q) (atC T q.2)=some cp:=by
  unfold eF at h2;rw[hc] at h2;simpa using h2
 obtain⟨a,b,ha,hb,e⟩:=ET e2;exact⟨a,b,e4,(ok.Xi h3).2.2,ha,hb,e⟩
end
def O7 {m g:Nat}(hT:T.length=m)(hU:U.length=m)(h1:∀w:Int,0<=w->w<m->BG rs w g (atC T w))(h2:∀w:Int,0<=w->w<m->BG rs w g (atC U w)):T=U:=by
 refine zd3 λ j=>?_;by_cases h:j<m
 ·have a:=EH (cs:=T) (i:=(j:Int)) (by omega) (by omega);have b:=EH (cs:=U) (i:=(j:Int)) (by omega) (by omega);rw[zbj] at a b;rw[a,b,(h1 j (by omega) (by omega)).Cj (h2 j (by omega) (by omega))]
 ·rw[zbp (by omega),zbp (by omega)]
abbrev Fe (N:List Nat):D:=.lst (N.map λ n:Nat=>D.int (n:Int))
abbrev Cg (x:Co)(N:List Nat)(T:List Co):D:=match x with | none=>.Av | some c=>.tup [cst (some c),Fe N,.lst (T.map cst)]
section
variable {m:Nat}{A:LA}{K:List (Int×Int)}
def rA (ok:Bi m rs L A K)(h:O6 A K T p=q::r):∃c,Ad A q=some c/\BG rs q.1 q.2 (some c):=by
 have hq:q∈O6 A K T p:=by rw[h];exact za3
 obtain⟨h1,_⟩:=zb2.mp hq;obtain⟨h3,_⟩:=zb2.mp h1;exact (ok.km q).mp h3
end
abbrev sT (i:Nat)(ρ:Ah)(d:D)(t:OT):M Out:=match ρ[i]? with
 |some (some c)=>(match treeOf c with|some (_,u)=>.ok (.CC (.ow (.tree none (.tup [.sh d,t,u]))))|none=>.bad)
 |_=>.bad
section
variable {a b:Expr}{f:Ah->M D}{aT:Pos}
def rB (i:Nat){k}(hv:PE X (.Name x p1) (Sf i))(ha:DE X WX true a f)(hb:DN X WX b fn)(h1: ~~~(starEach [a,b,.Name x p1] X.env=(false,eval a X.env)::starEach [b,.Name x p1] X.env))(h2: ~~~(starEach [b,.Name x p1] X.env=(false,eval b X.env)::starEach [.Name x p1] X.env))(h3: ~~~(starEach [.Name x p1] X.env=(false,eval (.Name x p1) X.env)::starEach [] X.env)):
 DS X WX (.Return (some (.Tuple [a,b,.Name x p1] k aT)) pos) (λ ρ=>(f ρ).bind λ d=>(fn ρ).bind λ t=>sT i ρ d t):=by
 obtain⟨ta,a1,a2⟩:=ha;obtain⟨tb,b1,b2⟩:=hb;refine⟨_,U9 (Xz (Ba a1 (Ba b1 (Ba hv Ci h3) h2) h1)),λ P0 P σ H Z ρ E h=>?_⟩;dsimp only at h;refine a2 P0 P σ H _ ρ E ?_;cases q:f ρ with
 |bad=>rw[q] at h;exact h
 |ex x=>rw[q] at h;exact λ H' s=>h H' P (E.tr s)
 |ok d =>
  rw[q] at h;simp only[M.A8] at h;intro v H1 s1 yi;refine b2 P0 P σ H1 _ ρ (E.same s1) ?_;cases q2:fn ρ with
  |bad=>rw[q2] at h;exact h
  |ex x=>rw[q2] at h;exact λ H' s=>h H' P (E.tr (s1.trans s))
  |ok t =>
   rw[q2] at h;simp only[M.A8] at h;intro w fp H2 s2 n2 aO o2;unfold sT at h;split at h
   ·rename_i c e1;split at h
    ·rename_i p0 u e2;have io:GU c=true:=by
      cases c with
      |val d=>cases e2
      |own ds|ow o=>rfl
     obtain⟨vi,fpi,g1,g2,g3,g4⟩:=E.ows i c e1 io;have ou:=g2.toT e2;refine⟨vi,g1,zbq (AF (by simp)),λ p hp=>?_⟩;have ce:∀a∈fp,H a=none:=λ a ha=>Dw s1 (n2 a ha);have wa:=s1.trans s2;have S3:=wa.trans (AL hp (.tup [v,w,vi]));have wb:=GZ (E.same wa).Cb o2;have ad:∀a∈fp,a≠p:=λ a ha z=>(o2.Cb a ha).no (by rw[z];exact hp);have wc:=o2.move (Zc (o:=.tup [v,w,vi]) hp wb) λ a ha=>Ai (ad a ha);have yj:=ou.move (Cr S3 ce) λ a ha=>by
      obtain⟨o,qo,_⟩:=E.Cb a (g3 a ha).1;rw[qo];exact S3 _ _ qo
     have js:=yi.mono (Cr (s2.trans (AL hp (.tup [v,w,vi]))) n2);refine h _ _ _ (PU P fp) (E.trn S3 ce) (λ a ha=>.inl (E.sub a ha)) (GZ (E.same S3).Cb wc) (show C6 X.K _ (PU P fp) (.ref p) (.tup [.sh d,t,u]) _ from .tup (xs:=[v,w,vi]) ?_ (.cons (.sh js) (.cons wc (.cons yj .nil)))) (λ a ha=>?_) ?_
     ·rw[AG λ z=>(wb p z).no hp];exact An
     ·rw[List.nil_append,zba] at ha;rcases zal.mp ha with ha|ha
      ·exact⟨.inr ha,λ z=>(E.Cb a (E.sub a z)).no (ce a ha)⟩
      ·exact⟨.inl (g3 a ha).1,(g3 a ha).2⟩
     ·rw[List.nil_append,zba,zaw];exact⟨aO,g4,λ a ha b hb e=>(E.Cb b (g3 b hb).1).no (by rw[<-e];exact ce a ha)⟩
    ·exact h.elim
   ·exact h.elim
end
abbrev FD (x:Co)(N:List Nat)(T:List Co):OT:=match x with
 |none=>.sh .Av
 |some c=>.tup [.sh (cst (some c)),.lst ((N.map λ n:Nat=>D.int (n:Int)).map .sh),.lst ((T.map cst).map .sh)]
def K1 (x:Co)(N:List Nat)(T:List Co):er (FD x N T)=Cg x N T:=by
 cases x with
 |none=>rfl
 |some c =>
  unfold FD Cg Fe;simp only[er,bW,Nq]
abbrev KwB (K:za1)(fd:FuncData)(ps:List Str)(key:Str):Prop:=∀(s:Shared) (us:List Value) (w:Value),K.In s.heap->us.length+1=ps.length->BindsTo s fd ⟨us,[(key,w)]⟩ (ps.zip (us++[w]))
section
variable {P:Program}{w:World}{K:za1}
def aaO {st}(F:jY K x qual st f fd)(S:Ab N ps (A3 st))(g:Ah->M Out)(hb:∀(AZ:Value) (A:Around) (outer:List Env) (s:Shared) (H:Hp) (E:XK),Br k (A.deeper (envOfC qual (A3 st) s.heap.objs.size f AZ))->Vg (mC P w K mg base N qual (A3 st) f AZ A outer s H E) (CQ K E) (AE st) g):
 CL P w K mg base (S6 P w base) (k+1) f fd ps (spT K ps.length λ ds=>VZ (g (D5 N ds))):=by
 obtain⟨oc,od,dV,kV,doc,pm,an,AZ,ct,Vw,rfl,lk,aQ⟩:=F.ex;refine Vv lk aQ S (λ vs H Q E h=>h.1) λ A outer s H vs Q E hr h=>?_;obtain⟨hl,P',ds,ht,hv,hq⟩:=h;obtain⟨t,h1,h2⟩:=hb AZ A outer s H E hr;refine⟨t,h1,h2 ⟨P',λ _=>0⟩ P' _ H _ _ (Nj ht hv) ?_⟩;dsimp only at hq;revert hq;cases g (D5 N ds) with
 |bad=>exact λ h=>h.elim
 |ex x=>exact λ h H' P2 t=>h H' (CI t)
 |ok o =>
  cases o with
  |ret d=>exact λ h v H' P2 t hv=>h v [] H' (CI t) (λ a ha=>by cases ha) zbn (.sh (by rw[Qw];exact hv))
  |next ρ=>exact λ h σ' H' P2 t E=>h .Av [] H' (CI t) (λ a ha=>by cases ha) zbn (.sh .Av)
  |brk ρ|cont ρ=>exact λ h=>h.elim
  |CC c=>exact λ h v fp H' P2 t hs ht ho hp nd=>Zd h t hs ho hp nd
  |FX d ρ=>exact λ h=>h.elim
structure Ym (K:za1)(x m qual key:Str)(st:Stmt)(ps:List Str):Prop where
 ex:∃C f fd,zau K mainGlobals x=some (some (.ref C))/\Ve K C/\Meth K C m f/\jY K m qual st f fd/\(Binds K fd ps []/\Binds K fd ps [.none])/\KwB K fd ps key
structure R6 (P:Program)(w:World)(K:za1)(mg:Str->Option Value)(base:Heap)(x m key:Str)(k n:Nat)(F:List D->M OT):Prop where
 ex:∃C fa fd ps,zau K mainGlobals x=some (some (.ref C))/\Ve K C/\Meth K C m fa/\CL P w K mg base (S6 P w base) k fa fd ps (spT K n F)/\(Binds K fd ps []/\Binds K fd ps [.none])/\KwB K fd ps key
def lF {st}(T:Ym K x m qual key st ps)(S:Ab N ps (A3 st))(g:Ah->M Out)(hb:∀(f:Addr) (AZ:Value) (A:Around) (outer:List Env) (s:Shared) (H:Hp) (E:XK),Br k (A.deeper (envOfC qual (A3 st) s.heap.objs.size f AZ))->Vg (mC P w K mg base N qual (A3 st) f AZ A outer s H E) (CQ K E) (AE st) g)(hn: ~~~(ps.length=n)):
 R6 P w K mg base x m key (k+1) n (λ ds=>VZ (g (D5 N ds))):=by
 obtain⟨C,f,fd,h1,h2,h3,F,hB⟩:=T.ex;subst hn;exact⟨⟨C,f,fd,ps,h1,h2,h3,aaO F S g (hb f),hB⟩⟩
def R6.m {m}(G:R6 P w K mg base x m key k n F):FC P w K mg base x m k n F:=by
 obtain⟨C,fa,fd,ps,h1,h2,h3,h4,h5,_⟩:=G.ex;exact⟨⟨C,fa,fd,ps,h1,h2,h3,h4,h5.1⟩⟩
def xK (e:mg y=mg x)(G:rW P w K mg base x k n F):rW P w K mg base y k n F:=by
 obtain⟨fa,fd,ps,h1,h2,h3⟩:=G.ex;exact⟨⟨fa,fd,ps,h1,e.trans h2,h3⟩⟩
def aaP {st}(X:K.In h)(G:h.Ns mainGlobals mg)(e:zau K mainGlobals y=zau K mainGlobals x)(p:FP K x st):mg y=mg x:=by
 obtain⟨f,_,_,_,_,_,_,_,_,_,a,_⟩:=p.ex;rw[PySem.W.mg_of X G a,PySem.W.mg_of X G (e.trans a)]
end
section
variable {fs:Ah->M (List D)}
abbrev xM (X:Cx)(m:Str)(k:Nat)(E:XK)(ta:TE)(t:TA):TE:=λ σ H Q=>ta σ H λ x H1=>∃a C dx fs f fd ps n F,x=.ref a/\H1 a=some (.ins C dx fs)/\fs.lookup m=none/\Ve X.K C/\Meth X.K C m f/\CL X.prog X.w X.K X.mg X.base (S6 X.prog X.w X.base) k f fd ps (spT X.K n F)/\Binds X.K fd ps [.none]/\
 t σ H1 λ vs H2=>spT X.K n F (x::(vs++[.Av])) H2 Q E
def lG (he:PE X o ta)(hr:Br k X.A)(hx:FU (S6 X.prog X.w X.base) X E)(ha:PA X (e::es) t)(ax: ~~~(starEach (e::es) X.env=(false,eval e X.env)::starEach es X.env))(hpl: ~~~((backTo pos (starEach es X.env)).any (·.1)=false))(ht: ~~~(eval (.Call (.Attribute o m apos) (e::es) [] pos) X.env=(do
  let ov <-eval o X.env
  standAt apos.atName
  let (f,first) <-holding [ov] (getMethod ov m pl)
  callWith pos f first (backTo pos (starEach (e::es) X.env)) (backToKw pos (keywordEach [] X.env))))):
 PE X (.Call (.Attribute o m apos) (e::es) [] pos) (xM X m k E ta t):=by
 intro pins s σ H Q I h;refine PySem.W.methodCall_KW (pl:=pl) (B9 (he pins s σ H _ I h) λ u s1 zz=>?_) ht;obtain⟨x,H1,I1,rx,a,C,dx,fs,f,fd,ps,n,F,ex,ea,l,c,hm,hF,hb,q⟩:=zz;subst ex;obtain rfl:u=zb8 a:=rx;refine GO I1 ea c hm l ?_;refine PySem.W.callWith_K (first:=[.ref a]) (h₀:=X.base) I.ok.mod.Xi hm.kp (B9 (ha pos pins s1 σ H1 _ I1 q) λ us s2 ⟨vs,H2,I2,r,q2⟩=>⟨I2.NU,?_⟩) ax hpl;exact N9 (us:=.ref a::us) (vs:=.ref a::vs) hF hr hb (.cons (show RelV .Av .none from rfl) .nil) hx I2 (.cons rfl r) q2
def R7 (xo:Gh X E)(M0:R6 X.prog X.w X.K X.mg X.base x m key k n F)(hr:Br k X.A)(ho:DE X (CQ X.K E) true o fo)(ha:DA X (CQ X.K E) true (e::es) fs)(aF:(e::es).length+2=n)(ax: ~~~(starEach (e::es) X.env=(false,eval e X.env)::starEach es X.env))(hpl: ~~~((backTo pos (starEach es X.env)).any (·.1)=false))(ht: ~~~(eval (.Call (.Attribute o m apos) (e::es) [] pos) X.env=(do
  let ov <-eval o X.env
  standAt apos.atName
  let (f,first) <-holding [ov] (getMethod ov m pl)
  callWith pos f first (backTo pos (starEach (e::es) X.env)) (backToKw pos (keywordEach [] X.env))))):
 DN X (CQ X.K E) (.Call (.Attribute o m apos) (e::es) [] pos) (λ ρ=>(fo ρ).bind λ d=>(Dz [(x,F)] m d).bind λ F=>(fs ρ).bind λ ds=>F (d::(ds++[.Av]))):=by
 obtain⟨ta,a1,a2⟩:=ho;obtain⟨tb,b1,b2,b3⟩:=ha;refine⟨_,lG (pl:=pl) a1 hr xo.call b1 ax hpl ht,λ P0 P σ H Q ρ Ev h=>?_⟩;dsimp only at h;refine a2 P0 P σ H _ ρ Ev ?_;cases q:fo ρ with
 |bad|ex x=>rw[q] at h;exact h
 |ok d =>
  rw[q] at h;simp only[M.A8] at h;intro v H1 s1 hv;cases q2:Dz [(x,F)] m d with
  |bad=>rw[q2] at h;exact h.elim
  |ex y=>exact (JW q2).elim
  |ok G =>
   rw[q2] at h;simp only[M.A8] at h;obtain⟨x',ns,sr,rfl,aA,ie⟩:=Ml q2;cases za9.mp aA;obtain⟨C,fa,fd,ps,h1,h2,h3,h4,h5,_⟩:=M0.ex;cases hv with
   |ins hn hH hl =>
    rw[hn] at h1;cases h1;refine⟨_,_,_,_,fa,fd,ps,n,F,rfl,(Al hH).2,IR hl ie,h2,h3,h4,h5.2,?_⟩;refine b2 P0 P σ H1 _ ρ (Ev.same s1) ?_;cases q3:fs ρ with
    |bad=>rw[q3] at h;exact h
    |ex y=>rw[q3] at h;exact λ H' s=>h H' (s1.trans s)
    |ok ds =>
     rw[q3] at h;simp only[M.A8] at h;intro vs H2 s2 a5;have bi:=(BQ.ins hn hH hl).mono s2.del;exact⟨by rw[za8,zai,a5.length,b3 ρ ds q3];exact aF,P,_,((Ev.same s1).same s2).Cb,.cons bi (a5.append (.cons .Av .nil)),h.same (s1.trans s2)⟩
end
section
variable {fs:Ah->M (List D)}{key:Str}
abbrev xN (X:Cx)(m key:Str)(k:Nat)(E:XK)(ta:TE)(t:TA)(tk:TE):TE:=λ σ H Q=>ta σ H λ x H1=>∃a C dx fs f fd ps n F,x=.ref a/\H1 a=some (.ins C dx fs)/\fs.lookup m=none/\Ve X.K C/\Meth X.K C m f/\CL X.prog X.w X.K X.mg X.base (S6 X.prog X.w X.base) k f fd ps (spT X.K n F)/\KwB X.K fd ps key/\
 t σ H1 λ vs H2=>tk σ H2 λ v H3=>spT X.K n F (x::(vs++[v])) H3 Q E
def lH (he:PE X o ta)(hr:Br k X.A)(hx:FU (S6 X.prog X.w X.base) X E)(ha:PA X (e::es) t)(hk:PE X ek tk)(a7: ~~~((backToKw pos (keywordEach [⟨some key,ek,a6⟩] X.env)).all (·.1.isSome)=true))(gy: ~~~((backToKw pos (keywordEach [⟨some key,ek,a6⟩] X.env)).filterMap (·.1)=[key]))(ax: ~~~(starEach (e::es) X.env=(false,eval e X.env)::starEach es X.env))(hpl: ~~~(((backTo pos (starEach (e::es) X.env)).any (·.1)||(backToKw pos (keywordEach [⟨some key,ek,a6⟩] X.env)).any (·.1.isNone))=false))(ht: ~~~(eval (.Call (.Attribute o m apos) (e::es) [⟨some key,ek,a6⟩] pos) X.env=(do
  let ov <-eval o X.env
  standAt apos.atName
  let (f,first) <-holding [ov] (getMethod ov m pl)
  callWith pos f first (backTo pos (starEach (e::es) X.env)) (backToKw pos (keywordEach [⟨some key,ek,a6⟩] X.env))))):
 PE X (.Call (.Attribute o m apos) (e::es) [⟨some key,ek,a6⟩] pos) (xN X m key k E ta t tk):=by
 intro pins s σ H Q I h;refine PySem.W.methodCall_KW (pl:=pl) (B9 (he pins s σ H _ I h) λ u s1 zz=>?_) ht;obtain⟨x,H1,I1,rx,a,C,dx,fs,f,fd,ps,n,F,ex,ea,l,c,hm,hF,hb,q⟩:=zz;subst ex;obtain rfl:u=zb8 a:=rx;refine GO I1 ea c hm l ?_;refine PySem.W.callWith_KW (first:=[.ref a]) (h₀:=X.base) I.ok.mod.Xi hm.kp a7 (B9 (ha pos pins s1 σ H1 _ I1 q) λ us s2 zz=>?_) hpl ax;obtain⟨vs,H2,I2,r,q2⟩:=zz;show wpAny _ _ (evalAll [(do let v <-eval ek X.env;standAt pos;pure v)]) _ _ s2;refine wpAny_evalAll_cons (wpAny_bind (B9 (hk pins s2 σ H2 _ I2 q2) λ u s3 ⟨v,H3,I3,rv,q3⟩=>wpAny_bind (wpAny_standAt (wpAny_pure (wpAny_evalAll_nil ⟨I3.NU,?_⟩)))));rw[gy];have r2:Vals (V.ref a::(vs++[v])) (zb8 a::(us++[u])):=.cons rfl (r.append (.cons rv .nil));have hl:(zb8 a::us).length+1=ps.length:=by
  have e:=r2.length;rw[hF.len _ _ _ _ q3] at e;rw[e];simp
 refine wpAny_call (codeAny_mono (hF.run X.A X.stack s3 H3 ⟨zb8 a::us,[(key,u)]⟩ (zb8 a::(us++[u])) _ Q E hr I3.uM (hb s3 (zb8 a::us) u I3.NU hl) r2 q3) λ r s' hq=>?_);cases r with
 |error e=>exact hx pins σ H3 s3 e s' I3 hq
 |ok fl =>
  cases fl with
  |ret u=>exact I3.after hq
  |next|brk|cont=>exact zce hq
def lI (xo:Gh X E)(M0:R6 X.prog X.w X.K X.mg X.base x m key k n F)(hr:Br k X.A)(ho:DE X (CQ X.K E) true o fo)(ha:DA X (CQ X.K E) true (e::es) fs)(hk:DE X (CQ X.K E) true ek fk)(aF:(e::es).length+2=n)(a7: ~~~((backToKw pos (keywordEach [⟨some key,ek,a6⟩] X.env)).all (·.1.isSome)=true))(gy: ~~~((backToKw pos (keywordEach [⟨some key,ek,a6⟩] X.env)).filterMap (·.1)=[key]))(ax: ~~~(starEach (e::es) X.env=(false,eval e X.env)::starEach es X.env))(hpl: ~~~(((backTo pos (starEach (e::es) X.env)).any (·.1)||(backToKw pos (keywordEach [⟨some key,ek,a6⟩] X.env)).any (·.1.isNone))=false))(ht: ~~~(eval (.Call (.Attribute o m apos) (e::es) [⟨some key,ek,a6⟩] pos) X.env=(do
  let ov <-eval o X.env
  standAt apos.atName
  let (f,first) <-holding [ov] (getMethod ov m pl)
  callWith pos f first (backTo pos (starEach (e::es) X.env)) (backToKw pos (keywordEach [⟨some key,ek,a6⟩] X.env))))):
 DN X (CQ X.K E) (.Call (.Attribute o m apos) (e::es) [⟨some key,ek,a6⟩] pos) (λ ρ=>(fo ρ).bind λ d=>(Dz [(x,F)] m d).bind λ F=>(fs ρ).bind λ ds=>(fk ρ).bind λ d2=>F (d::(ds++[d2]))):=by
 obtain⟨ta,a1,a2⟩:=ho;obtain⟨tb,b1,b2,b3⟩:=ha;obtain⟨tk,k1,k2⟩:=hk;refine⟨_,lH (pl:=pl) a1 hr xo.call b1 k1 a7 gy ax hpl ht,λ P0 P σ H Q ρ Ev h=>?_⟩;dsimp only at h;refine a2 P0 P σ H _ ρ Ev ?_;cases q:fo ρ with
 |bad|ex x=>rw[q] at h;exact h
 |ok d =>
  rw[q] at h;simp only[M.A8] at h;intro v H1 s1 hv;cases q2:Dz [(x,F)] m d with
  |bad=>rw[q2] at h;exact h.elim
  |ex y=>exact (JW q2).elim
  |ok G =>
   rw[q2] at h;simp only[M.A8] at h;obtain⟨x',ns,sr,rfl,aA,ie⟩:=Ml q2;cases za9.mp aA;obtain⟨C,fa,fd,ps,h1,h2,h3,h4,_,h6⟩:=M0.ex;cases hv with
   |ins hn hH hl =>
    rw[hn] at h1;cases h1;refine⟨_,_,_,_,fa,fd,ps,n,F,rfl,(Al hH).2,IR hl ie,h2,h3,h4,h6,?_⟩;refine b2 P0 P σ H1 _ ρ (Ev.same s1) ?_;cases q3:fs ρ with
    |bad=>rw[q3] at h;exact h
    |ex y=>rw[q3] at h;exact λ H' s=>h H' (s1.trans s)
    |ok ds =>
     rw[q3] at h;simp only[M.A8] at h;intro vs H2 s2 a5;refine k2 P0 P σ H2 _ ρ ((Ev.same s1).same s2) ?_;cases q4:fk ρ with
     |bad=>rw[q4] at h;exact h
     |ex y=>rw[q4] at h;exact λ H' s=>h H' ((s1.trans s2).trans s)
     |ok d2 =>
      rw[q4] at h;simp only[M.A8] at h;intro v2 H3 s3 rb;have bi:=((BQ.ins hn hH hl).mono s2.del).mono s3.del;exact⟨by rw[za8,zai,a5.length,b3 ρ ds q3];exact aF,P,_,(((Ev.same s1).same s2).same s3).Cb,.cons bi ((a5.mono s3.del).append (.cons rb .nil)),h.same ((s1.trans s2).trans s3)⟩
end
abbrev ZS (x:D)(m m2:M D):M D:=match x with
 | .BE b ks vs=>m.bind λ y=>m2.bind λ z=>if keyOk b y=true then .ok ((F5 ks vs y).getD z) else .bad
 |_=>.bad
section
variable {c:Bool}{f g g2:Ah->M D}
def lJ (hu:X.A.units+n<cLine)(ha:DE X WX c o f)(hb:DE X WX c k g)(sn:DE X WX c e g2)(m:M2 X o "get" apos k e ac:=by exact⟨rfl,rfl,rfl,rfl⟩)(hn:1<=n:=by decide):
 DE X WX c (.Call (.Attribute o "get" apos) [k,e] [] ac) (λ ρ=>(f ρ).bind λ x=>ZS x (g ρ) (g2 ρ)):=by
 obtain⟨ta,a1,a2⟩:=ha;obtain⟨tb,b1,b2⟩:=hb;obtain⟨tc,c1,c2⟩:=sn;refine⟨_,gZ (by omega) a1 b1 c1 m,λ P0 P σ H Q ρ E h=>?_⟩;dsimp only at h;refine a2 P0 P σ H _ ρ E ?_;cases q:f ρ with
 |bad|ex x=>rw[q] at h;exact h
 |ok x =>
  rw[q] at h;simp only[M.A8] at h;intro v H1 s1 hv;unfold ZS at h;split at h
  ·rename_i bb ks vs;obtain⟨a,rfl,hD⟩:=Zy hv;refine⟨a,rfl,hD,b2 P0 P σ H1 _ ρ (E.same s1) ?_⟩;cases e2:g ρ with
   |bad=>rw[e2] at h;exact h
   |ex y=>rw[e2] at h;exact gV.same (m:=.ex y) h s1
   |ok y =>
    rw[e2] at h;simp only[M.A8] at h;intro w H2 s2 hw;refine c2 P0 P σ H2 _ ρ ((E.same s1).same s2) ?_;cases e3:g2 ρ with
    |bad=>rw[e3] at h;exact h
    |ex y=>rw[e3] at h;exact gV.same (m:=.ex y) (gV.same (m:=.ex y) h s1) s2
    |ok z =>
     rw[e3] at h;simp only[M.A8] at h;intro u H3 s3 yk;by_cases hk:keyOk bb y=true
     ·rw[if_pos hk] at h;obtain⟨a',xs,ea,g',hl,aS⟩:=Ph ((hv.mono s2.del).mono s3.del) (hw.mono s3.del) (E7 hk);cases ea;refine⟨_,g',?_⟩;refine gV.same (gV.same (gV.same h s1) s2) s3 _ H3 (Aj.refl _) ?_;cases eg:F5 ks vs y with
      |none =>
       have:F5 ks xs y=none:=by
        cases tf:F5 ks xs y with
        |none=>rfl
        |some z =>
         have h1:=ES (xs:=xs) (y:=y) aS;have h2:=ES (ks:=ks) (xs:=vs) (y:=y) (by rw[<-hl.length,aS]);rw[h1,tf,eg] at h2;cases h2
       rw[this];exact yk
      |some d =>
       obtain⟨x,e3,e4⟩:=LB hl eg;rw[e3];exact e4
     ·rw[if_neg hk] at h;exact h.elim
  ·exact h.elim
end
def lK (F:CL X.prog X.w X.K X.mg X.base (S6 X.prog X.w X.base) k f fd ps sp)(F':CL X.prog X.w X.K X.mg X.base (S6 X.prog X.w X.base) k' f we q0 wg)(hr:Br k X.A)(b6:Br k' X.A)(hg:Gl X x)(hm:X.mg x=some (.ref f))(hk:zbe X.K (.ref f)=true)(hb:Binds X.K fd ps [])(ay:Binds X.K we q0 [])(hx:FU (S6 X.prog X.w X.base) X E)(ha:PA X (e::es) t)(aK:(x==("__debug__" : Str))=false:=by decide)(he: ~~~(starEach (e::es) X.env=(false,eval e X.env)::starEach es X.env))(hpl: ~~~((backTo pos (starEach es X.env)).any (·.1)=false)):
 PE X (.Call (.Name x p) (e::es) [] pos) (λ σ H Q=>t σ H λ vs H1=>sp (vs++[]) H1 Q E\/wg (vs++[]) H1 Q E):=by
 intro pins s σ H Q I h;refine wpAny_Call_Name_kw (U8 I hg hm ?_ aK);refine PySem.W.callWith_K (h₀:=X.base) I.ok.mod.Xi hk (B9 (ha pos pins s σ H _ I h) λ us s1 ⟨vs,H1,I1,r,q⟩=>⟨I1.NU,?_⟩) he hpl;rcases q with q|q
 ·exact N9 F hr hb .nil hx I1 r q
 ·exact N9 F' b6 ay .nil hx I1 r q
abbrev WB (i:Nat)(F:OT->List D->M (OT×OT))(F0:List D->M OT)(ρ:Ah):M (Ah×OT):=match ρ[i]? with
 |some (some (.val d))=>(match F0 [d] with | .ok (.sh d2)=>.ok (ρ,.sh d2)|_=>.bad)
 |_=>NZ i F ρ [] []
def lL (i:Nat)(xo:Gh X E)(G:LG X.prog X.w X.K X.mg X.base x k 1 F)(G0:rW X.prog X.w X.K X.mg X.base x k0 1 F0)(hr:Br k X.A)(yl:Br k0 X.A)(hg:Gl X x)(hv:PE X (.Name y p1) (Sf i))(aK:(x==("__debug__" : Str))=false:=by decide)(he: ~~~(starEach [.Name y p1] X.env=(false,eval (.Name y p1) X.env)::starEach [] X.env))(hpl: ~~~((backTo pos (starEach [] X.env)).any (·.1)=false)):
 DX X (CQ X.K E) (.Call (.Name x p) [.Name y p1] [] pos) (WB i F F0):=by
 obtain⟨fa,fd,ps,hF,hm,hk,hb⟩:=G.ex;obtain⟨fa0,fd0,ps0,ue,wj,ym,yn⟩:=G0.ex;rw[hm] at wj;cases wj;refine⟨_,lK hF ue hr yl hg hm hk hb yn xo.call (Ba hv Ci he) aK he hpl,λ P0 P σ H Q ρ Ev h=>?_⟩;unfold WB at h;split at h
 ·rename_i d e1;obtain⟨v,h1,h2⟩:=Ev.val i d e1;refine⟨v,h1,?_⟩;refine .inr ?_;split at h
  ·rename_i d2 e2;refine⟨rfl,P,[d],Ev.Cb,.cons h2 .nil,?_⟩;rw[e2];intro v2 fp H' s hn nd o;cases o with
   |sh ho =>
    rw[Qw] at ho;exact h v2 [] H' P (Ev.tr s) (Ev.same s) (.sh ho) zbn (λ a ha=>by cases ha)
  ·exact h.elim
 ·unfold NZ at h;split at h
  ·rename_i cl e1;split at h
   ·rename_i pp t e2;have io:GU cl=true:=by cases cl<;>first|rfl|cases e2
    obtain⟨v,fp,k1,k2,k3,k4⟩:=Ev.ows i cl e1 io;have bj:Bm X.K P H σ ρ i [] v t:=⟨v,cl,pp,t,e1,e2,k1,.nil⟩;refine⟨v,k1,?_⟩;refine .inl ?_;rw[Qv] at h;dsimp only at h;by_cases hx:W3 t=true
    ·rw[if_pos hx] at h;obtain⟨aq,o1,se,d5⟩:=bj.own Ev;have ia:∃l,v=.ref l:=by
      cases o1 with
      |sh hv=>exact absurd hx (by simp[W3])
      |lst _ _|tup _ _|dK _ _|dT _ _|ins _ _ _=>exact⟨_,rfl⟩
     obtain⟨l,rfl⟩:=ia;refine⟨rfl,P,l,t,aq,[],[],rfl,Ev.Cb,λ b hb=>(se b hb).1,d5,o1,.nil,?_⟩;cases qF:F t [] with
     |bad|ex x=>rw[qF] at h;exact h.elim
     |ok z =>
      obtain⟨t2,r⟩:=z;rw[qF] at h;intro w H' P' fu fr g1 g2 g3 g4 g5 g6 g7 g8 g9 yo;obtain⟨c',p',t',m1,m2,m3,m4,m5⟩:=Ev.rZ bj o1 g1 g2 g3 g4 g5 g9 g6 g7 yo g8;rw[e1] at m1;cases m1;rw[e2] at m2;cases m2;exact h w fr H' P' m4 m3 g6 g7 m5
    ·rw[if_neg hx] at h;exact h.elim
   ·exact h.elim
  ·exact h.elim
abbrev BV (m:Nat)(rs:List Road)(L:List Int):D:=.ins "House" ["own_map","own_order","done"] [Ac m rs,.lst (L.map D.int),.lst []]
abbrev sU (S:List Int):List (Int×Unit):=S.foldl (λ A i=>CS A i ()) []
abbrev shD (A:List (Int×Unit)):D:=.BE false (A.map λ kv=>.int kv.1) (A.map λ _=>.Av)
abbrev shT (A:List (Int×Unit)):OT:=.BE false (A.map λ kv=>.int kv.1) ((A.map λ _=>D.Av).map .sh)
def xO (A:List (Int×Unit)):er (shT A)=shD A:=IL
def rC (S:List Int)(i:Int):(Ao (sU S) i).isSome=decide (i∈S):=by
 have key:∀(S:List Int) (A:List (Int×Unit)),(Ao (S.foldl (λ A i=>CS A i ()) A) i).isSome=((Ao A i).isSome||decide (i∈S)):=by
  intro S;induction S with
  |nil=>intro A;simp
  |cons a r ih =>
   intro A;rw[zam,ih,EI];by_cases h:i=a
   ·subst h;simp
   ·rw[if_neg h];have:decide (i∈a::r)=decide (i∈r):=by simp[h]
    rw[this]
 have:=key S [];rw[show Ao ([]:List (Int×Unit)) i=none from rfl] at this;exact this.trans (by simp)
def xP (S:List Int)(hl:S.length<=1000):eB (.lst (S.map λ i=>.tup [.int i,.Av]))=.ok (shT (sU S)):=by
 unfold eB;dsimp only;rw[PQ (λ i:Int=>D.int i) (λ _=>D.Av)];dsimp only;rw[if_pos ⟨by rw[za2];exact hl,by rw[List.all_map];exact List.all_eq_true.mpr λ x _=>rfl⟩];have key:∀(S:List Int) (A:List (Int×Unit)),(S.map λ i=>(D.int i,D.Av)).foldl (λ z kv=>putD z.1 z.2 kv.1 kv.2) (A.map (λ kv=>D.int kv.1),A.map λ kv=>(λ _:Unit=>D.Av) kv.2)=((S.foldl (λ A i=>CS A i ()) A).map (λ kv=>D.int kv.1),(S.foldl (λ A i=>CS A i ()) A).map λ kv=>(λ _:Unit=>D.Av) kv.2):=by
  intro S;induction S with
  |nil=>intro A;rfl
  |cons a r ih =>
   intro A;rw[za6,zam,zam];dsimp only;have:=IW (vf:=λ _:Unit=>D.Av) (kf:=D.int) F9 A a ();rw[this,ih]
 have e:pR (S.map λ i=>(D.int i,D.Av))=((sU S).map (λ kv=>D.int kv.1),(sU S).map λ _=>D.Av):=key S [];rw[e];rfl
def rD (A:List (Int×Unit))(i:Int)(z:D):ZS (shD A) (.ok (.int i)) (.ok z)=.ok (if (Ao A i).isSome=true then .Av else z):=by
 have e:F5 (A.map λ kv=>D.int kv.1) (A.map λ _=>D.Av) (.int i)=(Ao A i).map λ _=>D.Av:=Gv (kf:=D.int) (vf:=λ _:Unit=>D.Av) F9 A i;unfold ZS shD;simp only[M.A8];rw[if_pos (show keyOk false (.int i)=true from rfl),e];cases Ao A i<;>rfl
abbrev Ie (r:Road):Road:=⟨r.a,r.b,none,r.w⟩
abbrev Sa (f:Int->Bool)(rs:List Road):List Road:=(zb9 rs.length).map λ i:Nat=>if f i=true then Ie (rs.getD i ⟨0,0,none,0⟩) else rs.getD i ⟨0,0,none,0⟩
abbrev Hm (rs:List Road)(i:Int):List Road:=match rs[i.toNat]? with
 |some r=>rs.set i.toNat (Ie r)
 |none=>rs
def UY (f:Int->Bool)(rs:List Road)(k:Nat):(Sa f rs)[k]?=(rs[k]?).map λ r=>if f k=true then Ie r else r:=by
 unfold Sa;rw[zax];by_cases h:k<rs.length
 ·rw[List.getElem?_range h,za7 h];simp only[zbg,zbc,za7 h,Option.getD_some]
 ·rw[zbp (by rw[zc9];omega),zbp (by omega)];rfl
def rE (h0:0<=i)(k:Nat):(Hm rs i)[k]?=(rs[k]?).map λ r=>if (k:Int)=i then Ie r else r:=by
 unfold Hm;cases h:rs[i.toNat]? with
 |none =>
  dsimp only;cases h2:rs[k]? with
  |none=>rfl
  |some r =>
   have:(k:Int)≠i:=λ z=>by rw[<-z,zbj,h2] at h;cases h
   rw[zbg,if_neg this]
 |some r =>
  dsimp only;by_cases e:(k:Int)=i
  ·subst e;rw[zbj] at h ⊢;rw[zb5 (zaf.mp h).1,h,zbg,if_pos rfl]
  ·rw[zbu (by omega)];cases rs[k]? with
   |none=>rfl
   |some r=>rw[zbg,if_neg e]
def sV (S:List Int)(hS:∀i∈S,0<=i):∀rs:List Road,S.foldl Hm rs=Sa (λ i=>decide (i∈S)) rs:=by
 have key:∀(S:List Int),(∀i∈S,0<=i)->∀(rs:List Road) (k:Nat),(S.foldl Hm rs)[k]?=(rs[k]?).map λ r=>if (k:Int)∈S then Ie r else r:=by
  intro S;induction S with
  |nil =>
   intro _ rs k;have e:(λ r:Road=>if (k:Int)∈([]:List Int) then Ie r else r)=λ r=>r:=by funext r;simp
   rw[e,Option.map_id_fun'];rfl
  |cons a r ih =>
   intro hS rs k;rw[zam,ih (λ i hi=>hS i (za4 _ hi)),rE (hS a za3),Option.map_map];congr 1;funext x;simp only[Function.comp];by_cases e:(k:Int)=a
   ·rw[if_pos e,if_pos (show (k:Int)∈a::r by rw[e];exact za3)];by_cases h:(k:Int)∈r
    ·rw[if_pos h];rfl
    ·rw[if_neg h]
   ·rw[if_neg e];by_cases h:(k:Int)∈r
    ·rw[if_pos h,if_pos (za4 _ h)]
    ·rw[if_neg h,if_neg λ z=>(zac.mp z).elim e h]
 intro rs;apply zd3;intro k;rw[key S hS,UY];simp
def rF:∀r∈Sa f rs,∃q∈rs,r=q\/r=Ie q:=by
 intro r hr;obtain⟨k,hk⟩:=List.getElem?_of_mem hr;rw[UY] at hk;obtain⟨q,hq,rfl⟩:=zcr.mp hk;refine⟨q,zas hq,?_⟩;split
 ·exact .inr rfl
 ·exact .inl rfl
def UZ (f:Int->Bool)(rs:List Road):(Sa f rs).length=rs.length:=by unfold Sa;rw[za2,zc9]
def eI (h:F8 m r):F8 m (Ie r):=⟨h.a0,h.a1,h.b0,h.b1,h.ab,(λ z e=>nomatch e),h.w0,h.w1⟩
def lM (h:∀r∈rs,F8 m r):∀r∈Sa f rs,F8 m r:=λ r hr=>by
 obtain⟨q,hq,rfl|rfl⟩:=rF r hr
 ·exact h _ hq
 ·exact eI (h _ hq)
def lN (rs:List Road):Sa (λ _=>false) rs=rs:=by
 apply zd3;intro k;rw[UY];cases rs[k]? <;>rfl
abbrev V0 (x:Co)(N:List Nat)(T:List Co):Cl:=match x with
 |none=>.val .Av
 |some c=>.ow (.tree none (FD (some c) N T))
def WC (x:Co)(N:List Nat)(T:List Co):So i ρ (FD x N T)=.ok (.next (ρ.set i (some (V0 x N T)))):=by cases x<;>rfl
def WD (x:Co)(N:List Nat)(T:List Co):Np (V0 x N T)=.val (Cg x N T):=by
 cases x with
 |none=>rfl
 |some c =>
  show Cl.val (er (FD (some c) N T))=_;rw[K1]
def TC (hi:ρ[i]?=some (some (V0 x N T)))(hF:∀c,x=some c->∃t,F (FD (some c) N T) []=.ok (t,.sh .Av))(h0:F0 [.Av]=.ok (.sh .Av)):∃cl,WB i F F0 ρ=.ok (ρ.set i (some cl),.sh .Av):=by
 cases x with
 |none =>
  have hi:ρ[i]?=some (some (.val .Av)):=hi;refine⟨.val .Av,?_⟩;unfold WB;rw[hi];dsimp only;rw[h0,set_same hi]
 |some c =>
  have hi:ρ[i]?=some (some (.ow (.tree none (FD (some c) N T)))):=hi;obtain⟨t,ht⟩:=hF c rfl;refine⟨toCl none t,?_⟩;unfold WB;rw[hi];dsimp only;unfold NZ;rw[hi];dsimp only;have e1:treeOf (.ow (.tree none (FD (some c) N T)))=some (none,FD (some c) N T):=rfl;rw[e1];dsimp only;rw[Qv];dsimp only;rw[if_pos (show W3 (FD (some c) N T)=true from rfl),ht];dsimp only;rw[E6]
end L2
set_option maxHeartbeats 4000000
namespace dl
open PySem L2
abbrev top (i:Nat):Stmt:=PySem.Challenge.pw_nodeladder_k74_shut_for_one_question.main.body.getD i (.Pass ⟨0,0,0,0⟩)
noncomputable abbrev Gx:Stmt:=top 9
def Mz:Ab ["thing","bound"] ["thing","bound"] (A3 Gx):=nofun
noncomputable abbrev MA:Stmt:=top 10
def Sw:Ab ["thing"] ["thing"] (A3 MA):=nofun
noncomputable abbrev TF:Stmt:=top 11
def Yn:Ab ["thing","many"] ["thing","many"] (A3 TF):=nofun
noncomputable abbrev WE:Stmt:=top 12
def ND:Ab ["thing","many","roads"] ["thing"] (A3 WE):=nofun
noncomputable abbrev TH:Stmt:=top 13
def Yo:Ab ["thing"] ["thing"] (A3 TH):=nofun
noncomputable abbrev ZT:Stmt:=top 14
def lO:Ab ["one","other"] ["one","other"] (A3 ZT):=nofun
noncomputable abbrev ZU:Stmt:=top 15
def lP:Ab ["some"] ["some"] (A3 ZU):=nofun
noncomputable abbrev O8:Stmt:=top 16
def V1:Ab ["road"] ["road"] (A3 O8):=nofun
noncomputable abbrev Ka:Stmt:=top 18
def R8:Ab ["laid","pair"] ["laid","pair"] (A3 Ka):=nofun
noncomputable abbrev sW:Stmt:=top 19
def xQ:Ab ["laid","pair","cost","middle"] ["laid","pair","cost","middle"] (A3 sW):=nofun
noncomputable abbrev R9:Stmt:=top 20
def FI:Ab ["laid","place","higher","u","w","cost"] ["laid","place","higher"] (A3 R9):=nofun
noncomputable abbrev O9:Stmt:=top 21
def Di:Ab ["net","order","laid","road","rank","place"] ["net","order"] (A3 O9):=nofun
noncomputable abbrev MB:Stmt:=top 23
def Sx:Ab ["ladder"] ["ladder"] (A3 MB):=nofun
noncomputable abbrev EC:Stmt:=top 24
def IZ:Ab ["ladder"] ["ladder"] (A3 EC):=nofun
noncomputable abbrev TJ:Stmt:=top 25
def DF:Ab ["order","costs","place","reached","rank","lower","higher","cost"] ["order","costs","place"] (A3 TJ):=nofun
noncomputable abbrev J0:Stmt:=top 26
def OF:Ab ["ladder","start"] ["ladder","start"] (A3 J0):=nofun
noncomputable abbrev Kb:Stmt:=top 27
def Ra:Ab ["ladder","goal"] ["ladder","goal"] (A3 Kb):=nofun
noncomputable abbrev J1:Stmt:=top 28
def El:Ab ["ladder","start","goal","ahead","behind"] ["ladder","start","goal"] (A3 J1):=nofun
noncomputable abbrev ZV:Stmt:=top 30
def Gy:Ab ["order","costs","place","reached","told","higher","lower","over"] ["order","costs","place"] (A3 ZV):=nofun
noncomputable abbrev Rb:Stmt:=top 31
def WG:Ab ["ladder","goal"] ["ladder","goal"] (A3 Rb):=nofun
noncomputable abbrev J2:Stmt:=top 33
def OG:Ab ["ladder","start","goal"] ["ladder","start","goal"] (A3 J2):=nofun
noncomputable abbrev Gz:Stmt:=top 34
def FJ:Ab ["ladder","prices","place","kept"] ["ladder","prices","place"] (A3 Gz):=nofun
noncomputable abbrev HK:Stmt:=top 35
def BW:Ab ["ladder","prices","start","goal","roads","place","arc"] ["ladder","prices","start","goal"] (A3 HK):=nofun
noncomputable abbrev sX:Stmt:=top 36
def Yp:Ab ["ladder","start","goal","cost","prices"] ["ladder","start","goal"] (A3 sX):=nofun
noncomputable abbrev Rc:Stmt:=top 39
def WH:Ab ["net","thing"] ["net","thing"] (A3 Rc):=nofun
noncomputable abbrev HL:Stmt:=top 40
def NE:Ab ["net","thing"] ["net","thing"] (A3 HL):=nofun
noncomputable abbrev MC:Stmt:=top 41
def G1:Ab ["net","bows","road"] ["net"] (A3 MC):=nofun
noncomputable abbrev J3:Stmt:=top 42
def C8:Ab ["bows","left","place","ahead","behind","missing","u"] ["bows","left","place"] (A3 J3):=nofun
noncomputable abbrev Rf:Stmt:=top 43
def WI:Ab ["bows","left"] ["bows","left"] (A3 Rf):=nofun
noncomputable abbrev WJ:Stmt:=top 44
def EV:Ab ["net","bows","left","order","place","bow"] ["net"] (A3 WJ):=nofun
noncomputable abbrev MD:Stmt:=top 46
def BO:Ab ["net","start","costs","changed","road","cost"] ["net","start"] (A3 MD):=nofun
noncomputable abbrev FK:Stmt:=top 48
def KR:Ab ["net","order"] ["net","order"] (A3 FK):=nofun
noncomputable abbrev Oa:Stmt:=top 49
def EJ:Ab ["net","laid","kept","u","costs"] ["net","laid"] (A3 Oa):=nofun
noncomputable abbrev ME:Stmt:=top 50
def Kc:Ab ["net","arc","cost","numbers"] ["net","arc","cost"] (A3 ME):=nofun
noncomputable abbrev AJ:Stmt:=inClass (top 51) 0
def KS:Ab ["self","net","order"] ["self","net","order"] (A3 AJ):=nofun
noncomputable abbrev J4:Stmt:=inClass (top 51) 2
def OH:Ab ["self"] ["self"] (A3 J4):=nofun
noncomputable abbrev Eb:Stmt:=inClass (top 51) 4
def Dq:Ab ["self","u","w","many"] ["self","u","w"] (A3 Eb):=nofun
noncomputable abbrev Kd:Stmt:=inClass (top 51) 5
def Rg:Ab ["self","u","w"] ["self","u","w"] (A3 Kd):=nofun
noncomputable abbrev FL:Stmt:=inClass (top 51) 7
def BD:Ab ["self","u","w","roads","waiting","arc","middle"] ["self","u","w"] (A3 FL):=nofun
noncomputable abbrev Ke:Stmt:=inClass (top 51) 8
def Rh:Ab ["self"] ["self"] (A3 Ke):=nofun
noncomputable abbrev Kf:Stmt:=top 53
def Ri:Ab ["road","length"] ["road","length"] (A3 Kf):=nofun
noncomputable abbrev HM:Stmt:=top 55
def NF:Ab ["net","thing"] ["net","thing"] (A3 HM):=nofun
noncomputable abbrev J5:Stmt:=top 56
def OI:Ab ["net","thing"] ["net","thing"] (A3 J5):=nofun
noncomputable abbrev J6:Stmt:=top 57
def OJ:Ab ["net","lengths"] ["net","lengths"] (A3 J6):=nofun
noncomputable abbrev J7:Stmt:=top 58
def OK:Ab ["net","shut"] ["net","shut"] (A3 J7):=nofun
noncomputable abbrev AO:Stmt:=inClass (top 59) 0
def MF:Ab ["self","net","order"] ["self","net","order"] (A3 AO):=nofun
noncomputable abbrev GA:Stmt:=inClass (top 59) 1
def MG:Ab ["self"] ["self"] (A3 GA):=nofun
noncomputable abbrev HN:Stmt:=inClass (top 59) 8
def NG:Ab ["self"] ["self"] (A3 HN):=nofun
noncomputable abbrev B3:Stmt:=inClass (top 59) 9
def MH:Ab ["self","start","goal","shut","net"] ["self","start","goal","shut"] (A3 B3):=nofun
noncomputable abbrev Kg:Stmt:=top 61
def Rj:Ab ["_law_script","_law_k"] ["_law_script","_law_k"] (A3 Kg):=nofun
noncomputable abbrev Ob:Stmt:=top 62
def Hn:Ab ["_law_cell","_law_k","_law_number"] ["_law_cell","_law_k"] (A3 Ob):=nofun
noncomputable abbrev Rk:Stmt:=top 63
def Dc:Ab ["_law_cell","_law_many","_law_k","_law_x","_law_one","_law_other","_law_length"] ["_law_cell","_law_many","_law_k"] (A3 Rk):=nofun
noncomputable abbrev TK:Stmt:=top 64
def DH:Ab ["_law_script","_law_places","_law_most","_law_cells","_law_x","_law_many","_law_roads"] ["_law_script","_law_places","_law_most"] (A3 TK):=nofun
noncomputable abbrev Oc:Stmt:=top 65
def Ho:Ab ["_law_cell","_law_many","_law_k","_law_order_here","_law_place"] ["_law_cell","_law_many","_law_k"] (A3 Oc):=nofun
noncomputable abbrev Rl:Stmt:=top 66
def Od:Ab ["_law_found","_law_due","_law_part"] ["_law_found","_law_due"] (A3 Rl):=nofun
noncomputable abbrev Rm:Stmt:=top 67
def Bv:Ab ["_law_net","_law_start","_law_goal","_law_roads","_law_here","_law_cost_here","_law_road_here","_law_u","_law_w","_law_length","_law_width"] ["_law_net","_law_start","_law_goal","_law_roads"] (A3 Rm):=nofun
noncomputable abbrev Ro:Stmt:=top 68
def Ec:Ab ["_law_net","_law_road_here","_law_length","_law_start","_law_goal","_law_ahead","_law_width"] ["_law_net","_law_road_here","_law_length"] (A3 Ro):=nofun
noncomputable abbrev Rp:Stmt:=top 69
def WK:Ab ["_law_net"] ["_law_net"] (A3 Rp):=nofun
noncomputable abbrev Rq:Stmt:=top 70
def J8:Ab ["_law_net","_law_x","_law_some","_law_k"] ["_law_net","_law_x"] (A3 Rq):=nofun
noncomputable abbrev Oe:Stmt:=top 71
def MI:Ab ["_law_found","_law_due","_law_net","_law_start","_law_goal","_law_trod"] ["_law_found","_law_due","_law_net","_law_start","_law_goal"] (A3 Oe):=nofun
noncomputable abbrev Kh:Stmt:=top 72
def J9:Ab ["_law_found"] ["_law_found"] (A3 Kh):=nofun
noncomputable abbrev Ja:Stmt:=top 73
def Au:Ab ["_law_house","_law_net","_law_order_here","_law_x","_law_start","_law_goal","_law_some","_law_closed","_law_road_here","_law_due","_law_handed","_law_found","_law_plain","_law_k"] ["_law_house","_law_net","_law_order_here","_law_x"] (A3 Ja):=nofun
noncomputable abbrev TM:Stmt:=top 74
def Rr:Ab ["_law_script","_law_net","_law_order_here","_law_house","_law_cell"] ["_law_script"] (A3 TM):=nofun
structure Txt (K:za1)(mg:Str->Option Value):Prop where
 NH:Ay K mg "is_whole_below" Gx ["thing","bound"]
 V2:Ay K mg "is_measure" MA ["thing"]
 eJ:Ay K mg "is_road" TF ["thing","many"]
 lQ:Ay K mg "is_map" WE ["thing"]
 eK:Ay K mg "checked" TH ["thing"]
 rG:Ay K mg "added" ZT ["one","other"]
 rH:Ay K mg "least" ZU ["some"]
 WL:Ay K mg "road_cost" O8 ["road"]
 Sy:Ay K mg "cost_so_far" Ka ["laid","pair"]
 aaR:Ay K mg "lay" sW ["laid","pair","cost","middle"]
 Yq:Ay K mg "lay_over" R9 ["laid","place","higher"]
 WM:Ay K mg "laid_arcs" O9 ["net","order"]
 V3:Ay K mg "kept_costs" MB ["ladder"]
 K5:Ay K mg "kept_costs_turned" EC ["ladder"]
 eL:Ay K mg "climbed" TJ ["order","costs","place"]
 Rt:Ay K mg "climbed_from" J0 ["ladder","start"]
 Sz:Ay K mg "climbing_to" Kb ["ladder","goal"]
 Ru:Ay K mg "sums_at_tops" J1 ["ladder","start","goal"]
 rJ:Ay K mg "swept" ZV ["order","costs","place"]
 Yr:Ay K mg "costs_in" Rb ["ladder","goal"]
 Rv:Ay K mg "cost_between" J2 ["ladder","start","goal"]
 NI:Ay K mg "arcs_by_prices" Gz ["ladder","prices","place"]
 OL:Ay K mg "way_by_prices" HK ["ladder","prices","start","goal"]
 aaS:Ay K mg "ask" sX ["ladder","start","goal"]
 Ys:Ay K mg "is_order" Rc ["net","thing"]
 OM:Ay K mg "checked_order" HL ["net","thing"]
 V4:Ay K mg "first_bows" MC ["net"]
 Rw:Ay K mg "missing_bows" J3 ["bows","left","place"]
 Yt:Ay K mg "lightest" Rf ["bows","left"]
 lR:Ay K mg "ranked" WJ ["net"]
 V5:Ay K mg "costs_from" MD ["net","start"]
 MJ:Ay K mg "order_or_ranked" FK ["net","order"]
 WN:Ay K mg "kept_arcs" Oa ["net","laid"]
 V6:Ay K mg "road_under" ME ["net","arc","cost"]
 MK:QH K mg "Ladder" "Ladder.__init__" AJ ["self","net","order"]
 Rx:Mj K "Ladder" "order" "Ladder.order" J4 ["self"]
 Jb:Mj K "Ladder" "checked_arc" "Ladder.checked_arc" Eb ["self","u","w"]
 SA:Mj K "Ladder" "cost" "Ladder.cost" Kd ["self","u","w"]
 ML:Mj K "Ladder" "unpacked" "Ladder.unpacked" FL ["self","u","w"]
 SD:Mj K "Ladder" "kept" "Ladder.kept" Ke ["self"]
 SE:Ay K mg "with_length" Kf ["road","length"]
 ON:Ay K mg "checked_place" HM ["net","thing"]
 Ry:Ay K mg "checked_road" J5 ["net","thing"]
 RB:Ay K mg "with_lengths" J6 ["net","lengths"]
 RC:Ay K mg "shut_lengths" J7 ["net","shut"]
 NJ:QH K mg "House" "House.__init__" AO ["self","net","order"]
 NK:Mj K "House" "told_map" "House.told_map" GA ["self"]
 OO:Mj K "House" "changes" "House.changes" HN ["self"]
 WO:Ym K "House" "ask" "House.ask" "shut" B3 ["self","start","goal","shut"]
 SF:Ay K mg "_law_cell_at" Kg ["_law_script","_law_k"]
 WQ:Ay K mg "_law_mixed" Ob ["_law_cell","_law_k"]
 Yu:Ay K mg "_law_road" Rk ["_law_cell","_law_many","_law_k"]
 eM:Ay K mg "_law_map" TK ["_law_script","_law_places","_law_most"]
 WR:Ay K mg "_law_order" Oc ["_law_cell","_law_many","_law_k"]
 Yv:Ay K mg "_law_cost" Rl ["_law_found","_law_due"]
 Yw:Ay K mg "_law_walk" Rm ["_law_net","_law_start","_law_goal","_law_roads"]
 Yx:Ay K mg "_law_with" Ro ["_law_net","_law_road_here","_law_length"]
 Yy:Ay K mg "_law_copy" Rp ["_law_net"]
 Yz:Ay K mg "_law_shut" Rq ["_law_net","_law_x"]
 WS:Ay K mg "_law_alike" Oe ["_law_found","_law_due","_law_net","_law_start","_law_goal"]
 Ki:Ay K mg "_law_spoiled" Kh ["_law_found"]
 RD:Ay K mg "_law_question" Ja ["_law_house","_law_net","_law_order_here","_law_x"]
 acH:Ay K mg "law" TM ["_law_script"]
 sY:mg "all" = none
 YA:mg "bool" = none
 V7:mg "dict" = none
 Ed:mg "enumerate" = none
 ZW:mg "int" = none
 AY:mg "isinstance" = none
 Ff:mg "len" = none
 CU:mg "list" = none
 lS:mg "min" = none
 Hq:mg "range" = none
 YB:mg "reversed" = none
 lT:mg "sorted" = none
 MM:mg "tuple" = none
 YC:mg "ask_asks" = mg "ask"
 MN:Gm K "House" "done"
 Bn:Gm K "House" "own_map"
 FN:Gm K "House" "own_order"
 Fg:Gm K "Ladder" "kept_ones"
 Cd:Gm K "Ladder" "laid"
 Bz:Gm K "Ladder" "own_map"
 CV:Gm K "Ladder" "own_order"
local macro_rules | `(tactic| rfl')=>`(tactic| simp only [acb,acd,ace])
local macro_rules | `(‹$t›)=>`(some (Cl.val $t))
local macro_rules | `(!$n:num)=>`(vF $n (pv $n))
local macro_rules | `(!$h:ident)=>`(huR $h 16 (by decide))
local macro_rules | `(-$h:ident)=>`(($h).mono (by decide))
local macro_rules|`(tactic|simp_arith[$xs,*])=>do `(tactic|simp only[$[$(("rv0 rvS PF List.set_cons_zero List.set_cons_succ M.A8 JI JH Lx LX LY LZ Pq IL Hd M3 LN LO JJ Zg Pn Po LP oZ JK JL Hc UA Dy UB LQ LR JM Zj LM E6 toCl_list toCl_listP toCl_dct Pr M4 M5 M6 M7 Pt M8 M9 Ma yF yE LS Zk LU Zl LV LW Pp Zm muC muN pC pE pF pG pH pI toCl_nil Lq HH Sn UC JN Pu Pw Mb Mc Px Py Pz PB PD Md Me Mf Mg JO JP JQ JR JS Mh JT JU Zn Zo Zp Zq Zr JV ite_tt ite_ff Bool.not_true Bool.not_false List.getElem?_cons_zero List.getElem?_cons_succ Gs IU Mq pB qA pA qC qD qE PM UQ UR US EU JZ PR QN qQ ZL UU".splitOn " ").toArray.map λ x=>Lean.mkIdent x.toName):term],*,$xs,*])
abbrev FT (nm:Str)(lv n:Nat)(F:List D->M OT):Prop:=∀ {P w K mg base},Txt K mg->rW P w K mg base nm lv n F
variable {P:Program}{w:World}{K:za1}{mg:Str->Option Value}{base:Heap}
abbrev GB (F:List D->M OT):Prop:=∀i n:Int,0<=i->i<n->F [.int i,.int n]=.ok (.sh (.bl true))
def Dj:∃F,FT "is_whole_below" 1 2 F/\GB F:=by
 refine⟨_,λ T=>Aq (k:=0) T.NH Mz _ (λ f AZ A outer s H E hr=>(A5 (Ae (AH (KJ (Dv (Qh _) rfl T.AY rfl T.ZW (by decide +kernel) (!0)) (KJ (vI (Dv (Ni _) rfl T.AY rfl T.YA (by decide +kernel) (!0))) (Ng (bZ rK fR A4 (!0) (!1))))))))),?_⟩;intro i n h0 h1;rfl';refine AX ?_;have a:=decide_eq_true h0;have b:=decide_eq_true h1;simp_arith[Gs,a,b,EG];rfl
abbrev HP:=za5 Dj
def AU:FT "is_whole_below" 1 2 HP:=(za0 Dj).1
def AV:GB HP:=(za0 Dj).2
abbrev MO (F:List D->M OT):Prop:=∀i:Int,0<=i->i<Tu->F [.int i]=.ok (.sh (.bl true))
def G2:∃F,FT "is_measure" 2 1 F/\MO F:=by
 refine⟨_,λ T=>Aq (k:=1) T.V2 Sw _ (λ f AZ A outer s H E hr=>(A5 (Ae (A9 A7.toXCall (AU T) (-hr) rfl (A1 (!0) (A1 (iE A4 A4) A6)) rfl)))),?_⟩;intro i h0 h1;rfl';have h:=AV i Tu h0 h1;refine AX ?_;simp_arith[sI,h];rfl
abbrev Of:=za5 G2
def Kj:FT "is_measure" 2 1 Of:=(za0 G2).1
def Kk:MO Of:=(za0 G2).2
abbrev TN (F:List D->M OT):Prop:=∀(m:Nat) (r:Road),F8 m r->F [Bx r,.int m]=.ok (.sh (.bl true))
def KU:∃F,FT "is_road" 3 2 F/\TN F:=by
 refine⟨_,λ T=>Aq (k:=2) T.eJ Yn _ (λ f AZ A outer s H E hr=>(A2 (B0 (DW.dt (Dg (Bs (B8 (c:=true) (Dv (GW _) rfl T.AY rfl T.MM (by decide +kernel) (!0)))) (Ct (FG (c:=true) (!hr) (CN rfl T.Ff (!0)) A4)))) (A5 (Ae (AH D3))) Ap) (A2 (B0 (DW.dt (Dg (Bs (B8 (c:=true) (Ag (A9 A7.toXCall (AU T) (-hr) rfl (A1 (Aa (!hr) (!0) A4) (A1 (!1) A6)) rfl)))) (Ct (Bs (B8 (c:=true) (Ag (A9 A7.toXCall (AU T) (-hr) rfl (A1 (Aa (!hr) (!0) A4) (A1 (!1) A6)) rfl))))))) (A5 (Ae (AH D3))) Ap) (A2 (B0 (Li (c:=true) (!hr) (Aa (!hr) (!0) A4) (Aa (!hr) (!0) A4)) (A5 (Ae (AH D3))) Ap) (A5 (Ae (AH (KJ (aac (Up (Aa (!hr) (!0) A4)) (Ng (Ag (A9 A7.toXCall (Kj T) (-hr) rfl (A1 (Aa (!hr) (!0) A4) A6) rfl)))) (Ng (Ag (A9 A7.toXCall (Kj T) (-hr) rfl (A1 (Aa (!hr) (!0) A4) A6) rfl))))))))))),?_⟩;intro m r ok;rfl';refine AX ?_;have i0:AB (Bx r) (.int 0)=.ok (.int r.a):=rfl;have i1:AB (Bx r) (.int 1)=.ok (.int r.b):=rfl;have i2:AB (Bx r) (.int 2)=.ok (Ek r.l):=rfl;have i3:AB (Bx r) (.int 3)=.ok (.int r.w):=rfl;have ha:=AV r.a m ok.a0 ok.a1;have hb:=AV r.b m ok.b0 ok.b1;have hw:=Kk r.w ok.w0 ok.w1;apply wp_step
 ·rfl
 apply wp_step
 ·simp_arith[i0,i1,ha,hb,EG];rfl
 apply wp_step
 ·simp_arith[i0,i1,decide_eq_false ok.ab];rfl
 simp_arith[i2,i3,hw];cases q:r.l with
 |none=>rfl
 |some z =>
  have hl:=Kk z (ok.l0 z q).1 (ok.l0 z q).2;have e:Ek (some z)=.int z:=rfl;simp_arith[e,hl];rfl
abbrev WT:=za5 KU
def YD:FT "is_road" 3 2 WT:=(za0 KU).1
def YE:TN WT:=(za0 KU).2
abbrev WU (F:List D->M OT):Prop:=∀(m:Nat) (rs:List Road),1<=m->m<=16->rs.length<=60->(∀r∈rs,F8 m r)->F [Ac m rs]=.ok (.sh (.bl true))
def NL:∃F,FT "is_map" 4 1 F/\WU F:=by
 refine⟨_,λ T=>Aq (k:=3) T.lQ ND _ (λ f AZ A outer s H E hr=>(A2 (B0 (DW.dt (Dg (Bs (B8 (c:=true) (Dv (GW _) rfl T.AY rfl T.MM (by decide +kernel) (!0)))) (Ct (FG (c:=true) (!hr) (CN rfl T.Ff (!0)) A4)))) (A5 (Ae (AH D3))) Ap) (A2 (As 1 ND.nd rfl (Or.inr rfl) (Aa (!hr) (!0) A4)) (A2 (As 2 ND.nd rfl (zay rfl) (Aa (!hr) (!0) A4)) (A2 (B0 (DW.dt (Dg (Bs (B8 (c:=true) (Ag (A9 A7.toXCall (AU T) (-hr) rfl (A1 (!1) (A1 A4 A6)) rfl)))) (Ct (Li (c:=true) (!hr) (!1) A4)))) (A5 (Ae (AH D3))) Ap) (A2 (B0 (DW.dt (Dg (Bs (B8 (c:=true) (Dv (Nh _) rfl T.AY rfl T.CU (by decide +kernel) (!2)))) (Ct (aab (c:=true) (CN rfl T.Ff (!2)) A4)))) (A5 (Ae (AH D3))) Ap) (A5 (Ae (AH (iV rfl rfl T.sY (Ag (CK (NB:=["road","many"]) [none,some 1] rfl (B2 (!2)) rfl rfl (BI 0 (by decide) rfl rfl rfl) (λ _ _ _ _=>DY) (λ _ _ _ _=>(Ag (Cm (A9 (BK rfl).toXCall (YD T) (-hr) rfl (A1 (!0) (A1 (!1) A6)) rfl)))))))))))))))),?_⟩;intro m rs h1 h2 hl Aw;rfl';refine AX ?_;have i0:AB (Ac m rs) (.int 0)=.ok (.int m):=rfl;have i1:AB (Ac m rs) (.int 1)=.ok (.lst (rs.map Bx)):=rfl;have hn:=AV m 17 (by omega) (by omega);have hm:decide ((m:Int)=0)=false:=decide_eq_false (by omega);have cf:decide ((60:Int)<((rs.map Bx).length:Int))=false:=decide_eq_false (by rw[za2];omega);have al:(rs.map Bx).length<=1000:=by rw[za2];omega
 apply wp_step
 ·rfl
 apply wp_step
 ·simp_arith[i0];rfl
 apply wp_step
 ·simp_arith[i1];rfl
 apply wp_step
 ·simp_arith[hn,hm,EG];rfl
 apply wp_step
 ·simp_arith[cf,EG];rfl
 simp_arith[if_pos al];rw[BM (λ _:Road=>D.bl true) (λ r hr=>⟨_,rfl,rfl,by
  have:=YE m r (Aw r hr);simp_arith[this]⟩)]
 simp_arith[aaN];rfl
abbrev ZX:=za5 NL
def eO:FT "is_map" 4 1 ZX:=(za0 NL).1
def eQ:WU ZX:=(za0 NL).2
abbrev TQ (F:List D->M OT):Prop:=∀(m:Nat) (rs:List Road),1<=m->m<=16->rs.length<=60->(∀r∈rs,F8 m r)->F [Ac m rs]=.ok (.tup [.sh (.int m),.lst ((rs.map Bx).map .sh)])
def KW:∃F,FT "checked" 5 1 F/\TQ F:=by
 refine⟨_,λ T=>Aq (k:=4) T.eK Yo _ (λ f AZ A outer s H E hr=>(A2 (B0 (Bs (B8 (c:=true) (Ag (A9 A7.toXCall (eO T) (-hr) rfl (A1 (!0) A6) rfl)))) (A5 Qj) Ap) (A5 (Ae (Qx (Ck (AH (Aa (!hr) (!0) A4)) (Ck (CK (NB:=["road"]) [none] rfl (B2 (Aa (!hr) (!0) A4)) rfl rfl (BI 0 (by decide) rfl rfl rfl) (λ _ _ _ _=>DY) (λ _ _ _ _=>(iJ rfl T.MM (!0)))) C2))))))),?_⟩;intro m rs h1 h2 hl Aw;rfl';have h1:=eQ m rs h1 h2 hl Aw;have n0:AB (Ac m rs) (.int 0)=.ok (.int m):=rfl;have n1:AB (Ac m rs) (.int 1)=.ok (.lst (rs.map Bx)):=rfl;have al:(rs.map Bx).length<=1000:=by rw[za2];omega
 refine AX ?_;apply wp_step
 ·simp_arith[h1,EG];rfl
 simp_arith[n0,n1,if_pos al];rw[BM Bx (λ r hr=>⟨_,rfl,rfl,rfl⟩)];simp_arith[];exact⟨_,rfl,rfl⟩
abbrev WV:=za5 KW
def KY:FT "checked" 5 1 WV:=(za0 KW).1
def KZ:TQ WV:=(za0 KW).2
abbrev ZY (F:List D->M OT):Prop:=∀a b:Co,F [cst a,cst b]=.ok (.sh (cst (AD a b)))
def RE:∃F,FT "added" 1 2 F/\ZY F:=by
 refine⟨_,λ T=>Aq (k:=0) T.rG lO _ (λ f AZ A outer s H E hr=>(A2 (B0 (DW.dt (Dg (EZ (c:=true) (!0)) (Ct (EZ (c:=true) (!1))))) (A5 (Ae (AH CM))) Ap) (A5 (Ae (AH (AM (A1 (BS (Aa (!hr) (!0) A4) (Aa (!hr) (!1) A4)) (A1 (BS (Aa (!hr) (!0) A4) (Aa (!hr) (!1) A4)) A6)))))))),?_⟩;intro a b;dsimp only;rcases a with _|⟨a1,a2⟩<;>rcases b with _|⟨b1,b2⟩<;>rfl
abbrev lU:=za5 RE
def GC:FT "added" 1 2 lU:=(za0 RE).1
def GD:ZY lU:=(za0 RE).2
abbrev ZZ (F:List D->M OT):Prop:=∀cs:List Co,cs.length<=1000->F [.lst (cs.map cst)]=.ok (.sh (cst (Ib cs)))
def RF:∃F,FT "least" 1 1 F/\ZZ F:=by
 refine⟨_,λ T=>Aq (k:=0) T.rH lP _ (λ f AZ A outer s H E hr=>(A5 (Ae (AH (nY rfl (huR hr 1 (by decide)) rfl T.lS (Ag (CK (NB:=["cost"]) [none] rfl (B2 (!0)) rfl rfl (BI 0 (by decide) rfl rfl rfl) (λ _ _ _ _=>EE (Lj (c:=true) (!0))) (λ _ _ _ _=>(!0)))) CM))))),?_⟩;intro cs hc;dsimp only;have e0:∀x:D,D5 ["some"] [x]=[‹x›]:=λ x=>rfl;rw[e0];refine AX ?_;have hl:(cs.map cst).length<=1000:=by rw[za2];exact hc
 have lg:=kA cs;have yp:=pV cs;simp_arith[if_pos hl];rw[O3];simp_arith[yp];rfl
abbrev RG:=za5 RF
def MQ:FT "least" 1 1 RG:=(za0 RF).1
def MR:ZZ RG:=(za0 RF).2
abbrev Og (F:List D->M OT):Prop:=∀r:Road,F [Bx r]=.ok (.sh (cst (Cv r)))
def Hr:∃F,FT "road_cost" 1 1 F/\Og F:=by
 refine⟨_,λ T=>Aq (k:=0) T.WL V1 _ (λ f AZ A outer s H E hr=>(A2 (B0 (EZ (c:=true) (Aa (!hr) (!0) A4)) (A5 (Ae (AH CM))) Ap) (A5 (Ae (AH (AM (A1 (Aa (!hr) (!0) A4) (A1 A4 A6)))))))),?_⟩;intro r;dsimp only;obtain⟨a,b,l,w⟩:=r;cases l<;>rfl
abbrev RH:=za5 Hr
def EK:FT "road_cost" 1 1 RH:=(za0 Hr).1
def EL:Og RH:=(za0 Hr).2
abbrev Kl (F:List D->M OT):Prop:=∀(A:LA) (p:Int×Int),F [Ss A,pD p]=.ok (.sh (cst (Ad A p)))
def Fh:∃F,FT "cost_so_far" 1 2 F/\Kl F:=by
 refine⟨_,λ T=>Aq (k:=0) T.Sy R8 _ (λ f AZ A outer s H E hr=>(A2 (B0 (Pj (c:=true) (!hr) (!1) (!0)) (A5 (Ae (AH CM))) Ap) (A5 (Ae (AH (Aa (!hr) (Aa (!hr) (!0) (!1)) A4)))))),?_⟩;intro A p;rfl';refine AX ?_;have hm:=UT A p true;unfold Ad;cases q:Ao A p with
 |none =>
  rw[q] at hm;simp_arith[hm,EG];rfl
 |some v =>
  rw[q] at hm;have hi:=QT q;have h0:AB (Y9 v) (.int 0)=.ok (cst (some v.1)):=rfl;apply wp_step
  ·simp_arith[hm,EG];rfl
  simp_arith[hi,h0];rfl
abbrev MS:=za5 Fh
def Jc:FT "cost_so_far" 1 2 MS:=(za0 Fh).1
def Jd:Kl MS:=(za0 Fh).2
abbrev sZ (F:OT->List D->M (OT×OT)):Prop:=∀(A:LA) (p:Int×Int) (c:Co) (mid:Option Int),A.length<1000->F (OE A) [pD p,cst c,Ek mid]=.ok (OE (layA A p c mid),.sh .Av)
def YF:∃F:OT->List D->M (OT×OT),(∀ {P w K mg base},Txt K mg->LG P w K mg base "lay" 1 4 F)/\sZ F:=by
 refine⟨_,λ T=>Qz (k:=0) T.aaR xQ _ (λ f AZ A outer s H E hr=>(A5 (B0 (H9 (DW.dt (Qg (Lj (c:=true) (!2)) (Lk (DW.dt (Dg (Pj (c:=true) (!hr) (!1) (!0)) (Ct (wB (c:=true) (!hr) (!2) (Aa (!hr) (Aa (!hr) (!0) (!1)) A4))))))))) (A5 (Pm (!hr) (B4 0 (pv 0)) (!1) (AM (A1 (!2) (A1 (!3) A6))))) Ap))),?_⟩;intro A p c mid hA;dsimp only;have e0:D8 ["laid","pair","cost","middle"] (OE A) [pD p,cst c,Ek mid]=[some (.ow (.tree (some 0) (OE A))),‹pD p›,‹cst c›,‹Ek mid›]:=rfl;rw[e0];refine QV ?_;have hm:=UT A p true;have wk:∀c:Int×Int,D.tup [cst (some c),Ek mid]=Y9 (c,mid):=λ c=>rfl;have hl:(A.map λ kv=>pD kv.1).length<1000:=by rw[za2];exact hA
 have jj:keyOk true (pD p)=true:=rfl;have af:∀v,(List.map (λ kv=>pD kv.1) (CS A p v))=(List.map (λ kv=>pD kv.1) (CS A p v)):=λ _=>rfl;cases c with
 |none =>
  refine Bp (ρ':=_) (by simp_arith[cst,Bl];rfl) ⟨rfl,rfl⟩
 |some c =>
  have aF:Bl (cst (some c))=false:=rfl;cases q:Ao A p with
  |none =>
   rw[q] at hm;have el:layA A p (some c) mid=CS A p (c,mid):=by unfold layA;dsimp only;rw[q]
   rw[el];refine Bp (ρ':=[some (.ow (.tree (some 0) (OE (CS A p (c,mid))))),‹pD p›,‹cst (some c)›,‹Ek mid›]) (by
    simp_arith[aF,hm,EG,EU,wk,if_pos (And.intro jj hl),kQ,jj,hl,and_self,if_true];rfl) ⟨rfl,rfl⟩
  |some z =>
   rw[q] at hm;have hi:=QT q;have h0:AB (Y9 z) (.int 0)=.ok (cst (some z.1)):=rfl;have hx:=ab6 c z.1;by_cases hc:c.1<z.1.1\/(c.1=z.1.1/\c.2<z.1.2)
   ·have el:layA A p (some c) mid=CS A p (c,mid):=by unfold layA;dsimp only;rw[q];dsimp only;rw[if_pos hc]
    rw[decide_eq_true hc] at hx;rw[el];refine Bp (ρ':=[some (.ow (.tree (some 0) (OE (CS A p (c,mid))))),‹pD p›,‹cst (some c)›,‹Ek mid›]) (by
     simp_arith[aF,hm,hi,h0,hx,EG,EU,wk,if_pos (And.intro jj hl),kQ,jj,hl,and_self,if_true];rfl) ⟨rfl,rfl⟩
   ·have el:layA A p (some c) mid=A:=by unfold layA;dsimp only;rw[q];dsimp only;rw[if_neg hc]
    rw[decide_eq_false hc] at hx;rw[el];refine Bp (ρ':=_) (by simp_arith[aF,hm,hi,h0,hx,EG];rfl) ⟨rfl,rfl⟩
abbrev aaT:=za5 YF
def lV:Txt K mg->LG P w K mg base "lay" 1 4 aaT:=(za0 YF).1
def lW:sZ aaT:=(za0 YF).2
abbrev RI (F:OT->List D->M (OT×OT)):Prop:=∀(m:Nat) (A:LA) (p:Int) (H:List Int),m<=20->Ic m A->(∀x∈H,0<=x/\x<m)->F (OE A) [.int p,.lst (H.map D.int)]=.ok (OE (qJ A p H),.sh .Av)
def Je:∃F:OT->List D->M (OT×OT),(∀ {P w K mg base},Txt K mg->LG P w K mg base "lay_over" 2 3 F)/\RI F:=by
 refine⟨_,λ T=>Qz (k:=1) T.Yq FI _ (λ f AZ A outer s H E hr=>(A5 (C1 A7.toXCall.own rfl (B2 (!2)) (AS 3 FI.nd rfl (zay rfl)) (A5 (C1 A7.toXCall.own rfl (B2 (!2)) (AS 4 FI.nd rfl (zay rfl)) (A5 (B0 (FG (c:=true) (!hr) (!3) (!4)) (A2 (As 5 FI.nd rfl (zay rfl) (Ag (Ej (A9 A7.toXCall (GC T) (-hr) rfl (A1 (Ag (A9 A7.toXCall (Jc T) (-hr) rfl (A1 (!0) (A1 (AM (A1 (!3) (A1 (!1) A6))) A6)) rfl)) (A1 (Ag (A9 A7.toXCall (Jc T) (-hr) rfl (A1 (!0) (A1 (AM (A1 (!1) (A1 (!4) A6))) A6)) rfl)) A6)) rfl)))) (A5 (IJ (jG A7.toXCall (lV T) (-hr) rfl (B4 0 (pv 0)) (A1 (AM (A1 (!3) (A1 (!4) A6))) (A1 (!5) (A1 (!1) A6))) rfl)))) Ap))))))),?_⟩;intro m A p H hm hA hH;dsimp only;have e0:D8 ["laid","place","higher","u","w","cost"] (OE A) [.int p,.lst (H.map D.int)]=[some (.ow (.tree (some 0) (OE A))),‹.int p›,‹.lst (H.map D.int)›,none,none,none]:=rfl;rw[e0];refine QV ?_;simp_arith[];refine C3 (λ i ρ=>∃s3 s4 s5:Option Cl,ρ=[some (.ow (.tree (some 0) (OE ((H.take i).foldl (dQ p H) A)))),‹.int p›,‹.lst (H.map D.int)›,s3,s4,s5]) ⟨none,none,none,rfl⟩ ?_ ?_
 ·rintro i d ρ hd ⟨s3,s4,s5,rfl⟩;obtain⟨u,hu,rfl⟩:=BB hd;have t8:=hH u (zas hu);refine⟨_,rfl,?_⟩;obtain⟨B,hB⟩:∃B,B=(H.take i).foldl (dQ p H) A:=⟨_,rfl⟩;have ip:Ic m B:=by rw[hB];exact Ic.lo hH hA λ x hx=>hH x (zc0 hx)
  rw[<-hB,Fc hu,<-hB];simp_arith[];refine C3 (λ j ρ=>∃s4 s5:Option Cl,ρ=[some (.ow (.tree (some 0) (OE ((H.take j).foldl (PP p u) B)))),‹.int p›,‹.lst (H.map D.int)›,‹.int u›,s4,s5]) ⟨s4,s5,rfl⟩ ?_ ?_
  ·rintro j d ρ hd ⟨s4,s5,rfl⟩;obtain⟨w,hw,rfl⟩:=BB hd;have hwm:=hH w (zas hw);refine⟨_,rfl,?_⟩;obtain⟨C,hC⟩:∃C,C=(H.take j).foldl (PP p u) B:=⟨_,rfl⟩;have uf:Ic m C:=by rw[hC];exact Ic.ou t8 ip λ x hx=>hH x (zc0 hx)
   rw[Fc hw,<-hC];by_cases e:u=w
   ·have ev:PP p u C w=C:=by unfold PP;rw[if_pos e]
    rw[ev];refine Bp (ρ':=_) (by simp_arith[decide_eq_true e];rfl) ⟨_,_,rfl⟩
   ·have ev:PP p u C w=layA C (u,w) (AD (Ad C (u,p)) (Ad C (p,w))) (some p):=by unfold PP;rw[if_neg e]
    rw[ev];have h1:=Jd C (u,p);have h2:=Jd C (p,w);have h3:=GD (Ad C (u,p)) (Ad C (p,w));have h4:=lW C (u,w) (AD (Ad C (u,p)) (Ad C (p,w))) (some p) (uf.len hm);have t1:∀a b:Int,D.tup [.int a,.int b]=pD (a,b):=λ a b=>rfl;have t2:Ek (some p)=.int p:=rfl;rw[t2] at h4;have h5:=Ny (ρ:=[some (.ow (.tree (some 0) (OE C))),‹.int p›,‹.lst (H.map D.int)›,‹.int u›,‹.int w›,‹cst (AD (Ad C (u,p)) (Ad C (p,w)))›]) (i:=0) rfl rfl h4;simp_arith[decide_eq_false e,if_true];apply wp_step
    ·simp_arith[t1,h1,h2,h3];rfl
    refine Bp (ρ':=_) (by simp_arith[t1,h5];rfl) ⟨_,_,rfl⟩
  ·rintro ρ ⟨s4,s5,rfl⟩;rw[za2,zc1];exact⟨_,s4,s5,rfl⟩
 ·rintro ρ ⟨s3,s4,s5,rfl⟩;rw[za2,zc1];exact⟨rfl,trivial⟩
abbrev TR:=za5 Je
def WW:Txt K mg->LG P w K mg base "lay_over" 2 3 TR:=(za0 Je).1
def WY:RI TR:=(za0 Je).2
abbrev Oh (F:List D->M OT):Prop:=∀(m:Nat) (rs:List Road) (L:List Int),m<=20->L.Perm (Bu m)->(∀r∈rs,PL m r/\r.a≠r.b)->F [Ac m rs,.lst (L.map D.int)]=.ok (OE (BC rs L))
def Hs:∃F,FT "laid_arcs" 3 2 F/\Oh F:=by
 refine⟨_,λ T=>Aq (k:=2) T.WM Di _ (λ f AZ A outer s H E hr=>(A2 (Bt 2 Di.nd rfl (zay rfl) (QA true)) (A2 (C1 A7.toXCall.own rfl (B2 (Aa (!hr) (!0) A4)) (AS 3 Di.nd rfl (zay rfl)) (A5 (IJ (jG A7.toXCall (lV T) (-hr) rfl (B4 2 (pv 2)) (A1 (AM (A1 (Aa (!hr) (!3) A4) (A1 (Aa (!hr) (!3) A4) A6))) (A1 (Ag (A9 A7.toXCall (EK T) (-hr) rfl (A1 (!3) A6) rfl)) (A1 CM A6))) rfl)))) (A2 (C1 A7.toXCall.own rfl (Lp rfl T.Ed (!1)) (Ur (n:=2) rfl (C7 (AS 4 Di.nd rfl (zay rfl)) (C7 (AS 5 Di.nd rfl (zay rfl)) Pc))) (A5 (IJ (jG A7.toXCall (WW T) (-hr) rfl (B4 2 (pv 2)) (A1 (!5) (A1 (Ag (Gk (!1) (GX (BS (!4) A4)) Ln)) A6)) rfl)))) (A5 (CJ 2 (pv 2))))))),?_⟩;intro m rs L hm hL Aw;rfl';refine AX ?_;have n1:AB (Ac m rs) (.int 1)=.ok (.lst (rs.map Bx)):=rfl;apply wp_step
 ·rfl
 try simp only[zah,zae]
 have iq:∀i,i<=rs.length->Ic m ((rs.take i).foldl (λ A r=>layA A (r.a,r.b) (Cv r) none) []):=λ i hi=>by
  have:=(UN (m:=m) (rs:=rs.take i) λ r hr=>Aw r (zc0 hr)).1;exact this
 refine BU (I:=λ ρ=>∃s3 s4 s5:Option Cl,ρ=[‹Ac m rs›,‹.lst (L.map D.int)›,some (.ow (.tree none (OE (lay0 rs)))),s3,s4,s5]) ?_ ?_
 ·simp_arith[n1];refine C3 (λ i ρ=>i<=rs.length/\∃s3 s4 s5:Option Cl,ρ=[‹Ac m rs›,‹.lst (L.map D.int)›,some (.ow (.tree none (OE ((rs.take i).foldl (λ A r=>layA A (r.a,r.b) (Cv r) none) [])))),s3,s4,s5]) ⟨zbb _,none,none,none,rfl⟩ ?_ ?_
  ·rintro i d ρ hd ⟨hi,s3,s4,s5,rfl⟩;obtain⟨r,hr,rfl⟩:=BB hd;have af:=(zaf.mp hr).1;refine⟨_,rfl,?_⟩;rw[Fc hr];obtain⟨B,hB⟩:∃B,B=(rs.take i).foldl (λ A r=>layA A (r.a,r.b) (Cv r) none) []:=⟨_,rfl⟩;have ip:Ic m B:=by rw[hB];exact iq i hi
   rw[<-hB];have i0:AB (Bx r) (.int 0)=.ok (.int r.a):=rfl;have i1:AB (Bx r) (.int 1)=.ok (.int r.b):=rfl;have h1:=EL r;have h2:=lW B (r.a,r.b) (Cv r) none (ip.len hm);have t1:∀a b:Int,D.tup [.int a,.int b]=pD (a,b):=λ a b=>rfl;have t2:Ek none=.Av:=rfl;rw[t2] at h2;have h5:=Ny (ρ:=[‹Ac m rs›,‹.lst (L.map D.int)›,some (.ow (.tree none (OE B))),‹Bx r›,s4,s5]) (i:=2) rfl rfl h2;refine Bp (ρ':=_) (by simp_arith[i0,i1,h1,t1,h5];rfl) ⟨af,_,_,_,rfl⟩
  ·rintro ρ ⟨_,s3,s4,s5,rfl⟩;rw[za2,zc1];exact⟨s3,s4,s5,rfl⟩
 ·rintro ρ ⟨s3,s4,s5,rfl⟩;have jk:=UN Aw;refine BU (I:=λ ρ=>∃s3 s4 s5:Option Cl,ρ=[‹Ac m rs›,‹.lst (L.map D.int)›,some (.ow (.tree none (OE (BC rs L)))),s3,s4,s5]) ?_ ?_
  ·simp_arith[];refine C3 (λ i ρ=>i<=L.length/\∃(G:LA) (s3 s4 s5:Option Cl),ρ=[‹Ac m rs›,‹.lst (L.map D.int)›,some (.ow (.tree none (OE G))),s3,s4,s5]/\Ic m G/\S8 G (L.drop i)=S8 (lay0 rs) L) ⟨zbb _,lay0 rs,s3,s4,s5,rfl,jk.1,rfl⟩ ?_ ?_
   ·rintro i d ρ hd ⟨hi,G,s3,s4,s5,rfl,hG,lj⟩;obtain⟨d',c6,rfl⟩:=Gg hd;obtain⟨p,hp,rfl⟩:=BB c6;have af:=(zaf.mp hp).1;rw[Nat.zero_add];refine⟨_,rfl,?_⟩;have br:∀x∈L.drop (i+1),0<=x/\x<m:=λ x hx=>(Bd hL).mp (List.mem_of_mem_drop hx);have ed:L.drop i=p::L.drop (i+1):=by
     rw[zcl af];rw[za7 af] at hp;rw[zao hp]
    rw[ed,S8] at lj;have h2:=WY m G p (L.drop (i+1)) hm hG br;have sl:cS (some ((i:Int)+1)) none (.lst (L.map D.int))=.ok (.lst (((L.drop (i+1)).map D.int).map .sh)):=by rw[List.map_drop];exact QC _ (i+1)
    have h5:=Ny (ρ:=[‹Ac m rs›,‹.lst (L.map D.int)›,some (.ow (.tree none (OE G))),s3,‹.int i›,‹.int p›]) (i:=2) rfl rfl h2;refine Bp (ρ':=_) (by simp_arith[sl,h5];rfl) ⟨af,_,_,_,_,rfl,Ic.lo br hG br,lj⟩
   ·rintro ρ ⟨_,G,s3,s4,s5,rfl,hG,lj⟩;rw[D4,za2,zcs,S8] at lj;exact⟨s3,s4,s5,by rw[lj];rfl⟩
  ·rintro ρ ⟨s3,s4,s5,rfl⟩;exact⟨_,rfl,rfl⟩
abbrev RJ:=za5 Hs
def V8:FT "laid_arcs" 3 2 RJ:=(za0 Hs).1
def V9:Oh RJ:=(za0 Hs).2
abbrev Ee (F:List D->M OT):Prop:=∀(m:Nat) (rs:List Road) (L:List Int) (A:LA) (K:List (Int×Int)) (u w:Int),0<=u->u<m->0<=w->w<m->(Ao A (u,w)).isSome=true->F [Bg m rs L A K,.int u,.int w]=.ok (.sh (pD (u,w)))
def Ce:∃F:List D->M OT,(∀ {P w K mg base},Txt K mg->FC P w K mg base "Ladder" "checked_arc" 2 3 F)/\Ee F:=by
 refine⟨_,λ T=>Hf (k:=1) T.Jb Dq _ (λ f AZ A outer s H E hr=>(A2 (As 3 Dq.nd rfl (zay rfl) (Aa (!hr) (BN ["Ladder"] (Az T.Bz AW) (!0)) A4)) (A2 (B0 (DW.dt (Dg (Bs (B8 (c:=true) (Ag (A9 A7.toXCall (AU T) (-hr) rfl (A1 (!1) (A1 (!3) A6)) rfl)))) (Dg (Bs (B8 (c:=true) (Ag (A9 A7.toXCall (AU T) (-hr) rfl (A1 (!2) (A1 (!3) A6)) rfl)))) (Ct (Pj (c:=true) (!hr) (AM (A1 (!1) (A1 (!2) A6))) (BN ["Ladder"] (Az T.Cd AW) (!0))))))) (A5 Qj) Ap) (A5 (Ae (AH (AM (A1 (!1) (A1 (!2) A6))))))))),?_⟩;intro m rs L A K u w u0 u1 w0 w1 hf;rfl';refine AX ?_;have f1:K4 ["Ladder"] "own_map" (Bg m rs L A K)=.ok (Ac m rs):=rfl;have f2:K4 ["Ladder"] "laid" (Bg m rs L A K)=.ok (Ss A):=rfl;have n0:AB (Ac m rs) (.int 0)=.ok (.int m):=rfl;have h1:=AV u m u0 u1;have h2:=AV w m w0 w1;have hp:D.tup [.int u,.int w]=pD (u,w):=rfl;have hm:=UT A (u,w) true;rw[hf] at hm;apply wp_step
 ·simp_arith[f1,n0];rfl
 apply wp_step
 ·simp_arith[h1,h2,f2,hp,hm,EG];rfl
 rfl
abbrev AQ:=za5 Ce
def Dr:Txt K mg->FC P w K mg base "Ladder" "checked_arc" 2 3 AQ:=(za0 Ce).1
def Ds:Ee AQ:=(za0 Ce).2
abbrev Km (F:List D->M OT):Prop:=∀(m:Nat) (rs:List Road) (L:List Int) (A:LA) (K:List (Int×Int)) (u w:Int) (c:Int×Int),Ic m A->Ad A (u,w)=some c->F [Bg m rs L A K,.int u,.int w]=.ok (.sh (cst (some c)))
def Fi:∃F:List D->M OT,(∀ {P w K mg base},Txt K mg->FC P w K mg base "Ladder" "cost" 3 3 F)/\Km F:=by
 refine⟨_,λ T=>Hf (k:=2) T.SA Rg _ (λ f AZ A outer s H E hr=>(A5 (Ae (AH (Aa (!hr) (Aa (!hr) (BN ["Ladder"] (Az T.Cd AW) (!0)) (Ag (FH (k:=2) [("Ladder",AQ)] A7.toXCall (Bq (by decide) (Dr T) BR) (-hr) (!0) (A1 (!1) (A1 (!2) A6)) rfl))) A4))))),?_⟩;intro m rs L A K u w c hA hc;rfl';refine AX ?_;have f2:K4 ["Ladder"] "laid" (Bg m rs L A K)=.ok (Ss A):=rfl;have hk:=hA.rg _ (Fb hc);obtain⟨v,hv⟩:∃v,Ao A (u,w)=some (c,v):=by
  unfold Ad at hc;cases q:Ao A (u,w) with
  |none=>rw[q] at hc;cases hc
  |some z=>rw[q] at hc;obtain⟨z1,z2⟩:=z;cases hc;exact⟨z2,rfl⟩
 have h1:=Ds m rs L A K u w hk.2.1.1 hk.2.1.2 hk.2.2.1 hk.2.2.2 (by rw[hv];rfl);have hi:=QT hv;have h0:AB (Y9 (c,v)) (.int 0)=.ok (cst (some c)):=rfl;have hs:Dz [("Ladder",AQ)] "checked_arc" (Bg m rs L A K)=.ok AQ:=rfl;simp_arith[f2,hs,h1,hi,h0];rfl
abbrev B6:=za5 Fi
def Fj:Txt K mg->FC P w K mg base "Ladder" "cost" 3 3 B6:=(za0 Fi).1
def Fl:Km B6:=(za0 Fi).2
abbrev Kn (F:List D->M OT):Prop:=∀(m:Nat) (rs:List Road) (L:List Int) (A:LA) (K:List (Int×Int)),F [Bg m rs L A K]=.ok (.lst ((K.map pD).map .sh))
def Fm:∃F:List D->M OT,(∀ {P w K mg base},Txt K mg->FC P w K mg base "Ladder" "kept" 1 1 F)/\Kn F:=by
 refine⟨_,λ T=>Hf (k:=0) T.SD Rh _ (λ f AZ A outer s H E hr=>(A5 (Ae (EF rfl T.CU (BN ["Ladder"] (Az T.Fg AW) (!0)))))),?_⟩;intro m rs L A K;dsimp only;rfl
abbrev B7:=za5 Fm
def Fn:Txt K mg->FC P w K mg base "Ladder" "kept" 1 1 B7:=(za0 Fm).1
def Fo:Kn B7:=(za0 Fm).2
abbrev MT (F:List D->M OT):Prop:=∀(m:Nat) (rs:List Road) (L:List Int) (A:LA) (K:List (Int×Int)),Bi m rs L A K->F [Bg m rs L A K]=.ok (ccT (Ig A K))
def G3:∃F,FT "kept_costs" 4 1 F/\MT F:=by
 refine⟨_,λ T=>Aq (k:=3) T.V3 Sx _ (λ f AZ A outer s H E hr=>(A5 (Ae (We rfl (!hr) rfl T.V7 (Ag (CK (NB:=["u","w","ladder"]) [none,none,some 0] rfl (B2 (Ag (E9 (k:=1) [("Ladder",B7)] A7.toXCall (Bq (by decide) (Fn T) BR) (-hr) (!0)))) rfl rfl (LJ (n:=2) rfl (Cc 0 (by decide) rfl rfl rfl (Cc 1 (by decide) rfl rfl rfl IK))) (λ _ _ _ _=>DY) (λ _ _ _ _=>(AM (A1 (AM (A1 (!0) (A1 (!1) A6))) (A1 (Ag (Cm (FH (k:=3) [("Ladder",B6)] (BK rfl).toXCall (Bq (by decide) (Fj T) BR) (-hr) (!2) (A1 (!0) (A1 (!1) A6)) rfl))) A6)))))))))),?_⟩;intro m rs L A K ok;rfl';refine AX ?_;have hs:Dz [("Ladder",B7)] "kept" (Bg m rs L A K)=.ok B7:=rfl;have aB:Dz [("Ladder",B6)] "cost" (Bg m rs L A K)=.ok B6:=rfl;have hk:=Fo m rs L A K;have hl:(K.map pD).length<=1000:=by rw[za2];have:=ok.kl;omega
 have hn:((Ig A K).map zb0).Nodup:=by rw[QU];exact ok.kn
 have hd:=kR (C:=Ig A K) hn (by simp only[Ig,za2];have:=ok.kl;omega);simp_arith[hs,hk,if_pos hl];rw[BM (λ p=>D.tup [pD p,cst (some ((Ad A p).getD (0,0)))]) (λ p hp=>⟨_,rfl,rfl,by
  obtain⟨c,hc,_⟩:=(ok.km p).mp hp;have h1:=Fl m rs L A K p.1 p.2 c ok.aok hc;simp_arith[aB,h1];rw[hc];rfl⟩)]
 have e1:(K.map λ p=>D.tup [pD p,cst (some ((Ad A p).getD (0,0)))])=(Ig A K).map λ kv=>D.tup [pD kv.1,cst (some kv.2)]:=by
  simp only[Su,Ig,zby];rfl
 rw[e1];simp_arith[hd];exact⟨_,rfl,rfl⟩
abbrev Oi:=za5 G3
def SG:FT "kept_costs" 4 1 Oi:=(za0 G3).1
def SH:MT Oi:=(za0 G3).2
abbrev ED (F:List D->M OT):Prop:=∀(m:Nat) (rs:List Road) (L:List Int) (A:LA) (K:List (Int×Int)),Bi m rs L A K->F [Bg m rs L A K]=.ok (ccT (Su (Ig A K)))
def Cn:∃F,FT "kept_costs_turned" 4 1 F/\ED F:=by
 refine⟨_,λ T=>Aq (k:=3) T.K5 IZ _ (λ f AZ A outer s H E hr=>(A5 (Ae (We rfl (!hr) rfl T.V7 (Ag (CK (NB:=["u","w","ladder"]) [none,none,some 0] rfl (B2 (Ag (E9 (k:=1) [("Ladder",B7)] A7.toXCall (Bq (by decide) (Fn T) BR) (-hr) (!0)))) rfl rfl (LJ (n:=2) rfl (Cc 0 (by decide) rfl rfl rfl (Cc 1 (by decide) rfl rfl rfl IK))) (λ _ _ _ _=>DY) (λ _ _ _ _=>(AM (A1 (AM (A1 (!1) (A1 (!0) A6))) (A1 (Ag (Cm (FH (k:=3) [("Ladder",B6)] (BK rfl).toXCall (Bq (by decide) (Fj T) BR) (-hr) (!2) (A1 (!0) (A1 (!1) A6)) rfl))) A6)))))))))),?_⟩;intro m rs L A K ok;rfl';refine AX ?_;have hs:Dz [("Ladder",B7)] "kept" (Bg m rs L A K)=.ok B7:=rfl;have aB:Dz [("Ladder",B6)] "cost" (Bg m rs L A K)=.ok B6:=rfl;have hk:=Fo m rs L A K;have hl:(K.map pD).length<=1000:=by rw[za2];have:=ok.kl;omega
 have hn:((Ig A K).map zb0).Nodup:=by rw[QU];exact ok.kn
 have hd:=kR (C:=Su (Ig A K)) (dU hn) (by unfold Su;simp only[Ig,za2];have:=ok.kl;omega);simp_arith[hs,hk,if_pos hl];rw[BM (λ p=>D.tup [pD (p.2,p.1),cst (some ((Ad A p).getD (0,0)))]) (λ p hp=>⟨_,rfl,rfl,by
  obtain⟨c,hc,_⟩:=(ok.km p).mp hp;have h1:=Fl m rs L A K p.1 p.2 c ok.aok hc;simp_arith[aB,h1];rw[hc];rfl⟩)]
 have e1:(K.map λ p=>D.tup [pD (p.2,p.1),cst (some ((Ad A p).getD (0,0)))])=(Su (Ig A K)).map λ kv=>D.tup [pD kv.1,cst (some kv.2)]:=by
  simp only[Su,Ig,zby];rfl
 rw[e1];simp_arith[hd];exact⟨_,rfl,rfl⟩
abbrev Fp:=za5 Cn
def Ef:FT "kept_costs_turned" 4 1 Fp:=(za0 Cn).1
def Eg:ED Fp:=(za0 Cn).2
abbrev TU (F:List D->M OT):Prop:=∀(m:Nat) (L:List Int) (C:CA) (s:Int),m<=20->L.Perm (Bu m)->s∈L->(∀p c,Ao C p=some c->p.1∈L/\p.2∈L)->∃R:RA,F [.lst (L.map D.int),Vi C,.int s]=.ok (Ye R)/\S9 L C s L.length R
def L0:∃F,FT "climbed" 2 3 F/\TU F:=by
 refine⟨_,λ T=>Aq (k:=1) T.eL DF _ (λ f AZ A outer s H E hr=>(A2 (Bt 3 DF.nd rfl (zay rfl) (jV (!2) (AM (A1 A4 (A1 A4 A6))))) (A2 (C1 A7.toXCall.own rfl (Lp rfl T.Ed (!0)) (Ur (n:=2) rfl (C7 (AS 4 DF.nd rfl (zay rfl)) (C7 (AS 5 DF.nd rfl (zay rfl)) Pc))) (A5 (B0 (H9 (Nr (c:=true) (!hr) (!5) (!3))) (A5 (C1 A7.toXCall.own rfl (B2 (Ag (Gk (!0) (GX (BS (!4) A4)) Ln))) (AS 6 DF.nd rfl (zay rfl)) (A5 (B0 (Nr (c:=true) (!hr) (AM (A1 (!5) (A1 (!6) A6))) (!1)) (A2 (As 7 DF.nd rfl (zay rfl) (Ag (Ej (A9 A7.toXCall (GC T) (-hr) rfl (A1 (Aa (!hr) (!3) (!5)) (A1 (Aa (!hr) (!1) (AM (A1 (!5) (A1 (!6) A6)))) A6)) rfl)))) (A5 (Pm (!hr) (B4 3 (pv 3)) (!6) (Ag (Ej (A9 A7.toXCall (MQ T) (-hr) rfl (A1 (Du (A1 (QF (!hr) (!3) (!6)) (A1 (!7) A6))) A6) rfl)))))) Ap)))) Ap))) (A5 (CJ 3 (pv 3)))))),?_⟩;intro m L C s hm hL hs hC;have hn:=Hk hL;have hlen:=IV hL;rfl';refine (λ h:∃t,_/\∃R:RA,t=Ye R/\S9 L C s L.length R=>by
  obtain⟨t,h1,R,rfl,h2⟩:=h;exact⟨R,h1,h2⟩) (LL ?_)
 refine wp_step (ρ':=[‹.lst (L.map D.int)›,‹Vi C›,‹.int s›,some (.ow (.tree none (Ye [(s,(0,0))]))),none,none,none,none]) (by rfl) ?_;refine BU (I:=λ ρ=>∃(R:RA) (s4 s5 s6 s7:Option Cl),ρ=[‹.lst (L.map D.int)›,‹Vi C›,‹.int s›,some (.ow (.tree none (Ye R))),s4,s5,s6,s7]/\S9 L C s L.length R) ?_ ?_
 ·simp_arith[];refine C3 (λ i ρ=>i<=L.length/\∃(R:RA) (s4 s5 s6 s7:Option Cl),ρ=[‹.lst (L.map D.int)›,‹Vi C›,‹.int s›,some (.ow (.tree none (Ye R))),s4,s5,s6,s7]/\S9 L C s i R) ⟨zbb _,_,none,none,none,none,rfl,S9.start hs⟩ ?_ ?_
  ·rintro i d ρ hd ⟨hi,R,s4,s5,s6,s7,rfl,hR⟩;obtain⟨d',c6,rfl⟩:=Gg hd;obtain⟨x,hx,rfl⟩:=BB c6;have af:=(zaf.mp hx).1;rw[Nat.zero_add];refine⟨_,rfl,?_⟩;have d9:=kN R x false;have t7:=QW hn hx;cases q:Ao R x with
   |none =>
    rw[q] at d9;refine Bp (ρ':=_) (by simp_arith[d9];rfl) ⟨af,R,_,_,_,_,rfl,hR.skip hx hn q⟩
   |some c0 =>
    rw[q] at d9;have sl:cS (some ((i:Int)+1)) none (.lst (L.map D.int))=.ok (.lst (((L.drop (i+1)).map D.int).map .sh)):=by rw[List.map_drop];exact QC _ (i+1)
    simp_arith[d9,sl,if_true,Option.isSome_some,zb1,if_false];refine C3 (λ j ρ=>j<=(L.drop (i+1)).length/\∃(R':RA) (s6 s7:Option Cl),ρ=[‹.lst (L.map D.int)›,‹Vi C›,‹.int s›,some (.ow (.tree none (Ye R'))),‹.int i›,‹.int x›,s6,s7]/\sN L C s i x c0 ((L.drop (i+1)).take j) R R') ⟨zbb _,R,s6,s7,rfl,hR.nd,hR.rg,hR.sd,λ y=>CF _,λ y _=>rfl,λ y hy=>by rw[List.take_zero] at hy;cases hy⟩ ?_ ?_
    ·rintro j d ρ hd ⟨hj,R',s6,s7,rfl,hI⟩;obtain⟨y,hy,rfl⟩:=BB hd;have lm:=(zaf.mp hy).1;have oa:=zas hy;have yq:y∈L:=List.mem_of_mem_drop oa;have db:i<C5 L y:=ZH hn oa;have et:(L.drop (i+1)).take (j+1)=(L.drop (i+1)).take j++[y]:=by rw[zc7,hy];rfl
     refine⟨_,rfl,?_⟩;rw[et];have t1:∀a b:Int,D.tup [.int a,.int b]=pD (a,b):=λ a b=>rfl;have om:=wQ C (x,y) false;cases q2:Ao C (x,y) with
     |none =>
      rw[q2] at om;refine Bp (ρ':=_) (by simp_arith[t1,om];rfl) ⟨lm,R',_,_,rfl,hI.skip q2⟩
     |some dd =>
      rw[q2] at om;have aD:Ao R' x=some c0:=by rw[hI.sm x (by omega)];exact q
      have i1:=Yg aD;have i2:=wR q2;have h1:=GD (some c0) (some dd);have g1:=kO R' y;obtain⟨v,hv⟩:∃v,HJ (Ao R' y) (some (c0.1+dd.1,c0.2+dd.2))=some v:=by
       cases Ao R' y with
       |none|some z=>exact⟨_,rfl⟩
      have h2:RG [.lst [cst (Ao R' y),cst (some (c0.1+dd.1,c0.2+dd.2))]]=.ok (.sh (cst (HJ (Ao R' y) (some (c0.1+dd.1,c0.2+dd.2))))):=MR [Ao R' y,some (c0.1+dd.1,c0.2+dd.2)] (by simp);rw[hv] at h2;have aP:=hI.put yq db t7 q q2 hv;have hl:(R'.map λ kv=>D.int kv.1).length<1000:=by
       have:=Gq hI.nd hI.rg;rw[za2] at this ⊢;omega
      have jj:∀z:Int,keyOk false (.int z)=true:=λ z=>rfl;have ha:AD (some c0) (some dd)=some (c0.1+dd.1,c0.2+dd.2):=rfl;rw[ha] at h1;simp_arith[t1,om,if_true,Option.isSome_some,zb1,if_false];apply wp_step
      ·simp_arith[t1,i1,i2,h1];rfl
      refine Bp (ρ':=[‹.lst (L.map D.int)›,‹Vi C›,‹.int s›,some (.ow (.tree none (Ye (CS R' y v)))),‹.int i›,‹.int x›,‹.int y›,‹cst (some (c0.1+dd.1,c0.2+dd.2))›]) (by
       simp_arith[g1,h2,jj,hl,and_self,if_true,wV];rfl) ⟨lm,_,_,_,rfl,aP⟩
    ·rintro ρ ⟨_,R',s6,s7,rfl,hI⟩;rw[za2,zc1] at hI;exact⟨af,R',_,_,s6,s7,rfl,hR.go (λ p c h=>(hC p c h).2) hx hn q hI⟩
  ·rintro ρ ⟨_,R,s4,s5,s6,s7,rfl,hR⟩;rw[D4,za2] at hR;exact⟨R,s4,s5,s6,s7,rfl,hR⟩
 ·rintro ρ ⟨R,s4,s5,s6,s7,rfl,hR⟩;exact⟨_,rfl,R,rfl,hR⟩
abbrev WZ:=za5 L0
def L1:FT "climbed" 2 3 WZ:=(za0 L0).1
def L3:TU WZ:=(za0 L0).2
abbrev Jf (F:List D->M OT):Prop:=∀(m:Nat) (rs:List Road) (L:List Int) (A:LA) (K:List (Int×Int)),F [Bg m rs L A K]=.ok (.lst ((L.map D.int).map .sh))
def Em:∃F:List D->M OT,(∀ {P w K mg base},Txt K mg->FC P w K mg base "Ladder" "order" 1 1 F)/\Jf F:=by
 refine⟨_,λ T=>Hf (k:=0) T.Rx OH _ (λ f AZ A outer s H E hr=>(A5 (Ae (EF rfl T.CU (BN ["Ladder"] (Az T.CV AW) (!0)))))),?_⟩;intro m rs L A K;dsimp only;rfl
abbrev B1:=za5 Em
def En:Txt K mg->FC P w K mg base "Ladder" "order" 1 1 B1:=(za0 Em).1
def Eo:Jf B1:=(za0 Em).2
abbrev Jg (F:List D->M OT):Prop:=∀(m:Nat) (rs:List Road) (L:List Int) (A:LA) (K:List (Int×Int)) (s:Nat),Bi m rs L A K->s<m->∃R:RA,F [Bg m rs L A K,.int s]=.ok (Ye R)/\S9 L (Ig A K) s L.length R
def Ep:∃F,FT "climbed_from" 5 2 F/\Jg F:=by
 refine⟨_,λ T=>Aq (k:=4) T.Rt OF _ (λ f AZ A outer s H E hr=>(A5 (Ae (A9 A7.toXCall (L1 T) (-hr) rfl (A1 (Ag (E9 (k:=1) [("Ladder",B1)] A7.toXCall (Bq (by decide) (En T) BR) (-hr) (!0))) (A1 (Ag (A9 A7.toXCall (SG T) (-hr) rfl (A1 (!0) A6) rfl)) (A1 (!1) A6))) rfl)))),?_⟩;intro m rs L A K s ok hs;have hm:=ok.m2;rfl';have h1:=SH m rs L A K ok;have h2:=Eo m rs L A K;have de:Dz [("Ladder",B1)] "order" (Bg m rs L A K)=.ok B1:=rfl;have lp:(s:Int)∈L:=(Bd ok.pm).mpr ⟨by omega,by omega⟩;obtain⟨R,hF,hR⟩:=L3 m L (Ig A K) s (by omega) ok.pm lp ok.xF;refine⟨R,AX ?_,hR⟩;simp_arith[de,h2,h1,hF];exact⟨_,rfl,rfl⟩
abbrev G4:=za5 Ep
def OP:FT "climbed_from" 5 2 G4:=(za0 Ep).1
def OQ:Jg G4:=(za0 Ep).2
abbrev Ko (F:List D->M OT):Prop:=∀(m:Nat) (rs:List Road) (L:List Int) (A:LA) (K:List (Int×Int)) (s:Nat),Bi m rs L A K->s<m->∃R:RA,F [Bg m rs L A K,.int s]=.ok (Ye R)/\S9 L (Su (Ig A K)) s L.length R
def Fq:∃F,FT "climbing_to" 5 2 F/\Ko F:=by
 refine⟨_,λ T=>Aq (k:=4) T.Sz Ra _ (λ f AZ A outer s H E hr=>(A5 (Ae (A9 A7.toXCall (L1 T) (-hr) rfl (A1 (Ag (E9 (k:=1) [("Ladder",B1)] A7.toXCall (Bq (by decide) (En T) BR) (-hr) (!0))) (A1 (Ag (A9 A7.toXCall (Ef T) (-hr) rfl (A1 (!0) A6) rfl)) (A1 (!1) A6))) rfl)))),?_⟩;intro m rs L A K s ok hs;have hm:=ok.m2;rfl';have h1:=Eg m rs L A K ok;have h2:=Eo m rs L A K;have de:Dz [("Ladder",B1)] "order" (Bg m rs L A K)=.ok B1:=rfl;have lp:(s:Int)∈L:=(Bd ok.pm).mpr ⟨by omega,by omega⟩;obtain⟨R,hF,hR⟩:=L3 m L (Su (Ig A K)) s (by omega) ok.pm lp ok.aaL;refine⟨R,AX ?_,hR⟩;simp_arith[de,h2,h1,hF];exact⟨_,rfl,rfl⟩
abbrev Ht:=za5 Fq
def RK:FT "climbing_to" 5 2 Ht:=(za0 Fq).1
def RL:Ko Ht:=(za0 Fq).2
abbrev Jh (F:List D->M OT):Prop:=∀(m:Nat) (rs:List Road) (L:List Int) (A:LA) (K:List (Int×Int)) (s g:Nat) (R1 R2:RA),Bi m rs L A K->(G4) [Bg m rs L A K,.int s]=.ok (Ye R1)->(Ht) [Bg m rs L A K,.int g]=.ok (Ye R2)->(R1.map zb0).Nodup->R1.length<=900->F [Bg m rs L A K,.int s,.int g]=.ok (Ye (CH R1 R2))
def Er:∃F,FT "sums_at_tops" 6 3 F/\Jh F:=by
 refine⟨_,λ T=>Aq (k:=5) T.Ru El _ (λ f AZ A outer s H E hr=>(A2 (As 3 El.nd rfl (Or.inr rfl) (Ag (A9 A7.toXCall (OP T) (-hr) rfl (A1 (!0) (A1 (!1) A6)) rfl))) (A2 (As 4 El.nd rfl (Or.inr rfl) (Ag (A9 A7.toXCall (RK T) (-hr) rfl (A1 (!0) (A1 (!2) A6)) rfl))) (A5 (Ae (Wx rfl rfl T.V7 (Ag (kZ (NB:=["place","ahead","behind"]) [none,some 3,some 4] rfl (qU (!3)) rfl rfl (BI 0 (by decide) rfl rfl rfl) (λ _ _ _ _=>EE (Nr (c:=true) (!hr) (!0) (!2))) (λ _ _ _ _=>(AM (A1 (!0) (A1 (Ag (Cm (A9 (BK rfl).toXCall (GC T) (-hr) rfl (A1 (Aa (!hr) (!1) (!0)) (A1 (Aa (!hr) (!2) (!0)) A6)) rfl))) A6)))))))))))),?_⟩;intro m rs L A K s g R1 R2 ok lq ug hn hl;rfl';refine AX ?_;apply wp_step
 ·simp_arith[lq];rfl
 try simp only[zah,zae]
 apply wp_step
 ·simp_arith[ug];rfl
 try simp only[zah,zae]
 have al:(R1.map λ kv=>D.int kv.1).length<=1000:=by rw[za2];omega
 simp_arith[qX,if_pos al];rw[BL (λ kv:Int×(Int×Int)=>(Ao R2 kv.1).isSome) (λ kv=>D.tup [.int kv.1,cst (AD (some kv.2) (Ao R2 kv.1))]) (λ kv lh=>⟨_,rfl,by
  have h1:=kN R2 kv.1 false;simp_arith[h1];try rfl,λ hp=>by
  have f1:Ao R1 kv.1=some kv.2:=UM hn lh;obtain⟨c,hc⟩:=zbx.mp hp;have i1:=Yg f1;have i2:=Yg hc;have lr:=GD (some kv.2) (some c);rw[hc];simp_arith[i1,i2,lr];try rfl⟩)]
 rw[Tw];have hd:=xH (C:=CH R1 R2) ((DD R2 R1).nodup hn) (by
  have:=(DD R2 R1).length_le;rw[za2,za2] at this;omega)
 simp_arith[hd];exact⟨_,rfl,rfl⟩
abbrev Kq:=za5 Er
def OR:FT "sums_at_tops" 6 3 Kq:=(za0 Er).1
def OS:Jh Kq:=(za0 Er).2
abbrev bA (F:List D->M OT):Prop:=∀(m:Nat) (L:List Int) (C:CA) (s:Int),m<=20->L.Perm (Bu m)->s∈L->(∀p c,Ao C p=some c->p.1∈L/\p.2∈L)->∃(R:RA) (T:List Co),F [.lst (L.map D.int),Vi C,.int s]=.ok (.lst ((T.map cst).map .sh))/\S9 L C s L.length R/\mD m L C s R L.reverse T
def RM:∃F,FT "swept" 3 3 F/\bA F:=by
 refine⟨_,λ T=>Aq (k:=2) T.rJ Gy _ (λ f AZ A outer s H E hr=>(A2 (As 3 Gy.nd rfl (zay rfl) (Ag (A9 A7.toXCall (L1 T) (-hr) rfl (A1 (!0) (A1 (!1) (A1 (!2) A6))) rfl))) (A2 (Bt 4 Gy.nd rfl (Or.inr rfl) (jK CM (CN rfl T.Ff (!0)))) (A2 (Bt 5 Gy.nd rfl (zay rfl) (FY C2)) (A2 (C1 A7.toXCall.own rfl (wD rfl T.YB (!0)) (AS 6 Gy.nd rfl (Or.inr rfl)) (A2 (jE (NB:=["high","told","costs","lower"]) 7 [none,some 4,some 1,some 6] Gy.nd rfl (zay rfl) rfl (B2 (!5)) rfl rfl (BI 0 (by decide) rfl rfl rfl) (λ _ _ _ _=>DY) (λ _ _ _ _=>(Ag (Cm (A9 (BK rfl).toXCall (GC T) (-hr) rfl (A1 (Aa (!hr) (!1) (!0)) (A1 (QF (!hr) (!2) (AM (A1 (!0) (A1 (!3) A6)))) A6)) rfl))))) (A2 (XU 4 (pv 4) (Ag (Ej (A9 A7.toXCall (MQ T) (-hr) rfl (A1 (Ag (LI (Du (A1 (QF (!hr) (!3) (!6)) A6)) (!7))) A6) rfl))) (!6)) (A5 (JE 5 (pv 5) (!6)))))) (A5 (CJ 4 (pv 4)))))))),?_⟩;intro m L C s hm hL hs hC;have hn:=Hk hL;have hlen:=IV hL;obtain⟨R,hF,hR⟩:=L3 m L C s hm hL hs hC;rfl';refine (λ h:∃t,_/\∃T:List Co,t=.lst ((T.map cst).map .sh)/\mD m L C s R L.reverse T=>by
  obtain⟨t,h1,T,rfl,h2⟩:=h;exact⟨R,T,h1,hR,h2⟩) (LL ?_)
 have jk:((L.map D.int).length:Int)=(m:Int):=by rw[za2,hlen]
 have df:=W9 (d:=.Av) (n:=m) (by omega);have ir:zak m D.Av=(zak m (none:Co)).map cst:=by rw[List.map_replicate];rfl
 rw[ir] at df;apply wp_step
 ·simp_arith[hF];rfl
 try simp only[zah,zae]
 apply wp_step
 ·simp_arith[jk,df];rfl
 try simp only[zah,zae]
 apply wp_step
 ·rfl
 try simp only[zah,zae]
 refine BU (I:=λ ρ=>∃(T:List Co) (s5 s6 s7:Option Cl),ρ=[‹.lst (L.map D.int)›,‹Vi C›,‹.int s›,‹dS R›,some (.own (T.map cst)),s5,s6,s7]/\mD m L C s R L.reverse T) ?_ ?_
 ·have iu:(L.map D.int).reverse=L.reverse.map D.int:=by rw[List.map_reverse]
  simp_arith[iu];refine C3 (λ i ρ=>i<=L.reverse.length/\∃(T:List Co) (s6 s7:Option Cl),ρ=[‹.lst (L.map D.int)›,‹Vi C›,‹.int s›,‹dS R›,some (.own (T.map cst)),some (.own ((L.reverse.take i).map D.int)),s6,s7]/\mD m L C s R (L.reverse.take i) T) ⟨zbb _,_,none,none,rfl,mD.start⟩ ?_ ?_
  ·rintro i d ρ hd ⟨hi,T,s6,s7,rfl,hT⟩;obtain⟨y,hy,rfl⟩:=BB hd;have af:=(zaf.mp hy).1;have db:=(Bd hL).mp (List.mem_reverse.mp (zas hy));have et:L.reverse.take (i+1)=L.reverse.take i++[y]:=by rw[zc7,hy];rfl
   rw[zbr] at af;have yr:L[L.length-1-i]?=some y:=by rw[List.getElem?_reverse af] at hy;exact hy
   have hrk:=QW hn yr;have uh:∀x∈L.reverse.take i,(0<=x/\x<m)/\C5 L y<C5 L x:=λ x hx=>by
    have yt:=List.mem_reverse.mp (zc0 hx);refine⟨(Bd hL).mp yt,?_⟩;rw[List.take_reverse,List.mem_reverse] at hx;have:=ZH hn hx;omega
   have ub:y∉L.reverse.take i:=λ hx=>by have:=(uh y hx).2;omega
   have on:=hT.len;refine⟨_,rfl,?_⟩;have cf:((L.reverse.take i).map D.int).length<=1000:=by rw[za2,zbh,zbr];omega
   have t1:∀a b:Int,D.tup [.int a,.int b]=pD (a,b):=λ a b=>rfl;have g1:=kO R y;obtain⟨vs,a5⟩:∃vs:List Co,vs=(L.reverse.take i).map λ x=>AD (atC T x) (Ao C (x,y)):=⟨_,rfl⟩;apply wp_step
   ·simp_arith[if_pos cf];rw[BM (λ x=>cst (AD (atC T x) (Ao C (x,y)))) (λ x hx=>⟨_,rfl,rfl,by
     have oj:=(uh x hx).1;have x1:AB (.lst (T.map cst)) (.int x)=.ok (cst (atC T x)):=Gp oj.1 (by rw[on];exact oj.2);have g2:=wU C (x,y);have h1:=GD (atC T x) (Ao C (x,y));simp_arith[t1,x1,g2,h1]⟩)]
    have ev:(L.reverse.take i).map (λ x=>cst (AD (atC T x) (Ao C (x,y))))=vs.map cst:=by rw[a5,zby];rfl
    rw[ev];have dv:=kT vs;simp_arith[dv];rfl
   try simp only[zah,zae]
   have hpl:Ly (.lst [cst (Ao R y)]) (.lst (vs.map cst))=.ok (.lst (((Ao R y::vs).map cst).map .sh)):=Mr (by rw[a5,za2,za2,zbh,zbr,zbk];omega);have h3:=MR (Ao R y::vs) (by rw[a5,za8,za2,zbh,zbr];omega);have aP:=UJ (i:=4) (ρ:=[‹.lst (L.map D.int)›,‹Vi C›,‹.int s›,‹dS R›,some (.own (T.map cst)),some (.own ((L.reverse.take i).map D.int)),‹.int y›,some (.own (vs.map cst))]) (d:=cst (Ib (Ao R y::vs))) (p:=y) rfl db.1 (by rw[za2,on];exact db.2);have dg:(T.map cst).set y.toNat (cst (Ib (Ao R y::vs)))=(T.set y.toNat (Ib (Ao R y::vs))).map cst:=by rw[List.map_set]
   rw[dg] at aP;apply wp_step
   ·simp_arith[g1,hpl,h3,aP];rfl
   try simp only[zah,zae]
   have yu:((L.reverse.take i).map D.int).length<1000:=by rw[za2,zbh,zbr];omega
   refine Bp (ρ':=[‹.lst (L.map D.int)›,‹Vi C›,‹.int s›,‹dS R›,some (.own ((T.set y.toNat (Ib (Ao R y::vs))).map cst)),some (.own ((L.reverse.take (i+1)).map D.int)),‹.int y›,some (.own (vs.map cst))]) (by simp_arith[if_pos yu,et,zat,za6,zcy]) ⟨by rw[zbr];exact af,_,_,_,rfl,?_⟩;rw[et,a5];exact hT.step hR.sd db.1 db.2 ub uh
  ·rintro ρ ⟨_,T,s6,s7,rfl,hT⟩;rw[za2,zc1] at hT;exact⟨T,_,s6,s7,rfl,hT⟩
 ·rintro ρ ⟨T,s5,s6,s7,rfl,hT⟩;exact⟨_,rfl,T,rfl,hT⟩
abbrev lX:=za5 RM
def lY:FT "swept" 3 3 lX:=(za0 RM).1
def lZ:bA lX:=(za0 RM).2
abbrev MU (F:List D->M OT):Prop:=∀(m s:Nat) (rs:List Road),s<m->m<=900->(∀r∈rs,PL m r)->∃cs:List Co,Right m s rs cs/\F [Ac m rs,.int s]=.ok (.lst ((cs.map cst).map .sh))
def G5:∃F,FT "costs_from" 2 2 F/\MU F:=by
 refine⟨_,λ T=>Aq (k:=1) T.V5 BO _ (λ f AZ A outer s H E hr=>(A2 (Bt 2 BO.nd rfl (zay rfl) (jK CM (Aa (!hr) (!0) A4))) (A2 (XU 2 (pv 2) (AM (A1 A4 (A1 A4 A6))) (!1)) (A2 (As 3 BO.nd rfl (zay rfl) D3) (A2 (Ls A7.toXCall.own (B8 (c:=true) (!3)) (A2 (As 3 BO.nd rfl (zay rfl) D3) (A5 (C1 A7.toXCall.own rfl (B2 (Aa (!hr) (!0) A4)) (AS 4 BO.nd rfl (zay rfl)) (A2 (As 5 BO.nd rfl (zay rfl) (Ag (Ej (A9 A7.toXCall (MQ T) (-hr) rfl (A1 (Du (A1 (Aa (!hr) (!2) (Aa (!hr) (!4) A4)) (A1 (Ag (A9 A7.toXCall (GC T) (-hr) rfl (A1 (Aa (!hr) (!2) (Aa (!hr) (!4) A4)) (A1 (Ag (A9 A7.toXCall (EK T) (-hr) rfl (A1 (!4) A6) rfl)) A6)) rfl)) A6))) A6) rfl)))) (A5 (B0 (H9 (FG (c:=true) (!hr) (!5) (Aa (!hr) (!2) (Aa (!hr) (!4) A4)))) (A2 (XU 2 (pv 2) (!5) (Aa (!hr) (!4) A4)) (A5 (As 3 BO.nd rfl (zay rfl) D3))) Ap))))))) (A5 (CJ 2 (pv 2)))))))),?_⟩;intro m s rs hs hm Aw;rfl';refine (λ h:∃t,_/\∃cs:List Co,Right m s rs cs/\t=.lst ((cs.map cst).map .sh)=>by
  obtain⟨t,h1,cs,h2,rfl⟩:=h;exact⟨cs,h2,h1⟩) (LL ?_)
 have n0:AB (Ac m rs) (.int 0)=.ok (.int m):=rfl;have n1:AB (Ac m rs) (.int 1)=.ok (.lst (rs.map Bx)):=rfl;have df:=W9 (d:=.Av) (n:=m) (by omega);have ir:zak m D.Av=(zak m (none:Co)).map cst:=by rw[List.map_replicate];rfl
 rw[ir] at df;apply wp_step
 ·simp_arith[n0,df];rfl
 try simp only[zah,zae]
 have aP:=UJ (i:=2) (ρ:=[‹Ac m rs›,‹.int s›,some (.own ((zak m (none:Co)).map cst)),none,none,none]) (d:=.tup [.int 0,.int 0]) (p:=(s:Int)) rfl (by omega) (by rw[za2,List.length_replicate];omega);have dg:((zak m (none:Co)).map cst).set (s:Int).toNat (.tup [.int 0,.int 0])=((zak m none).set s (some (0,0))).map cst:=by rw[zbj,List.map_set];rfl
 rw[dg] at aP;apply wp_step
 ·simp_arith[aP];rfl
 try simp only[zah,zae]
 apply wp_step
 ·rfl
 try simp only[zah,zae]
 refine BU (I:=λ ρ=>∃(cs:List Co) (s3 s4 s5:Option Cl),ρ=[‹Ac m rs›,‹.int s›,some (.own (cs.map cst)),s3,s4,s5]/\Right m s rs cs) ?_ ?_
 ·refine LK (lt:=Rcb) (λ z ρ=>∃(s4 s5:Option Cl),ρ=[‹Ac m rs›,‹.int s›,some (.own (z.1.map cst)),‹.bl z.2›,s4,s5]/\Good m s rs z.1/\(z.2=false->Right m s rs z.1)) (wX _) ⟨none,none,rfl,Y6 rs hs,λ e=>by cases e⟩ ?_;rintro ⟨cs,b⟩ ρ ⟨s4,s5,rfl,g,hR⟩;cases b with
  |false=>exact .inl ⟨rfl,cs,_,s4,s5,rfl,hR rfl⟩
  |true =>
   refine .inr ⟨rfl,?_⟩;apply wp_step
   ·rfl
   try simp only[zah,zae]
   simp_arith[n1];refine C3 (λ i ρ=>∃(au:List Co) (ch:Bool) (s4 s5:Option Cl),ρ=[‹Ac m rs›,‹.int s›,some (.own (au.map cst)),‹.bl ch›,s4,s5]/\Good m s rs au/\(ch=true->S7 ltN au cs)/\(ch=false->au=cs/\∀r∈rs.take i,HJ (atC cs r.b) (AD (atC cs r.a) (Cv r))=atC cs r.b)) ⟨cs,false,s4,s5,rfl,g,(λ h=>by cases h),λ _=>⟨rfl,λ r hr=>by rw[List.take_zero] at hr;cases hr⟩⟩ ?_ ?_
   ·rintro i d ρ hd ⟨au,ch,s4,s5,rfl,g1,h1,h2⟩;obtain⟨r,hq,rfl⟩:=BB hd;have hr:=zas hq;have ok:=Aw r hr;obtain⟨g2,_,g4,g5⟩:=dC g1 hr Aw;have ji:r.b<au.length:=by rw[g1.len];exact ok.b1
    have yv:r.a<au.length:=by rw[g1.len];exact ok.a1
    have r0:AB (Bx r) (.int 0)=.ok (.int r.a):=rfl;have r1:AB (Bx r) (.int 1)=.ok (.int r.b):=rfl;have x0:AB (.lst (au.map cst)) (.int r.a)=.ok (cst (atC au r.a)):=Gp ok.a0 yv;have x1:AB (.lst (au.map cst)) (.int r.b)=.ok (cst (atC au r.b)):=Gp ok.b0 ji;have ui:=EL r;have lr:=GD (atC au r.a) (Cv r);have hle:RG [.lst [cst (atC au r.b),cst (AD (atC au r.a) (Cv r))]]=.ok (.sh (cst (HJ (atC au r.b) (AD (atC au r.a) (Cv r))))):=MR [atC au r.b,AD (atC au r.a) (Cv r)] (by simp);have ad:=pY (HJ (atC au r.b) (AD (atC au r.a) (Cv r))) (atC au r.b);refine⟨_,rfl,?_⟩;apply wp_step
    ·simp_arith[r0,r1,x0,x1,ui,lr,hle];rfl
    try simp only[zah,zae]
    by_cases hc:HJ (atC au r.b) (AD (atC au r.a) (Cv r))=atC au r.b
    ·rw[decide_eq_true hc] at ad;refine Bp (ρ':=_) (by simp_arith[r1,x1,ad];rfl) ⟨au,ch,_,_,rfl,g1,h1,λ hf=>?_⟩;obtain⟨e1,e2⟩:=h2 hf;subst e1;refine⟨rfl,λ r' b6=>?_⟩;rw[zc7,hq] at b6;rcases zal.mp b6 with b6|b6
     ·exact e2 r' b6
     ·have:r'=r:=by simpa using b6
      rw[this];exact hc
    ·rw[decide_eq_false hc] at ad;have aP:=UJ (i:=2) (ρ:=[‹Ac m rs›,‹.int s›,some (.own (au.map cst)),‹.bl ch›,‹Bx r›,‹cst (HJ (atC au r.b) (AD (atC au r.a) (Cv r)))›]) (d:=cst (HJ (atC au r.b) (AD (atC au r.a) (Cv r)))) (p:=r.b) rfl ok.b0 (by rw[za2];exact ji);have dg:(au.map cst).set r.b.toNat (cst (HJ (atC au r.b) (AD (atC au r.a) (Cv r))))=(DC r au).map cst:=by unfold DC;rw[List.map_set]
     rw[dg] at aP;simp_arith[r1,x1,ad,if_true];apply wp_step
     ·simp_arith[r1,aP];rfl
     refine Bp (ρ':=_) rfl ⟨DC r au,true,_,_,rfl,g2,λ _=>?_,λ hf=>by cases hf⟩;cases ch with
     |false=>obtain⟨e1,_⟩:=h2 rfl;subst e1;exact g5 hc
     |true=>exact S7.trans ltN dA (g5 hc) (h1 rfl)
   ·rintro ρ' ⟨au,ch,s4,s5,rfl,g1,h1,h2⟩;cases ch with
    |true=>exact⟨(au,true),⟨rfl,.inr ⟨rfl,h1 rfl⟩⟩,s4,s5,rfl,g1,λ e=>by cases e⟩
    |false =>
     obtain⟨e1,e2⟩:=h2 rfl;subst e1;rw[za2,zc1] at e2;exact⟨(au,false),⟨rfl,.inl rfl⟩,s4,s5,rfl,g1,λ _=>right_of g1 e2⟩
 ·rintro ρ' ⟨cs,s3,s4,s5,rfl,hR⟩;exact⟨_,rfl,cs,hR,rfl⟩
abbrev Oj:=za5 G5
def SI:FT "costs_from" 2 2 Oj:=(za0 G5).1
def Kr:MU Oj:=(za0 G5).2
abbrev RN (F:List D->M OT):Prop:=∀(m:Nat) (rs:List Road) (L:List Int) (A:LA) (K:List (Int×Int)) (s:Nat),Bi m rs L A K->s<m->∃T:List Co,F [Bg m rs L A K,.int s]=.ok (.lst ((T.map cst).map .sh))/\T.length=m/\∀w:Int,0<=w->w<m->BG rs w s (atC T w)
def Ji:∃F,FT "costs_in" 5 2 F/\RN F:=by
 refine⟨_,λ T=>Aq (k:=4) T.Yr WG _ (λ f AZ A outer s H E hr=>(A5 (Ae (A9 A7.toXCall (lY T) (-hr) rfl (A1 (Ag (E9 (k:=1) [("Ladder",B1)] A7.toXCall (Bq (by decide) (En T) BR) (-hr) (!0))) (A1 (Ag (A9 A7.toXCall (Ef T) (-hr) rfl (A1 (!0) A6) rfl)) (A1 (!1) A6))) rfl)))),?_⟩;intro m rs L A K s ok hs;have hm:=ok.m2;rfl';have h1:=Eg m rs L A K ok;have h2:=Eo m rs L A K;have de:Dz [("Ladder",B1)] "order" (Bg m rs L A K)=.ok B1:=rfl;have lp:(s:Int)∈L:=(Bd ok.pm).mpr ⟨by omega,by omega⟩;have dL:∀p c,Ao (Ig A K) p=some c->p.1∈L/\p.2∈L:=λ p c h=>by
  have hm:=QS h;unfold Ig at hm;obtain⟨q,hq,e⟩:=zaq.mp hm;cases e;have:=ok.Xi hq;exact⟨(Bd ok.pm).mpr this.2.1,(Bd ok.pm).mpr this.2.2⟩
 have hC:∀p c,Ao (Su (Ig A K)) p=some c->p.1∈L/\p.2∈L:=λ p c h=>by
  rw[show p=(p.1,p.2) from rfl,Mw] at h;have:=dL _ _ h;exact⟨this.2,this.1⟩
 obtain⟨R,T,hF,hR,hT⟩:=lZ m L (Su (Ig A K)) s (by omega) ok.pm lp hC;refine⟨T,AX ?_,hT.len,λ w h0 h1=>?_⟩
 ·simp_arith[de,h2,h1,hF];exact⟨_,rfl,rfl⟩
 ·have hU:=hR.upC (m:=m) hC;have a7:∀x:Int,0<=x->x<m->x∈L.reverse:=λ x a b=>List.mem_reverse.mpr ((Bd ok.pm).mpr ⟨a,b⟩);obtain⟨T',wl⟩:∃T':Int->Co,T'=λ x:Int=>if 0<=x/\x<(m:Int) then atC T x else none:=⟨_,rfl⟩
  have ls:∀x:Int,0<=x->x<m->T' x=atC T x:=λ x a b=>by rw[wl];exact if_pos ⟨a,b⟩
  have hS:SwC (C5 L) (λ x y=>Ao (Su (Ig A K)) (x,y)) s (Ao R) T' m:=⟨λ x a b=>by rw[ls x a b];exact hT.top x (a7 x a b),λ x y a b c d hr=>by rw[ls x a b,ls y c d];exact hT.cl x (a7 x a b) y (a7 y c d) hr,λ x c hx=>by
   have aw:0<=x/\x<m:=by
    refine zd1 λ hn=>?_;rw[wl] at hx;dsimp only at hx;rw[if_neg hn] at hx;cases hx
   rw[ls x aw.1 aw.2] at hx;exact hT.sd x c aw.1 aw.2 hx⟩
  have yw:(λ x y=>Ao (Su (Ig A K)) (x,y))=λ x y=>Ao (Ig A K) (y,x):=by funext x y;exact Mw x y _
  rw[yw] at hU hS;obtain⟨cs,yx,_⟩:=Kr m w.toNat rs (by omega) (by omega) (λ r hr=>(ok.ok r hr).1);have aX:=yx.sG (λ r hr=>(ok.ok r hr).1) (w:=(s:Int)) (by omega) (by omega);have ew:((w.toNat:Nat):Int)=w:=by omega
  rw[ew] at aX;have q:=(dO (s:=(s:Int)) (w:=w) ok.fA.turn ok.kept.turn ⟨by omega,by omega⟩ hU hS aX.turn).turn;rw[Gu,ls w h0 h1] at q;exact q
abbrev TV:=za5 Ji
def X0:FT "costs_in" 5 2 TV:=(za0 Ji).1
def X1:RN TV:=(za0 Ji).2
abbrev Jj (F:List D->M OT):Prop:=∀(m:Nat) (rs:List Road) (L:List Int) (A:LA) (K:List (Int×Int)) (s g:Nat) (x:Co),Bi m rs L A K->s<m->g<m->BG rs s g x->F [Bg m rs L A K,.int s,.int g]=.ok (.sh (cst x))
def Es:∃F,FT "cost_between" 7 3 F/\Jj F:=by
 refine⟨_,λ T=>Aq (k:=6) T.Rv OG _ (λ f AZ A outer s H E hr=>(A5 (Ae (A9 A7.toXCall (MQ T) (-hr) rfl (A1 (Ag (Wv rfl rfl T.CU (Ag (A9 A7.toXCall (OR T) (-hr) rfl (A1 (!0) (A1 (!1) (A1 (!2) A6))) rfl)))) A6) rfl)))),?_⟩;intro m rs L A K s g x ok hs hg hx;dsimp only;have hm:=ok.m2;obtain⟨R1,lq,uj⟩:=OQ m rs L A K s ok hs;obtain⟨R2,ug,yy⟩:=RL m rs L A K g ok hg;have hRl:R1.length<=m:=by have:=uj.len;rw[IV ok.pm] at this;exact this
 have hS:=OS m rs L A K s g R1 R2 ok lq ug uj.nd (by omega);have aX:=lC ok (s:=(s:Int)) (g:=(g:Int)) ⟨by omega,by omega⟩ ⟨by omega,by omega⟩ uj yy hx;have hl:(CH R1 R2).length<=900:=by
  have:=(DD R2 R1).length_le;rw[za2,za2] at this;omega
 obtain⟨S,yz⟩:∃S,S=CH R1 R2:=⟨_,rfl⟩;rw[<-yz] at hS hl aX;rw[<-aX];rfl';refine AX ?_;have hle:=MR (S.map λ kv=>some kv.2) (by rw[za2];omega);rw[zby] at hle;have iw:RG [.lst (S.map λ kv=>cst (some kv.2))]=.ok (.sh (cst (Ib (S.map λ kv=>some kv.2)))):=hle;simp_arith[hS,qY,iw];rfl
abbrev Ks:=za5 Es
def OU:FT "cost_between" 7 3 Ks:=(za0 Es).1
def OV:Jj Ks:=(za0 Es).2
abbrev GF (F:List D->M OT):Prop:=∀(m:Nat) (rs:List Road) (L:List Int) (A:LA) (K:List (Int×Int)) (T:List Co) (p:Int),Bi m rs L A K->T.length=m->0<=p->p<m->F [Bg m rs L A K,.lst (T.map cst),.int p]=.ok (.lst (((O6 A K T p).map pD).map .sh))
def Dk:∃F,FT "arcs_by_prices" 4 3 F/\GF F:=by
 refine⟨_,λ T=>Aq (k:=3) T.NI FJ _ (λ f AZ A outer s H E hr=>(A2 (Lr (NB:=["arc","place"]) 3 [none,some 2] FJ.nd rfl (zay rfl) rfl (B2 (Ag (E9 (k:=1) [("Ladder",B7)] A7.toXCall (Bq (by decide) (Fn T) BR) (-hr) (!0)))) rfl rfl (BI 0 (by decide) rfl rfl rfl) (λ _ _ _ _=>EE (Li (c:=true) (!hr) (Aa (!hr) (!0) A4) (!1))) (λ _ _ _ _=>(!0))) (A5 (Ae (CK (NB:=["arc","prices","place","ladder"]) [none,some 1,some 2,some 0] rfl (B2 (!3)) rfl rfl (BI 0 (by decide) rfl rfl rfl) (λ _ _ _ _=>EE (Li (c:=true) (!hr) (Ag (Cm (A9 (BK rfl).toXCall (GC T) (-hr) rfl (A1 (Ag (FH (k:=3) [("Ladder",B6)] (BK rfl).toXCall (Bq (by decide) (Fj T) BR) (-hr) (!3) (A1 (!2) (A1 (Aa (!hr) (!0) A4) A6)) rfl)) (A1 (Aa (!hr) (!1) (Aa (!hr) (!0) A4)) A6)) rfl))) (Aa (!hr) (!1) (!2)))) (λ _ _ _ _=>(!0))))))),?_⟩;intro m rs L A K T p ok hT h0 h1;rfl';refine AX ?_;have hs:Dz [("Ladder",B7)] "kept" (Bg m rs L A K)=.ok B7:=rfl;have aB:Dz [("Ladder",B6)] "cost" (Bg m rs L A K)=.ok B6:=rfl;have hk:=Fo m rs L A K;have og:=ok.kl;have cf:(K.map pD).length<=1000:=by rw[za2];omega
 refine wp_step (ρ':=[‹Bg m rs L A K›,‹.lst (T.map cst)›,‹.int p›,‹.lst ((K.filter λ q=>decide (q.1=p)).map pD)›]) (by
  simp_arith[hs,hk,if_pos cf];rw[BL (λ q:Int×Int=>decide (q.1=p)) pD (λ q hq=>⟨_,rfl,by
   have p0:AB (pD q) (.int 0)=.ok (.int q.1):=rfl;simp_arith[p0];try rfl,λ _=>by simp_arith[]⟩)]
  try rfl) ?_
 have al:((K.filter λ q=>decide (q.1=p)).map pD).length<=1000:=by
  have:=zcz (λ q:Int×Int=>decide (q.1=p)) K;rw[za2];omega
 have x2:AB (.lst (T.map cst)) (.int p)=.ok (cst (atC T p)):=Gp h0 (by omega);simp_arith[if_pos al];rw[BL (eF A T p) pD (λ q hq=>⟨_,rfl,by
  obtain⟨q1,q2⟩:=zb2.mp hq;have e:q.1=p:=by simpa using q2
  have dL:=ok.Xi q1;obtain⟨c,hc,_⟩:=(ok.km q).mp q1;obtain⟨qa,qb⟩:=q;dsimp only at e dL;subst e;have p1:AB (pD (qa,qb)) (.int 1)=.ok (.int qb):=rfl;have h2:=Fl m rs L A K qa qb c ok.aok hc;have x1:AB (.lst (T.map cst)) (.int qb)=.ok (cst (atC T qb)):=Gp dL.2.2.1 (by omega);have lr:=GD (some c) (atC T qb);have dh:=Mo (AD (some c) (atC T qb)) (atC T qa);have eb:eF A T qa (qa,qb)=decide (AD (some c) (atC T qb)=atC T qa):=by unfold eF;rw[hc]
  rw[eb];simp_arith[aB,p1,h2,x1,x2,lr,dh];try rfl,λ _=>by simp_arith[]⟩)]
 exact⟨_,rfl,rfl⟩
abbrev HQ:=za5 Dk
def MV:FT "arcs_by_prices" 4 3 HQ:=(za0 Dk).1
def MW:GF HQ:=(za0 Dk).2
abbrev MX (F:List D->M OT):Prop:=∀(m:Nat) (rs:List Road) (p c:Int×Int),rs.length<=900->(∃r∈rs,r.a=p.1/\r.b=p.2/\Cv r=some c)->F [Ac m rs,pD p,cst (some c)]=.ok (.sh (.int (R3 rs p c:Nat)))
def G6:∃F,FT "road_under" 2 3 F/\MX F:=by
 refine⟨_,λ T=>Aq (k:=1) T.V6 Kc _ (λ f AZ A outer s H E hr=>(A2 (Lr (NB:=["number","road","arc","cost"]) 3 [none,none,some 1,some 2] Kc.nd rfl (zay rfl) rfl (Lp rfl T.Ed (Aa (!hr) (!0) A4)) rfl rfl (LJ (n:=2) rfl (Cc 0 (by decide) rfl rfl rfl (Cc 1 (by decide) rfl rfl rfl IK))) (λ _ _ _ _=>EE (DW.dt (Qg (Li (c:=true) (!hr) (AM (A1 (Aa (!hr) (!1) A4) (A1 (Aa (!hr) (!1) A4) A6))) (!2)) (Lk (Li (c:=true) (!hr) (Ag (Cm (A9 (BK rfl).toXCall (EK T) (-hr) rfl (A1 (!1) A6) rfl))) (!3)))))) (λ _ _ _ _=>(!0))) (A5 (Ae (AH (Aa (!hr) (!3) A4)))))),?_⟩;intro m rs p c hl hr;rfl';refine AX ?_;obtain⟨r,t,hq,_⟩:=ZR hr;have n1:AB (Ac m rs) (.int 1)=.ok (.lst (rs.map Bx)):=rfl;have al:((zb9 rs.length).map λ i:Nat=>D.tup [.int (i:Int),Bx (rs.getD i ⟨0,0,none,0⟩)]).length<=1000:=by rw[za2,zc9];omega
 refine wp_step (ρ':=[‹Ac m rs›,‹pD p›,‹cst (some c)›,‹.lst (((zb9 rs.length).filter (lD rs p c)).map λ i:Nat=>D.int (i:Int))›]) (by
  simp_arith[n1,Tz,if_pos al];rw[BL (lD rs p c) (λ i:Nat=>D.int (i:Int)) (λ i hi=>⟨_,rfl,by
   have y2:=zcf.mp hi;obtain⟨r,hr⟩:∃r,rs[i]?=some r:=⟨_,za7 y2⟩;have eg:rs.getD i ⟨0,0,none,0⟩=r:=by rw[zbc,hr];rfl
   have r0:AB (Bx r) (.int 0)=.ok (.int r.a):=rfl;have r1:AB (Bx r) (.int 1)=.ok (.int r.b):=rfl;have t1:D.tup [.int r.a,.int r.b]=pD (r.a,r.b):=rfl;have dh:=xI (r.a,r.b) p;have ui:=EL r;have hd2:=Mo (Cv r) (some c);have eb:lD rs p c i=(decide ((r.a,r.b)=p)&&decide (Cv r=some c)):=by
    unfold lD;rw[hr];dsimp only;by_cases e1:(r.a,r.b)=p
    ·subst e1;simp
    ·have:¬ (r.a=p.1/\r.b=p.2/\Cv r=some c):=λ h=>e1 (Prod.ext h.1 h.2.1);rw[decide_eq_false this,decide_eq_false e1];rfl
   rw[eb,eg];by_cases e1:(r.a,r.b)=p
   ·rw[decide_eq_true e1] at dh ⊢;simp_arith[r0,r1,t1,dh,ui,hd2,Bool.true_and];try rfl
   ·rw[decide_eq_false e1] at dh ⊢;simp_arith[r0,r1,t1,dh];try rfl,λ _=>by simp_arith[]⟩)]
  try rfl) ?_
 rw[hq];have hx:AB (.lst ((R3 rs p c::t).map λ i:Nat=>D.int (i:Int))) (.int 0)=.ok (.int (R3 rs p c:Nat)):=Hi (by decide) rfl;simp_arith[hx];rfl
abbrev Ol:=za5 G6
def SJ:FT "road_under" 2 3 Ol:=(za0 G6).1
def SK:MX Ol:=(za0 G6).2
abbrev FO (F:List D->M OT):Prop:=∀(m:Nat) (rs:List Road) (L:List Int) (A:LA) (K:List (Int×Int)) (u w:Int),Bi m rs L A K->(Ao A (u,w)).isSome=true->(∀c,Ad A (u,w)=some c->c.2<=256)->F [Bg m rs L A K,.int u,.int w]=.ok (.lst (((CT rs L A (u,w)).map λ n:Nat=>D.int (n:Int)).map .sh))
def CW:∃F:List D->M OT,(∀ {P w K mg base},Txt K mg->FC P w K mg base "Ladder" "unpacked" 3 3 F)/\FO F:=by
 refine⟨_,λ T=>Hf (k:=2) T.ML BD _ (λ f AZ A outer s H E hr=>(A2 (Bt 3 BD.nd rfl (zay rfl) (FY C2)) (A2 (Bt 4 BD.nd rfl (zay rfl) (FY (Ck (FH (k:=2) [("Ladder",AQ)] A7.toXCall (Bq (by decide) (Dr T) BR) (-hr) (!0) (A1 (!1) (A1 (!2) A6)) rfl) C2))) (A2 (Ls A7.toXCall.own (H9 (B8 (c:=true) (!4))) (A2 (oQ 5 BD.nd rfl (zay rfl) (wA (B4 4 (pv 4)))) (A2 (As 6 BD.nd rfl (zay rfl) (Aa (!hr) (Aa (!hr) (BN ["Ladder"] (Az T.Cd AW) (!0)) (!5)) A4)) (A5 (B0 (EZ (c:=true) (!6)) (A5 (XZ (B4 3 (pv 3)) (A9 A7.toXCall (SJ T) (-hr) rfl (A1 (BN ["Ladder"] (Az T.Bz AW) (!0)) (A1 (!5) (A1 (Aa (!hr) (Aa (!hr) (BN ["Ladder"] (Az T.Cd AW) (!0)) (!5)) A4) A6))) rfl))) (A2 (JE 4 (pv 4) (AM (A1 (!6) (A1 (Aa (!hr) (!5) A4) A6)))) (A5 (JE 4 (pv 4) (AM (A1 (Aa (!hr) (!5) A4) (A1 (!6) A6))))))))))) (A5 (CJ 3 (pv 3))))))),?_⟩;intro m rs L A K u w ok hf oq;rfl';refine AX ?_;have hA:=ok.aok;obtain⟨z0,uk⟩:=zbx.mp hf;have wm:Ad A (u,w)=some z0.1:=by unfold Ad;rw[uk];rfl
 have hk:=hA.rg _ (Fb wm);have ba:=Ds m rs L A K u w hk.2.1.1 hk.2.1.2 hk.2.2.1 hk.2.2.2 hf;have av:Dz [("Ladder",AQ)] "checked_arc" (Bg m rs L A K)=.ok AQ:=rfl;have f1:K4 ["Ladder"] "own_map" (Bg m rs L A K)=.ok (Ac m rs):=rfl;have f2:K4 ["Ladder"] "laid" (Bg m rs L A K)=.ok (Ss A):=rfl;have y3:=NC ok _ (c:=z0.1) (mid:=z0.2) rfl uk;have y4:(CT rs L A (u,w)).length<=256:=by
  have:=y3.ln;have:=oq _ wm;omega
 refine wp_step (ρ':=[‹Bg m rs L A K›,‹.int u›,‹.int w›,some (.own []),none,none,none]) (by simp_arith[];try rfl) ?_;refine wp_step (ρ':=[‹Bg m rs L A K›,‹.int u›,‹.int w›,some (.own []),some (.own [pD (u,w)]),none,none]) (by simp_arith[av,ba];try rfl) ?_;refine BU (I:=λ ρ=>∃s4 s5 s6:Option Cl,ρ=[‹Bg m rs L A K›,‹.int u›,‹.int w›,some (.own ((CT rs L A (u,w)).map λ n:Nat=>D.int (n:Int))),s4,s5,s6]) ?_ ?_
 ·refine LK (lt:=λ a b:Nat=>a<b) (λ n ρ=>∃(N:List Nat) (W:List (Int×Int)) (o5 o6:Option D),ρ=[‹Bg m rs L A K›,‹.int u›,‹.int w›,some (.own (N.map λ n:Nat=>D.int (n:Int))),some (.own ((W.map pD).reverse)),vO o5,vO o6]/\sS rs L A W=n/\(∀p∈W,(Ao A p).isSome=true)/\N++WA rs L A W=CT rs L A (u,w)) (Nat.lt_wfRel.wf.apply (sS rs L A [(u,w)])) ⟨[],[(u,w)],none,none,rfl,rfl,(λ p hp=>by rw[za9.mp hp];exact hf),by unfold WA;simp⟩ ?_;rintro n ρ ⟨N,W,o5,o6,rfl,hn,hW,hE⟩;have hlen:=congrArg List.length hE;rw[zai] at hlen;have gn:=UW ok hW;cases W with
  |nil =>
   left;refine⟨rfl,some (.own []),vO o5,vO o6,?_⟩;have:N=CT rs L A (u,w):=by rw[<-hE];unfold WA;simp
   rw[this];rfl
  |cons p W =>
   have ul:EG (.lst (((p::W).map pD).reverse))=.ok true:=by
    rw[W7];simp
   obtain⟨z,hz⟩:=zbx.mp (hW p za3);obtain⟨c,mid⟩:=z;obtain⟨_,m2,m3⟩:=K0 ok hz;have y6:=NC ok _ rfl hz;have iu:((p::W).map pD).reverse=(W.map pD).reverse++[pD p]:=by rw[za6,List.reverse_cons]
   have hi:=QT hz;have l0:AB (Y9 (c,mid)) (.int 0)=.ok (cst (some c)):=rfl;have l1:AB (Y9 (c,mid)) (.int 1)=.ok (Ek mid):=rfl;have p0:AB (pD p) (.int 0)=.ok (.int p.1):=rfl;have p1:AB (pD p) (.int 1)=.ok (.int p.2):=rfl;have wn:WA rs L A (p::W)=CT rs L A p++WA rs L A W:=rfl;rw[wn,zai] at hlen;rw[wn] at hE;have y7:sS rs L A (p::W)=2*(CT rs L A p).length-1+sS rs L A W:=rfl;rw[y7] at hn;have y8:=UW ok λ q hq=>hW q (za4 _ hq);right;constructor
   ·simp_arith[ul];try rfl
   rw[iu];have hp:=eC (ρ:=[‹Bg m rs L A K›,‹.int u›,‹.int w›,some (.own (N.map λ n:Nat=>D.int (n:Int))),some (.own ((W.map pD).reverse++[pD p])),vO o5,vO o6]) (i:=4) (xs:=(W.map pD).reverse) (d:=pD p) rfl;apply wp_step
   ·simp_arith[hp];rfl
   try simp only[zah,zae]
   refine wp_step (ρ':=[‹Bg m rs L A K›,‹.int u›,‹.int w›,some (.own (N.map λ n:Nat=>D.int (n:Int))),some (.own ((W.map pD).reverse)),‹pD p›,‹Ek mid›]) (by simp_arith[f2,hi,l1];try rfl) ?_;cases mid with
   |none =>
    have aF:Bl (Ek none)=true:=rfl;have y9:=SK m rs p c (by have:=ok.rl;omega) (m2 rfl);rw[Tx hz] at hE hlen hn;have di:((N.map λ n:Nat=>D.int (n:Int)).map OT.sh).length<1000:=by rw[za2,za2];omega
    have ea:(N.map λ n:Nat=>D.int (n:Int)).map OT.sh++[OT.sh (.int (R3 rs p c:Nat))]=((N++[R3 rs p c]).map λ n:Nat=>D.int (n:Int)).map OT.sh:=by rw[zat,zat];rfl
    refine Bp (ρ':=[‹Bg m rs L A K›,‹.int u›,‹.int w›,some (.own ((N++[R3 rs p c]).map λ n:Nat=>D.int (n:Int))),some (.own ((W.map pD).reverse)),vO (some (pD p)),vO (some (Ek none))]) (by
     simp_arith[aF,f1,f2,hi,l0,y9,if_true,if_pos di,ea];rfl) ⟨sS rs L A W,?_,_,W,_,_,rfl,rfl,λ q hq=>hW q (za4 _ hq),by rw[zbi];exact hE⟩
    rw[zbk] at hn;omega
   |some v =>
    obtain⟨_,_,a,b,ma,mb,g1,g2,_⟩:=m3 v rfl;have aF:Bl (Ek (some v))=false:=rfl;have lv:Ek (some v)=.int v:=rfl;have lu:=Wz ok hz;have u1:=(NC ok _ rfl g1).ne;have u2:=(NC ok _ rfl g2).ne;have di:((W.map pD).reverse).length<1000:=by rw[zbr,za2];omega
    have ix:((W.map pD).reverse++[pD (v,p.2)]).length<1000:=by
     rw[zai,zbr,za2,zbk];have:=y6.ne;omega
    have za:(((p.1,v)::(v,p.2)::W).map pD).reverse=(W.map pD).reverse++[pD (v,p.2)]++[pD (p.1,v)]:=by rw[za6,za6,List.reverse_cons,List.reverse_cons]
    have um:Bl (.int v)=false:=rfl;simp_arith[lv,um,zb1,if_false];apply wp_step
    ·simp_arith[p1,if_pos di];rfl
    try simp only[zah,zae]
    have t1:D.tup [.int v,.int p.2]=pD (v,p.2):=rfl;refine Bp (ρ':=[‹Bg m rs L A K›,‹.int u›,‹.int w›,some (.own (N.map λ n:Nat=>D.int (n:Int))),some (.own ((((p.1,v)::(v,p.2)::W).map pD).reverse)),vO (some (pD p)),vO (some (.int v))]) (by
     rw[za];simp_arith[p0,t1,if_pos ix];try rfl) ⟨sS rs L A ((p.1,v)::(v,p.2)::W),?_,N,_,_,_,rfl,rfl,λ q hq=>?_,?_⟩
    ·rw[lu,zai] at hn;show 2*(CT rs L A (p.1,v)).length-1+(2*(CT rs L A (v,p.2)).length-1+sS rs L A W)<n;omega
    ·rcases zac.mp hq with rfl|hq
     ·rw[g1];rfl
     ·rcases zac.mp hq with rfl|hq
      ·rw[g2];rfl
      ·exact hW q (za4 _ hq)
    ·rw[lu] at hE;show N++(CT rs L A (p.1,v)++(CT rs L A (v,p.2)++WA rs L A W))=_;rw[<-zbi (CT rs L A (p.1,v))];exact hE
 ·rintro ρ ⟨s4,s5,s6,rfl⟩;exact⟨_,rfl,rfl⟩
abbrev BX:=za5 CW
def L4:Txt K mg->FC P w K mg base "Ladder" "unpacked" 3 3 BX:=(za0 CW).1
def L5:FO BX:=(za0 CW).2
abbrev HR (F:List D->M OT):Prop:=∀(m:Nat) (rs:List Road) (L:List Int) (A:LA) (K:List (Int×Int)) (T:List Co) (s g:Nat) (c:Int×Int),Bi m rs L A K->T.length=m->(∀w:Int,0<=w->w<m->BG rs w g (atC T w))->s<m->g<m->atC T s=some c->∃N:List Nat,F [Bg m rs L A K,.lst (T.map cst),.int s,.int g]=.ok (.lst ((N.map λ n:Nat=>D.int (n:Int)).map .sh))/\R4 rs s N g c.1/\(N.length:Int)=c.2
def DJ:∃F,FT "way_by_prices" 5 4 F/\HR F:=by
 refine⟨_,λ T=>Aq (k:=4) T.OL BW _ (λ f AZ A outer s H E hr=>(A2 (Bt 4 BW.nd rfl (zay rfl) (FY C2)) (A2 (As 5 BW.nd rfl (zay rfl) (!2)) (A2 (Ls A7.toXCall.own (FG (c:=true) (!hr) (!5) (!3)) (A2 (As 6 BW.nd rfl (zay rfl) (Aa (!hr) (Ag (A9 A7.toXCall (MV T) (-hr) rfl (A1 (!0) (A1 (!1) (A1 (!5) A6))) rfl)) A4)) (A2 (Y1 (B4 4 (pv 4)) (by exact (FH (k:=3) [("Ladder",BX)] A7.toXCall (Bq (by decide) (L4 T) BR) (-hr) (!0) (A1 (Aa (!hr) (!6) A4) (A1 (Aa (!hr) (!6) A4) A6)) rfl))) (A5 (As 5 BW.nd rfl (zay rfl) (Aa (!hr) (!6) A4)))))) (A5 (CJ 4 (pv 4))))))),?_⟩;intro m rs L A K T s g c ok on hT hs hg hc;rfl';refine (λ h:∃t,_/\∃N:List Nat,t=.lst ((N.map λ n:Nat=>D.int (n:Int)).map .sh)/\R4 rs s N g c.1/\(N.length:Int)=c.2=>by
  obtain⟨t,h1,N,rfl,h2⟩:=h;exact⟨N,h1,h2⟩) (LL ?_)
 have lw:∀r∈rs,PL m r:=λ r hr=>(ok.ok r hr).1;have ae:=hT s (by omega) (by omega);rw[hc] at ae;have hm:=ok.m2;have zb:=IY ok.ok ⟨by omega,by omega⟩ ae;have zc:Dz [("Ladder",BX)] "unpacked" (Bg m rs L A K)=.ok BX:=rfl;refine wp_step (ρ':=[‹Bg m rs L A K›,‹.lst (T.map cst)›,‹.int s›,‹.int g›,some (.own []),none,none]) (by simp_arith[];try rfl) ?_;refine wp_step (ρ':=[‹Bg m rs L A K›,‹.lst (T.map cst)›,‹.int s›,‹.int g›,some (.own []),‹.int s›,none]) (by simp_arith[];try rfl) ?_;refine BU (I:=λ ρ=>∃(N:List Nat) (s5 s6:Option Cl),ρ=[‹Bg m rs L A K›,‹.lst (T.map cst)›,‹.int s›,‹.int g›,some (.own (N.map λ n:Nat=>D.int (n:Int))),s5,s6]/\R4 rs s N g c.1/\(N.length:Int)=c.2) ?_ ?_
 ·refine LK (lt:=λ a b:Nat=>a<b) (λ n ρ=>∃(N:List Nat) (p t:Int) (cp:Int×Int) (s6:Option Cl),ρ=[‹Bg m rs L A K›,‹.lst (T.map cst)›,‹.int s›,‹.int g›,some (.own (N.map λ n:Nat=>D.int (n:Int))),‹.int p›,s6]/\(0<=p/\p<m)/\atC T p=some cp/\R4 rs s N p t/\t+cp.1=c.1/\(N.length:Int)+cp.2=c.2/\cp.2.toNat=n) (Nat.lt_wfRel.wf.apply c.2.toNat) ⟨[],s,0,c,none,rfl,⟨by omega,by omega⟩,hc,.nil _,by omega,by simp,rfl⟩ ?_;rintro n ρ ⟨N,p,t,cp,s6,rfl,hp,gc,ba,h1,h2,h3⟩;have uo:=hT p hp.1 hp.2;rw[gc] at uo;have oq:=(uo.2 cp rfl).nn lw;by_cases e:p=g
  ·left;subst e;refine⟨by simp_arith[decide_true,Bool.not_true];try rfl,N,_,s6,rfl,?_⟩;have hz:=uo.1 _ (.nil _);simp only[C4] at hz;have e1:cp.1=0:=by omega
   have e2:cp.2=0:=by omega
   exact⟨by rw[<-h1,e1,Int.add_zero];exact ba,by omega⟩
  ·right;refine⟨by simp_arith[decide_eq_false e,Bool.not_false];try rfl,?_⟩;obtain⟨q,r,hq⟩:=eG ok hT hp e gc;obtain⟨ca,cq,a1⟩:=xJ ok gc hq;have wo:=MW m rs L A K T p ok on hp.1 hp.2;rw[hq] at wo;obtain⟨z,hz⟩:∃z,Ao A q=some z:=by
    have:=a1.c;unfold Ad at this;cases hf:Ao A q with
    |none=>rw[hf] at this;cases this
    |some z=>exact⟨z,rfl⟩
   have ez:z.1=ca:=by have:=a1.c;unfold Ad at this;rw[hz] at this;cases this;rfl
   have wp:=L5 m rs L A K q.1 q.2 ok (by rw[hz];rfl) (λ c hc=>by
    obtain⟨c',e1,e2⟩:=rA ok hq;have e3:some c=some c':=hc.symm.trans e1;cases e3;have:=IY ok.ok (by rw[a1.a];exact hp) e2;omega)
   have lx:=NC ok _ (p:=q) (c:=z.1) (mid:=z.2) rfl hz;rw[ez] at lx;have p0:AB (pD q) (.int 0)=.ok (.int q.1):=rfl;have p1:AB (pD q) (.int 1)=.ok (.int q.2):=rfl;have hx:AB (.lst ((q::r).map pD)) (.int 0)=.ok (pD q):=Hi (by decide) rfl;have hcq:=((hT q.2 a1.r.1 a1.r.2).2 cq a1.t).nn lw;have aB:=a1.s;have d8:=lx.ln;have ad:=lx.ne;obtain⟨U,hU⟩:∃U,U=CT rs L A q:=⟨_,rfl⟩;have eU:CT rs L A (q.1,q.2)=U:=by rw[hU]
   rw[eU] at wp;rw[<-hU] at d8 ad lx;have hb:(N.map λ n:Nat=>D.int (n:Int)).length+(U.map λ n:Nat=>D.int (n:Int)).length<=1000:=by
    rw[za2,za2];rw[aB] at h2 oq;dsimp only at h2 oq;omega
   refine wp_step (ρ':=[‹Bg m rs L A K›,‹.lst (T.map cst)›,‹.int s›,‹.int g›,some (.own (N.map λ n:Nat=>D.int (n:Int))),‹.int p›,‹pD q›]) (by simp_arith[wo,hx];try rfl) ?_;refine wp_step (ρ':=[‹Bg m rs L A K›,‹.lst (T.map cst)›,‹.int s›,‹.int g›,some (.own ((N++U).map λ n:Nat=>D.int (n:Int))),‹.int p›,‹pD q›]) (by
    rw[zat];simp_arith[p0,p1,zc,wp,if_pos hb];try rfl) ?_
   refine Bp (ρ':=[‹Bg m rs L A K›,‹.lst (T.map cst)›,‹.int s›,‹.int g›,some (.own ((N++U).map λ n:Nat=>D.int (n:Int))),‹.int q.2›,‹pD q›]) (by simp_arith[p1];try rfl) ⟨cq.2.toNat,?_,N++U,q.2,t+ca.1,cq,_,rfl,a1.r,a1.t,?_,?_,?_,rfl⟩
   ·rw[aB] at h3;dsimp only at h3;omega
   ·have:=lx.ch;rw[a1.a] at this;exact ba.app this
   ·rw[aB] at h1;dsimp only at h1;omega
   ·rw[aB] at h2;dsimp only at h2;rw[zai];omega
 ·rintro ρ ⟨N,s5,s6,rfl,h1,h2⟩;exact⟨_,rfl,N,rfl,h1,h2⟩
abbrev Jk:=za5 DJ
def NM:FT "way_by_prices" 5 4 Jk:=(za0 DJ).1
def NO:HR Jk:=(za0 DJ).2
abbrev tD (F:List D->M OT):Prop:=∀(m:Nat) (rs:List Road) (L:List Int) (A:LA) (K:List (Int×Int)) (s g:Nat),Bi m rs L A K->s<m->g<m->∃(T:List Co) (N:List Nat),T.length=m/\(∀w:Int,0<=w->w<m->BG rs w g (atC T w))/\(∀c,atC T s=some c->R4 rs s N g c.1/\(N.length:Int)=c.2)/\F [Bg m rs L A K,.int s,.int g]=.ok (FD (atC T s) N T)
def YG:∃F,FT "ask" 8 3 F/\tD F:=by
 refine⟨_,λ T=>Aq (k:=7) T.aaS Yp _ (λ f AZ A outer s H E hr=>(A2 (As 3 Yp.nd rfl (zay rfl) (Ag (A9 A7.toXCall (OU T) (-hr) rfl (A1 (!0) (A1 (!1) (A1 (!2) A6))) rfl))) (A2 (B0 (EZ (c:=true) (!3)) (A5 (Ae (AH CM))) Ap) (A2 (Bt 4 Yp.nd rfl (zay rfl) (A9 A7.toXCall (X0 T) (-hr) rfl (A1 (!0) (A1 (!2) A6)) rfl)) (A5 (rB 4 (pv 4) (Z9 (jA (c:=true) (!3))) (Ej (A9 A7.toXCall (NM T) (-hr) rfl (A1 (!0) (A1 (!4) (A1 (!1) (A1 (!2) A6)))) rfl)))))))),?_⟩;intro m rs L A K s g ok hs hg;obtain⟨T,g1,l1,t1⟩:=X1 m rs L A K g ok hg;have oy:=OV m rs L A K s g (atC T s) ok hs hg (t1 s (by omega) (by omega));rfl';cases hc:atC T s with
 |none =>
  rw[hc] at oy;refine⟨T,[],l1,t1,λ c h=>(by rw[hc] at h;cases h),?_⟩;rw[hc];refine AX ?_;refine wp_step (ρ':=[‹Bg m rs L A K›,‹.int s›,‹.int g›,‹cst none›,none]) (by simp_arith[oy];try rfl) ?_;have aF:Bl (cst none)=true:=rfl;simp_arith[aF];rfl
 |some c =>
  rw[hc] at oy;obtain⟨N,hF,n1,n2⟩:=NO m rs L A K T s g c ok l1 t1 hs hg hc;refine⟨T,N,l1,t1,λ c' h=>(by rw[hc] at h;cases h;exact⟨n1,n2⟩),?_⟩;rw[hc];refine AX ?_;refine wp_step (ρ':=[‹Bg m rs L A K›,‹.int s›,‹.int g›,‹cst (some c)›,none]) (by simp_arith[oy];try rfl) ?_;have aF:Bl (cst (some c))=false:=rfl;apply wp_step
  ·simp_arith[aF];rfl
  refine wp_step (ρ':=[‹Bg m rs L A K›,‹.int s›,‹.int g›,‹cst (some c)›,some (.own (T.map cst))]) (by simp_arith[g1];try rfl) ?_;have zd:=Mx (ds:=N.map λ n:Nat=>D.int (n:Int)) λ d hd=>by
   obtain⟨n,_,rfl⟩:=zaq.mp hd;rfl
  have ze:=QN (some c);simp_arith[hF,zd,ze];exact⟨_,rfl,rfl⟩
abbrev aaU:=za5 YG
def xR:FT "ask" 8 3 aaU:=(za0 YG).1
def xS:tD aaU:=(za0 YG).2
abbrev RO (F:List D->M OT):Prop:=∀(m:Nat) (x:D) (L:List Int),m<=60->L.Perm (Bu m)->F [.tup [.int m,x],.lst (L.map .int)]=.ok (.sh (.bl true))
def Jl:∃F,FT "is_order" 2 2 F/\RO F:=by
 refine⟨_,λ T=>Aq (k:=1) T.Ys WH _ (λ f AZ A outer s H E hr=>(A2 (B0 (DW.dt (Dg (Bs (B8 (c:=true) (Dv (Nh _) rfl T.AY rfl T.CU (by decide +kernel) (!1)))) (Ct (FG (c:=true) (!hr) (CN rfl T.Ff (!1)) (Aa (!hr) (!0) A4))))) (A5 (Ae (AH D3))) Ap) (A2 (B0 (Bs (B8 (c:=true) (iV rfl rfl T.sY (Ag (CK (NB:=["place","net"]) [none,some 0] rfl (B2 (!1)) rfl rfl (BI 0 (by decide) rfl rfl rfl) (λ _ _ _ _=>DY) (λ _ _ _ _=>(Ag (Cm (A9 (BK rfl).toXCall (AU T) (-hr) rfl (A1 (!0) (A1 (Aa (!hr) (!1) A4) A6)) rfl))))))))) (A5 (Ae (AH D3))) Ap) (A5 (Ae (AH (VR (!hr) (Ag (cV rfl rfl T.lT (!1))) (Ag (LH rfl rfl T.CU rfl T.Hq (Aa (!hr) (!0) A4)))))))))),?_⟩;intro m x L hm hL;rfl';have n0:AB (.tup [.int m,x]) (.int 0)=.ok (.int m):=rfl;refine AX ?_;have hlen:=IV hL;have h1:decide (((L.map D.int).length:Int)=(m:Int))=true:=decide_eq_true (by rw[za2];omega);have hl:(L.map D.int).length<=1000:=by rw[za2];omega
 have hs:=cU (ns:=L) (by omega);have h3:=Uy (n:=m) (by omega);rw[QO] at h3;have e:decide (IM L=Bu m)=true:=decide_eq_true (dM.mpr hL);apply wp_step
 ·simp_arith[n0,h1];rfl
 apply wp_step
 ·simp_arith[if_pos hl];rw[BM (λ _:Int=>D.bl true) (λ j hj=>⟨_,rfl,rfl,by
   have hj2:=IT.mp (hL.mem_iff.mp hj);have:=AV j m (by omega) (by omega);simp_arith[n0,this]⟩)]
  simp_arith[aaN];rfl
 simp_arith[n0,hs,h3,Wm,e];rfl
abbrev TX:=za5 Jl
def X2:FT "is_order" 2 2 TX:=(za0 Jl).1
def X3:RO TX:=(za0 Jl).2
abbrev HS (F:List D->M OT):Prop:=∀(m:Nat) (x:D) (L:List Int),m<=60->L.Perm (Bu m)->F [.tup [.int m,x],.lst (L.map .int)]=.ok (.lst ((L.map D.int).map .sh))
def DK:∃F,FT "checked_order" 3 2 F/\HS F:=by
 refine⟨_,λ T=>Aq (k:=2) T.OM NE _ (λ f AZ A outer s H E hr=>(A2 (B0 (Bs (B8 (c:=true) (Ag (A9 A7.toXCall (X2 T) (-hr) rfl (A1 (!0) (A1 (!1) A6)) rfl)))) (A5 Qj) Ap) (A5 (Ae (EF rfl T.CU (!1)))))),?_⟩;intro m x L hm hL;rfl';have h1:=X3 m x L hm hL;refine AX ?_;apply wp_step
 ·simp_arith[h1];rfl
 simp_arith[];exact⟨_,rfl,rfl⟩
abbrev Fs:=za5 DK
def NP:FT "checked_order" 3 2 Fs:=(za0 DK).1
def NQ:HS Fs:=(za0 DK).2
abbrev MY (F:List D->M OT):Prop:=∀(m:Nat) (rs:List Road),m<=20->(∀r∈rs,PL m r/\r.a≠r.b)->F [Ac m rs]=.ok (.BE true ((CG rs).map pD) ((Ea (CG rs)).map .sh))
def G7:∃F,FT "first_bows" 2 1 F/\MY F:=by
 refine⟨_,λ T=>Aq (k:=1) T.V4 G1 _ (λ f AZ A outer s H E hr=>(A2 (Bt 1 G1.nd rfl (zay rfl) (QA true)) (A2 (C1 A7.toXCall.own rfl (B2 (Aa (!hr) (!0) A4)) (AS 2 G1.nd rfl (zay rfl)) (A5 (B0 (Lj (c:=true) (Ag (A9 A7.toXCall (EK T) (-hr) rfl (A1 (!2) A6) rfl))) (A5 (Pm (!hr) (B4 1 (pv 1)) (AM (A1 (Aa (!hr) (!2) A4) (A1 (Aa (!hr) (!2) A4) A6))) D3)) Ap))) (A5 (CJ 1 (pv 1)))))),?_⟩;intro m rs hm Aw;rfl';refine AX ?_;apply wp_step
 ·rfl
 have n1:AB (Ac m rs) (.int 1)=.ok (.lst (rs.map Bx)):=rfl;refine BU (I:=λ ρ=>∃s2,ρ=[‹Ac m rs›,some (.ow (.tree none (.BE true ((CG rs).map pD) ((Ea (CG rs)).map .sh)))),s2]) ?_ ?_
 ·simp_arith[n1];refine C3 (λ i ρ=>∃s2,ρ=[‹Ac m rs›,some (.ow (.tree none (.BE true ((CG (rs.take i)).map pD) ((Ea (CG (rs.take i))).map .sh)))),s2]) ⟨none,rfl⟩ ?_ ?_
  ·rintro i d ρ hd ⟨s2,rfl⟩;rw[zax] at hd;cases hq:rs[i]? with
   |none=>rw[hq] at hd;cases hd
   |some r =>
    rw[hq] at hd;cases hd;have hr:=zas hq;have et:rs.take (i+1)=rs.take i++[r]:=by rw[zc7,hq];rfl
    have eb:CG (rs.take (i+1))=(match r.l with|none=>CG (rs.take i)|some _=>Nv (CG (rs.take i)) (r.a,r.b)):=by
     unfold CG;rw[et,List.foldl_append];rfl
    have zf:=Wi (m:=m) (rs:=rs.take i) λ r' h'=>Aw r' (zc0 h');have hlen:=zf.len hm;have h1:=EL r;refine⟨_,rfl,?_⟩;cases hl:r.l with
    |none =>
     have e1:Cv r=none:=by unfold Cv;rw[hl]
     rw[hl] at eb;rw[e1] at h1;simp_arith[h1,cst,Bl];exact⟨_,by rw[eb]⟩
    |some l =>
     have e1:Cv r=some (l,1):=by unfold Cv;rw[hl]
     rw[hl] at eb;rw[e1] at h1;have i0:AB (Bx r) (.int 0)=.ok (.int r.a):=rfl;have i1:AB (Bx r) (.int 1)=.ok (.int r.b):=rfl;have kk:keyOk true (D.tup [.int r.a,.int r.b])=true/\((CG (rs.take i)).map pD).length<1000:=⟨rfl,by rw[za2];exact hlen⟩;have pp:putD ((CG (rs.take i)).map pD) (Ea (CG (rs.take i))) (D.tup [.int r.a,.int r.b]) (.bl true)=_:=ZF (CG (rs.take i)) (r.a,r.b);simp_arith[h1,cst,Bl,Bool.not_false,if_true,i0,i1,if_pos kk,pp];exact⟨_,by rw[eb]⟩
  ·rintro ρ ⟨s2,rfl⟩;rw[za2,zc1];exact⟨s2,rfl⟩
 ·rintro ρ ⟨s2,rfl⟩;exact⟨_,rfl,rfl⟩
abbrev Om:=za5 G7
def SM:FT "first_bows" 2 1 Om:=(za0 G7).1
def SN:MY Om:=(za0 G7).2
abbrev Jm (F:List D->M OT):Prop:=∀(B:List (Int×Int)) (vs:List D) (L:List Int) (v:Int),L.length<=30->F [.BE true (B.map pD) vs,.lst (L.map .int),.int v]=.ok (.lst (((Bh B L v).map pD).map .sh))
def Et:∃F,FT "missing_bows" 1 3 F/\Jm F:=by
 refine⟨_,λ T=>Aq (k:=0) T.Rw C8 _ (λ f AZ A outer s H E hr=>(A2 (Lr (NB:=["u","bows","place"]) 3 [none,some 0,some 2] C8.nd rfl (zay rfl) rfl (B2 (!1)) rfl rfl (BI 0 (by decide) rfl rfl rfl) (λ _ _ _ _=>EE (Nr (c:=true) (!hr) (AM (A1 (!0) (A1 (!2) A6))) (!1))) (λ _ _ _ _=>(!0))) (A2 (Lr (NB:=["w","bows","place"]) 4 [none,some 0,some 2] C8.nd rfl (zay rfl) rfl (B2 (!1)) rfl rfl (BI 0 (by decide) rfl rfl rfl) (λ _ _ _ _=>EE (Nr (c:=true) (!hr) (AM (A1 (!2) (A1 (!0) A6))) (!1))) (λ _ _ _ _=>(!0))) (A2 (Bt 5 C8.nd rfl (zay rfl) (FY C2)) (A2 (C1 A7.toXCall.own rfl (B2 (!3)) (AS 6 C8.nd rfl (Or.inr rfl)) (A5 (Y1 (B4 5 (pv 5)) (by exact (CK (NB:=["w","u","bows"]) [none,some 6,some 0] rfl (B2 (!4)) rfl rfl (BI 0 (by decide) rfl rfl rfl) (λ _ _ _ _=>EE (DW.dt (Qg (FG (c:=true) (!hr) (!1) (!0)) (Lk (Pj (c:=true) (!hr) (AM (A1 (!1) (A1 (!0) A6))) (!2)))))) (λ _ _ _ _=>(AM (A1 (!1) (A1 (!0) A6))))))))) (A5 (CJ 5 (pv 5)))))))),?_⟩;intro B vs L v hl;rfl';refine AX ?_;have hL:(L.map D.int).length<=1000:=by rw[za2];omega
 apply wp_step
 ·simp_arith[if_pos hL];rw[BL (λ u=>decide ((u,v)∈B)) D.int (λ u hu=>⟨_,rfl,by simp[rv0,rvS,PF,zah,zae,M.A8,JI,JH,Lx,LX,LY,LZ,Pq,IL,Hd,M3,LN,LO,JJ,Zg,Pn,Po,LP,oZ,JK,JL,Hc,UA,Dy,UB,LQ,LR,JM,Zj,LM,E6,toCl_list,toCl_listP,toCl_dct,Pr,M4,M5,M6,M7,Pt,M8,M9,Ma,yF,yE,LS,Zk,LU,Zl,LV,LW,Pp,Zm,muC,muN,pC,pE,pF,pG,pH,pI,toCl_nil,Lq,HH,Sn,UC,JN,Pu,Pw,Mb,Mc,Px,Py,Pz,PB,PD,Md,Me,Mf,Mg,JO,JP,JQ,JR,JS,Mh,JT,JU,Zn,Zo,Zp,Zq,Zr,JV,ite_tt,ite_ff,Bool.not_true,Bool.not_false,zbz,zaz,Gs,IU,Mq,pB,qA,pA,qC,qD,qE,PM,UQ,UR,US,EU,JZ,PR,QN,qQ,ZL,UU,UI],λ _=>by simp_arith[]⟩)];simp_arith[];rfl
 apply wp_step
 ·simp_arith[if_pos hL];rw[BL (λ w=>decide ((v,w)∈B)) D.int (λ u hu=>⟨_,rfl,by simp[rv0,rvS,PF,zah,zae,M.A8,JI,JH,Lx,LX,LY,LZ,Pq,IL,Hd,M3,LN,LO,JJ,Zg,Pn,Po,LP,oZ,JK,JL,Hc,UA,Dy,UB,LQ,LR,JM,Zj,LM,E6,toCl_list,toCl_listP,toCl_dct,Pr,M4,M5,M6,M7,Pt,M8,M9,Ma,yF,yE,LS,Zk,LU,Zl,LV,LW,Pp,Zm,muC,muN,pC,pE,pF,pG,pH,pI,toCl_nil,Lq,HH,Sn,UC,JN,Pu,Pw,Mb,Mc,Px,Py,Pz,PB,PD,Md,Me,Mf,Mg,JO,JP,JQ,JR,JS,Mh,JT,JU,Zn,Zo,Zp,Zq,Zr,JV,ite_tt,ite_ff,Bool.not_true,Bool.not_false,zbz,zaz,Gs,IU,Mq,pB,qA,pA,qC,qD,qE,PM,UQ,UR,US,EU,JZ,PR,QN,qQ,ZL,UU,UI],λ _=>by simp_arith[]⟩)];simp_arith[];rfl
 apply wp_step
 ·rfl
 try simp only[zah,zae]
 have wq:((L.filter λ w=>decide ((v,w)∈B)).map D.int).length<=1000:=by rw[za2];exact zbv (zcz _ _) (by omega)
 have hlen:=dG B L v;have hsq:L.length*L.length<=30*30:=Nat.mul_le_mul hl hl;generalize hA:L.filter (λ u=>decide ((u,v)∈B))=A;generalize hW:L.filter (λ w=>decide ((v,w)∈B))=W at wq ⊢;obtain⟨G,hG⟩:∃G:Int->List (Int×Int),G=λ u=>((W.filter λ w=>decide (u≠w) && !decide ((u,w)∈B)).map λ w=>(u,w)):=⟨_,rfl⟩;have ge:Bh B L v=A.flatMap G:=by unfold Bh;rw[hA,hW,hG]
 refine BU (I:=λ ρ=>∃s6,ρ=[‹.BE true (B.map pD) vs›,‹.lst (L.map .int)›,‹.int v›,‹.lst (A.map .int)›,‹.lst (W.map .int)›,some (.own ((A.flatMap G).map pD)),s6]) ?_ ?_
 ·simp_arith[];refine C3 (λ i ρ=>∃s6,ρ=[‹.BE true (B.map pD) vs›,‹.lst (L.map .int)›,‹.int v›,‹.lst (A.map .int)›,‹.lst (W.map .int)›,some (.own (((A.take i).flatMap G).map pD)),s6]) ⟨none,rfl⟩ ?_ ?_
  ·rintro i d ρ hd ⟨s6,rfl⟩;obtain⟨u,hu,rfl⟩:=BB hd;have et:A.take (i+1)=A.take i++[u]:=by rw[zc7,hu];rfl
   refine⟨_,rfl,?_⟩;have hb:(((A.take i).flatMap G).map pD).length+((G u).map pD).length<=1000:=by
    have h1:((A.take (i+1)).flatMap G).length<=(A.flatMap G).length:=by
     conv=>rhs;rw[<-zcc (i+1) A,List.flatMap_append,zai]
     omega
    rw[et,List.flatMap_append,zai] at h1;rw[ge] at hlen;simp only[List.flatMap_cons,List.flatMap_nil,zba] at h1;rw[za2,za2];omega
   have ng:(((W.filter λ w=>decide (u≠w) && !decide ((u,w)∈B)).map λ w=>(u,w)).map pD)=(W.filter λ w=>decide (u≠w) && !decide ((u,w)∈B)).map λ w=>D.tup [.int u,.int w]:=by rw[zby];rfl
   refine Bp (ρ':=[‹.BE true (B.map pD) vs›,‹.lst (L.map .int)›,‹.int v›,‹.lst (A.map .int)›,‹.lst (W.map .int)›,some (.own (((A.take (i+1)).flatMap G).map pD)),‹.int u›]) ?_ ⟨_,rfl⟩;simp_arith[if_pos wq];rw[BL (λ w=>decide (u≠w) && !decide ((u,w)∈B)) (λ w=>D.tup [.int u,.int w]) (λ w hw=>⟨_,rfl,by
    simp[rv0,rvS,PF,zah,zae,M.A8,JI,JH,Lx,LX,LY,LZ,Pq,IL,Hd,M3,LN,LO,JJ,Zg,Pn,Po,LP,oZ,JK,JL,Hc,UA,Dy,UB,LQ,LR,JM,Zj,LM,E6,toCl_list,toCl_listP,toCl_dct,Pr,M4,M5,M6,M7,Pt,M8,M9,Ma,yF,yE,LS,Zk,LU,Zl,LV,LW,Pp,Zm,muC,muN,pC,pE,pF,pG,pH,pI,toCl_nil,Lq,HH,Sn,UC,JN,Pu,Pw,Mb,Mc,Px,Py,Pz,PB,PD,Md,Me,Mf,Mg,JO,JP,JQ,JR,JS,Mh,JT,JU,Zn,Zo,Zp,Zq,Zr,JV,ite_tt,ite_ff,Bool.not_true,Bool.not_false,zbz,zaz,Gs,IU,Mq,pB,qA,pA,qC,qD,qE,PM,UQ,UR,US,EU,JZ,PR,QN,qQ,ZL,UU,UI,Xk,Ul,CB,Bw];by_cases h:u=w<;>simp[h],λ _=>by simp_arith[]⟩)]
   rw[<-ng];have zg:((W.filter λ w=>decide (u≠w) && !decide ((u,w)∈B)).map λ w=>(u,w))=G u:=by rw[hG]
   rw[zg];simp_arith[if_pos hb];rw[et,List.flatMap_append,List.flatMap_cons,List.flatMap_nil,zba,<-zat]
  ·rintro ρ ⟨s6,rfl⟩;rw[za2,zc1];exact⟨s6,rfl⟩
 ·rintro ρ ⟨s6,rfl⟩;rw[ge];exact⟨_,rfl,rfl⟩
abbrev Kt:=za5 Et
def HU:FT "missing_bows" 1 3 Kt:=(za0 Et).1
def HV:Jm Kt:=(za0 Et).2
abbrev RP (F:List D->M OT):Prop:=∀(B:List (Int×Int)) (vs:List D) (L:List Int),L≠[]->L.length<=30->F [.BE true (B.map pD) vs,.lst (L.map .int)]=.ok (.sh (.int (BJ B L)))
def Jn:∃F,FT "lightest" 2 2 F/\RP F:=by
 refine⟨_,λ T=>Aq (k:=1) T.Yt WI _ (λ f AZ A outer s H E hr=>(A5 (Ae (AH (Aa (!hr) (oS rfl (!hr) rfl T.lS (Ag (CK (NB:=["place","bows","left"]) [none,some 0,some 1] rfl (B2 (!1)) rfl rfl (BI 0 (by decide) rfl rfl rfl) (λ _ _ _ _=>DY) (λ _ _ _ _=>(AM (A1 (CN rfl T.Ff (Ag (Cm (A9 (BK rfl).toXCall (HU T) (-hr) rfl (A1 (!1) (A1 (!2) (A1 (!0) A6))) rfl)))) (A1 (!0) A6))))))) A4))))),?_⟩;intro B vs L ad hl;rfl';refine AX ?_;have hL:(L.map D.int).length<=1000:=by rw[za2];omega
 simp_arith[if_pos hL];rw[BM (λ p=>D.tup ([((Bh B L p).length:Int),p].map D.int)) (λ p hp=>⟨_,rfl,rfl,by
  have h1:=HV B vs L p hl;simp_arith[h1,XN,za2,za6,zcy]⟩)]
 simp_arith[Zf];rw[Tq];have hb:=dH (λ p=>D.tup ([((Bh B L p).length:Int),p].map D.int)) (L.map λ p=>(p,[((Bh B L p).length:Int),p]));rw[zby] at hb;have e2:((λ b:Int×List Int=>(D.tup ([((Bh B L b.1).length:Int),b.1].map D.int),b.2)) ∘ λ p=>(p,[((Bh B L p).length:Int),p]))=λ p=>(D.tup ([((Bh B L p).length:Int),p].map D.int),[((Bh B L p).length:Int),p]):=rfl;rw[e2] at hb;dsimp only;rw[hb];unfold BJ;cases q:Bj (L.map λ p=>(p,[((Bh B L p).length:Int),p])) with
 |none=>exact (Qc (λ z=>ad (List.map_eq_nil_iff.mp z)) q).elim
 |some k =>
  simp only[zbg,M.A8];rfl
abbrev TY:=za5 Jn
def X4:FT "lightest" 2 2 TY:=(za0 Jn).1
def X5:RP TY:=(za0 Jn).2
abbrev X6 (F:List D->M OT):Prop:=∀(m:Nat) (rs:List Road),m<=20->(∀r∈rs,PL m r/\r.a≠r.b)->F [Ac m rs]=.ok (.lst (((pZ m (CG rs) (Bu m)).map D.int).map .sh))
def NR:∃F,FT "ranked" 3 1 F/\X6 F:=by
 refine⟨_,λ T=>Aq (k:=2) T.lR EV _ (λ f AZ A outer s H E hr=>(A2 (Bt 1 EV.nd rfl (zay rfl) (A9 A7.toXCall (SM T) (-hr) rfl (A1 (!0) A6) rfl)) (A2 (Bt 2 EV.nd rfl (zay rfl) (LH rfl rfl T.CU rfl T.Hq (Aa (!hr) (!0) A4))) (A2 (Bt 3 EV.nd rfl (zay rfl) (FY C2)) (A2 (Ls A7.toXCall.own (H9 (B8 (c:=true) (!2))) (A2 (As 4 EV.nd rfl (zay rfl) (Ag (Ej (A9 A7.toXCall (X4 T) (-hr) rfl (A1 (!1) (A1 (!2) A6)) rfl)))) (A2 (C1 A7.toXCall.own rfl (B2 (Ag (Ej (A9 A7.toXCall (HU T) (-hr) rfl (A1 (!1) (A1 (!2) (A1 (!4) A6))) rfl)))) (AS 5 EV.nd rfl (zay rfl)) (A5 (Pm (!hr) (B4 1 (pv 1)) (!5) D3))) (A2 (cQ (B4 2 (pv 2)) (!4)) (A5 (JE 3 (pv 3) (!4))))))) (A5 (CJ 3 (pv 3)))))))),?_⟩;intro m rs hm Aw;rfl';refine AX ?_;have h1:=SN m rs hm Aw;have n0:AB (Ac m rs) (.int 0)=.ok (.int m):=rfl;have h2:=Uy (n:=m) (by omega);rw[QO] at h2;apply wp_step
 ·simp_arith[h1];rfl
 apply wp_step
 ·simp_arith[n0,h2];rfl
 apply wp_step
 ·rfl
 try simp only[zah,zae]
 refine BU (I:=λ ρ=>∃s1 s2 s4 s5,ρ=[‹Ac m rs›,s1,s2,some (.own ((pZ m (CG rs) (Bu m)).map D.int)),s4,s5]) ?_ ?_
 ·refine LK (lt:=λ a b:Nat=>a<b) (λ n ρ=>∃(B:List (Int×Int)) (L O:List Int) (s4 s5:Option Cl),ρ=[‹Ac m rs›,some (.ow (.tree none (.BE true (B.map pD) ((Ea B).map .sh)))),some (.own (L.map D.int)),some (.own (O.map D.int)),s4,s5]/\L.length=n/\n+O.length=m/\Cy m B/\(∀p∈L,0<=p/\p<(m:Int))/\O++pZ n B L=pZ m (CG rs) (Bu m)) (Nat.lt_wfRel.wf.apply m) ⟨CG rs,Bu m,[],none,none,rfl,Gr m,by simp,Wi Aw,λ p hp=>IT.mp hp,rfl⟩ ?_;rintro n ρ ⟨B,L,O,s4,s5,rfl,hn,hO,hB,hL,ee⟩;by_cases ly:L=[]
  ·subst ly;left;have:n=0:=by simpa using hn.symm
   subst this;rw[pZ,zba] at ee;exact⟨rfl,⟨_,_,_,_,by rw[ee]⟩⟩
  ·right;have l6:L.length<=30:=by omega
   have q1:=X5 B (Ea B) L ly l6;have q2:=HV B (Ea B) L (BJ B L) l6;obtain⟨aA,_⟩:=dJ (B:=B) ly;have l7:0<L.length:=List.length_pos_of_mem aA;obtain⟨n',rfl⟩:∃n',n=n'+1:=⟨n-1,by omega⟩;rw[pZ,if_neg ly] at ee;constructor
   ·simp_arith[W7];cases L with
    |nil=>exact (ly rfl).elim
    |cons x r=>rfl
   apply wp_step
   ·simp_arith[q1,vX pK];rfl
   try simp only[zah,zae]
   have ce:Lw ((Bh B L (BJ B L)).map pD)=true:=W5 kD _;refine BU (I:=λ ρ=>∃s5,ρ=[‹Ac m rs›,some (.ow (.tree none (.BE true ((Cw B (Bh B L (BJ B L))).map pD) ((Ea (Cw B (Bh B L (BJ B L)))).map .sh)))),some (.own (L.map D.int)),some (.own (O.map D.int)),‹.int (BJ B L)›,s5]) ?_ ?_
   ·simp_arith[q2,pJ ce];refine C3 (λ i ρ=>∃s5,ρ=[‹Ac m rs›,some (.ow (.tree none (.BE true ((Cw B ((Bh B L (BJ B L)).take i)).map pD) ((Ea (Cw B ((Bh B L (BJ B L)).take i))).map .sh)))),some (.own (L.map D.int)),some (.own (O.map D.int)),‹.int (BJ B L)›,s5]) ⟨s5,rfl⟩ ?_ ?_
    ·rintro i d ρ hd ⟨s5,rfl⟩;obtain⟨p,hp,rfl⟩:=BB hd;refine⟨_,rfl,?_⟩;have zh:Cy m (Cw B ((Bh B L (BJ B L)).take i)):=hB.Cw λ q hq=>by
      have:=Ts (zc0 hq);exact⟨this.2.2,hL _ this.1,hL _ this.2.1⟩
     have kk:keyOk true (pD p)=true/\((Cw B ((Bh B L (BJ B L)).take i)).map pD).length<1000:=⟨rfl,by rw[za2];exact zh.len hm⟩;have et:(Bh B L (BJ B L)).take (i+1)=(Bh B L (BJ B L)).take i++[p]:=by rw[zc7,hp];rfl
     have ea:Cw B ((Bh B L (BJ B L)).take (i+1))=Nv (Cw B ((Bh B L (BJ B L)).take i)) p:=by
      unfold Cw;rw[et,List.foldl_append];rfl
     simp_arith[if_pos kk,ZF];exact⟨_,by rw[ea]⟩
    ·rintro ρ ⟨s5,rfl⟩;rw[za2,zc1];exact⟨s5,rfl⟩
   ·rintro ρ ⟨s5,rfl⟩;have zi:(O.map D.int).length<1000:=by rw[za2];omega
    apply wp_step
    ·simp_arith[Gi,if_pos aA];rfl
    refine Bp (ρ':=[‹Ac m rs›,some (.ow (.tree none (.BE true ((Cw B (Bh B L (BJ B L))).map pD) ((Ea (Cw B (Bh B L (BJ B L)))).map .sh)))),some (.own ((L.erase (BJ B L)).map D.int)),some (.own ((O++[BJ B L]).map D.int)),‹.int (BJ B L)›,s5]) ?_ ?_
    ·simp_arith[if_pos zi,zat,za6,zcy]
    ·have hlen:=List.length_erase_of_mem aA;refine⟨n',by omega,_,_,_,_,_,rfl,by omega,by rw[zai];simp;omega,hB.Cw λ q hq=>?_,λ p hp=>hL p (List.mem_of_mem_erase hp),?_⟩
     ·have:=Ts hq;exact⟨this.2.2,hL _ this.1,hL _ this.2.1⟩
     ·rw[zbi];exact ee
 ·rintro ρ ⟨s1,s2,s4,s5,rfl⟩;exact⟨_,rfl,rfl⟩
abbrev bB:=za5 NR
def eR:FT "ranked" 3 1 bB:=(za0 NR).1
def eS:X6 bB:=(za0 NR).2
abbrev FQ (F:List D->M OT):Prop:=∀(m:Nat) (rs:List Road),m<=20->(∀r∈rs,PL m r/\r.a≠r.b)->(∀L:List Int,L.Perm (Bu m)->F [Ac m rs,.lst (L.map .int)]=.ok (.lst ((L.map D.int).map .sh)))/\F [Ac m rs,.Av]=.ok (.lst (((pZ m (CG rs) (Bu m)).map D.int).map .sh))
def CY:∃F,FT "order_or_ranked" 4 2 F/\FQ F:=by
 refine⟨_,λ T=>Aq (k:=3) T.MJ KR _ (λ f AZ A outer s H E hr=>(A2 (B0 (EZ (c:=true) (!1)) (A5 (Ae (A9 A7.toXCall (eR T) (-hr) rfl (A1 (!0) A6) rfl))) Ap) (A5 (Ae (A9 A7.toXCall (NP T) (-hr) rfl (A1 (!0) (A1 (!1) A6)) rfl))))),?_⟩;intro m rs hm Aw;have h1:=eS m rs hm Aw;refine⟨λ L hL=>?_,?_⟩
 ·have h2:Fs [Ac m rs,.lst (L.map .int)]=.ok (.lst ((L.map D.int).map .sh)):=NQ m (.lst (rs.map Bx)) L (by omega) hL;rfl';refine AX ?_;apply wp_step
  ·rfl
  simp_arith[h2];exact⟨_,rfl,rfl⟩
 ·rfl';refine AX ?_;simp_arith[Bl,h1];exact⟨_,rfl,rfl⟩
abbrev DL:=za5 CY
def Ft:FT "order_or_ranked" 4 2 DL:=(za0 CY).1
def CZ:FQ DL:=(za0 CY).2
abbrev Oo (F:List D->M OT):Prop:=∀(m:Nat) (rs:List Road) (A:LA),m<=20->(∀r∈rs,PL m r)->Ic m A->∃K:List (Int×Int),F [Ac m rs,Ss A]=.ok (.lst ((K.map pD).map .sh))/\K.Nodup/\∀p,p∈K↔KP rs A p
def Hu:∃F,FT "kept_arcs" 3 2 F/\Oo F:=by
 refine⟨_,λ T=>Aq (k:=2) T.WN EJ _ (λ f AZ A outer s H E hr=>(A2 (Bt 2 EJ.nd rfl (zay rfl) (FY C2)) (A2 (C1 A7.toXCall.own rfl (Gf (c:=true) rfl T.Hq (Aa (!hr) (!0) A4)) (AS 3 EJ.nd rfl (Or.inr rfl)) (A2 (As 4 EJ.nd rfl (Or.inr rfl) (Ag (A9 A7.toXCall (SI T) (-hr) rfl (A1 (!0) (A1 (!3) A6)) rfl))) (A5 (Y1 (B4 2 (pv 2)) (by exact (CK (NB:=["w","u","laid","costs"]) [none,some 3,some 1,some 4] rfl (Gf (c:=true) rfl T.Hq (Aa (!hr) (!0) A4)) rfl rfl (BI 0 (by decide) rfl rfl rfl) (λ _ _ _ _=>EE (DW.dt (Qg (Nr (c:=true) (!hr) (AM (A1 (!1) (A1 (!0) A6))) (!2)) (Lk (Li (c:=true) (!hr) (Aa (!hr) (Aa (!hr) (!2) (AM (A1 (!1) (A1 (!0) A6)))) A4) (Aa (!hr) (!3) (!0))))))) (λ _ _ _ _=>(AM (A1 (!1) (A1 (!0) A6)))))))))) (A5 (CJ 2 (pv 2)))))),?_⟩;intro m rs A hm Aw hA;rfl';refine (λ h:∃t,_/\∃K:List (Int×Int),t=.lst ((K.map pD).map .sh)/\K.Nodup/\∀p,p∈K↔KP rs A p=>by
  obtain⟨t,h1,K,rfl,h2⟩:=h;exact⟨K,h1,h2⟩) (LL ?_)
 have n0:AB (Ac m rs) (.int 0)=.ok (.int m):=rfl;have hr:cD (.int (m:Int))=.ok ((Bu m).map D.int):=by rw[Lo (by omega),Yh]
 have hl:((Bu m).map D.int).length<=1000:=by rw[za2,Gr];omega
 apply wp_step
 ·rfl
 try simp only[zah,zae]
 refine BU (I:=λ ρ=>∃(K:List (Int×Int)) (s3 s4:Option Cl),ρ=[‹Ac m rs›,‹Ss A›,some (.own (K.map pD)),s3,s4]/\K.Nodup/\∀p,p∈K↔KP rs A p) ?_ ?_
 ·simp_arith[n0,hr];refine C3 (λ i ρ=>i<=m/\∃(K:List (Int×Int)) (s3 s4:Option Cl),ρ=[‹Ac m rs›,‹Ss A›,some (.own (K.map pD)),s3,s4]/\K.Nodup/\∀p,p∈K↔(p.1<i/\KP rs A p)) ⟨zbb _,[],none,none,rfl,zbn,λ p=>⟨(λ h=>by cases h),λ h=>by
   obtain⟨c,hc,_⟩:=h.2;have:=(hA.rg p (Fb hc)).2.1;omega⟩⟩ ?_ ?_
  ·rintro i d ρ hd ⟨hi,K,s3,s4,rfl,hn,hK⟩;obtain⟨u,hu,rfl⟩:=BB hd;have af:i<m:=by have:=(zaf.mp hu).1;rw[Gr] at this;exact this
   have eu:u=(i:Int):=by
    unfold Bu at hu;rw[zax,List.getElem?_range af] at hu;exact (zao hu).symm
   subst eu;obtain⟨cs,hR,hF⟩:=Kr m i rs af (by omega) Aw;refine⟨_,rfl,?_⟩;apply wp_step
   ·simp_arith[hF];rfl
   try simp only[zah,zae]
   obtain⟨W,hW⟩:∃W,W=(Bu m).filter λ w=>pkA A cs i w:=⟨_,rfl⟩;have wr:∀w,w∈W↔KP rs A ((i:Int),w):=λ w=>by
    rw[hW,zb2,IT];constructor
    ·rintro ⟨hw,h⟩;exact (kS hR Aw hw.1 hw.2).mp h
    ·intro h;obtain⟨c,hc,_⟩:=id h;have:=(hA.rg _ (Fb hc)).2.2;exact⟨this,(kS hR Aw this.1 this.2).mpr h⟩
   have zj:W.Nodup:=by rw[hW];exact (QP m).filter _
   have a8:(K++W.map λ w=>((i:Int),w)).Nodup:=by
    rw[zaw];refine⟨hn,List.pairwise_map.mpr (zj.imp fun {a b} lf e=>lf (by cases e;rfl)),λ x hx y hy e=>?_⟩;subst e;obtain⟨w,_,rfl⟩:=zaq.mp hy;have:=(hK _).mp hx;simp at this
   have wt:∀p,p∈K++W.map (λ w=>((i:Int),w))↔(p.1<((i+1:Nat):Int)/\KP rs A p):=λ p=>by
    rw[zal,hK];constructor
    ·rintro (h|h)
     ·exact⟨by have:=h.1;omega,h.2⟩
     ·obtain⟨w,hw,rfl⟩:=zaq.mp h;exact⟨by dsimp only;omega,(wr w).mp hw⟩
    ·rintro ⟨h1,h2⟩;by_cases e:p.1<(i:Int)
     ·exact .inl ⟨e,h2⟩
     ·have e2:p.1=(i:Int):=by omega
      obtain⟨p1,p2⟩:=p;dsimp only at e2;subst e2;exact .inr (zaq.mpr ⟨p2,(wr p2).mpr h2,rfl⟩)
   have hlen:=wY hA hm a8 λ p hp=>((wt p).mp hp).2;have hb:(K.map pD).length+((W.map λ w=>((i:Int),w)).map pD).length<=1000:=by
    rw[zai] at hlen;rw[za2,za2];omega
   refine Bp (ρ':=[‹Ac m rs›,‹Ss A›,some (.own ((K++W.map λ w=>((i:Int),w)).map pD)),‹.int i›,‹.lst (cs.map cst)›]) ?_ ⟨af,_,_,_,rfl,a8,wt⟩;have t1:∀a b:Int,D.tup [.int a,.int b]=pD (a,b):=λ a b=>rfl;simp_arith[n0,hr,if_pos hl];rw[BL (λ w=>pkA A cs i w) (λ w=>pD ((i:Int),w)) (λ w hw=>⟨_,rfl,by
    have wu:=IT.mp hw;have x1:AB (.lst (cs.map cst)) (.int w)=.ok (cst (atC cs w)):=Gp wu.1 (by rw[hR.1];exact wu.2);have d9:=UT A ((i:Int),w) false;unfold pkA Ad;cases q:Ao A ((i:Int),w) with
    |none =>
     rw[q] at d9;simp_arith[t1,d9];rfl
    |some v =>
     rw[q] at d9;have hit:=QT q;have h0:AB (Y9 v) (.int 0)=.ok (cst (some v.1)):=rfl;have he:=Mo (some v.1) (atC cs w);simp_arith[t1,d9,hit,h0,x1,he];rfl,λ _=>by simp_arith[t1]⟩)]
   rw[<-hW];have ew:W.map (λ w=>pD ((i:Int),w))=(W.map λ w=>((i:Int),w)).map pD:=by rw[zby];rfl
   rw[ew];simp_arith[if_pos hb];rw[<-zat]
  ·rintro ρ ⟨_,K,s3,s4,rfl,hn,hK⟩;refine⟨K,s3,s4,rfl,hn,λ p=>(hK p).trans ⟨λ h=>h.2,λ h=>⟨?_,h⟩⟩⟩;obtain⟨c,hc,_⟩:=h;have:=(hA.rg p (Fb hc)).2.1;rw[za2,Gr];omega
 ·rintro ρ ⟨K,s3,s4,rfl,hn,hK⟩;exact⟨_,rfl,K,rfl,hn,hK⟩
abbrev RQ:=za5 Hu
def Va:FT "kept_arcs" 3 2 RQ:=(za0 Hu).1
def Vb:Oo RQ:=(za0 Hu).2
abbrev FR (F:OT->List D->M (OT×OT)):Prop:=∀(m:Nat) (rs:List Road) (o:D) (L:List Int),1<=m->m<=16->rs.length<=60->(∀r∈rs,F8 m r)->L.Perm (Bu m)->(o=.lst (L.map D.int)\/(o=.Av/\L=pZ m (CG rs) (Bu m)))->∃(A:LA) (K:List (Int×Int)),Bi m rs L A K/\∃t,F (.ins "Ladder" [] []) [Ac m rs,o]=.ok (t,.sh .Av)/\er t=Bg m rs L A K
def D1:∃F:OT->List D->M (OT×OT),(∀ {P w K mg base},Txt K mg->QG P w K mg base "Ladder" 6 3 F)/\FR F:=by
 refine⟨_,λ T=>Wf (k:=5) T.MK KS _ (λ f AZ A outer s H E hr=>(A2 (Hg ["Ladder"] (Az T.Bz AW) (B4 0 (pv 0)) (Ag (A9 A7.toXCall (KY T) (-hr) rfl (A1 (!1) A6) rfl))) (A2 (Hg ["Ladder"] (Az T.CV AW) (B4 0 (pv 0)) (Ag (Ej (A9 A7.toXCall (Ft T) (-hr) rfl (A1 (BN ["Ladder"] (Az T.Bz AW) (!0)) (A1 (!2) A6)) rfl)))) (A2 (Hg ["Ladder"] (Az T.Cd AW) (B4 0 (pv 0)) (Ag (Ej (A9 A7.toXCall (V8 T) (-hr) rfl (A1 (BN ["Ladder"] (Az T.Bz AW) (!0)) (A1 (BN ["Ladder"] (Az T.CV AW) (!0)) A6)) rfl)))) (A5 (Hg ["Ladder"] (Az T.Fg AW) (B4 0 (pv 0)) (Ag (Ej (A9 A7.toXCall (Va T) (-hr) rfl (A1 (BN ["Ladder"] (Az T.Bz AW) (!0)) (A1 (BN ["Ladder"] (Az T.Cd AW) (!0)) A6)) rfl))))))))),?_⟩;intro m rs o L aG aH aY aN hL ho;dsimp only;have Aw:∀r∈rs,PL m r/\r.a≠r.b:=λ r hr=>(aN r hr).okR;have h1:=KZ m rs aG aH aY aN;have h2:DL [Ac m rs,o]=.ok (.lst ((L.map D.int).map .sh)):=by
  rcases ho with rfl|⟨rfl,rfl⟩
  ·exact (CZ m rs (by omega) Aw).1 L hL
  ·exact (CZ m rs (by omega) Aw).2
 have h3:=V9 m rs L (by omega) hL Aw;have hA:=(Mv hL Aw).1;obtain⟨K,h4,hn,hK⟩:=Vb m rs (BC rs L) (by omega) (λ r hr=>(Aw r hr).1) hA;refine⟨BC rs L,K,⟨aG,aH,aY,Aw,hL,rfl,hn,hK⟩,.ins "Ladder" ["own_map","own_order","laid","kept_ones"] [.sh (Ac m rs),.sh (.lst (L.map D.int)),.sh (Ss (BC rs L)),.sh (.lst (K.map pD))],?_,rfl⟩;have e0:D8 ["self","net","order"] (.ins "Ladder" [] []) [Ac m rs,o]=[some (.ow (.tree (some 0) (.ins "Ladder" [] []))),‹Ac m rs›,‹o›]:=rfl;rw[e0];refine QV ?_;have e1:er (.tup [.sh (.int m),.lst ((rs.map Bx).map .sh)])=Ac m rs:=by rw[Ms,M3,Hd];rfl
 have T:∀(ns:List Str) (ds:List D),er (.ins "Ladder" ns (ds.map .sh))=.ins "Ladder" ns ds:=λ ns ds=>by rw[er,Nq]
 have T1:=T ["own_map"] [Ac m rs];have T2:=T ["own_map","own_order"] [Ac m rs,.lst (L.map D.int)];have T3:=T ["own_map","own_order","laid"] [Ac m rs,.lst (L.map D.int),Ss (BC rs L)];simp only[za6,zcy] at T1 T2 T3;have d1:=Ws L;have d2:=qM (BC rs L);have d3:=qL K;have f1:K4 ["Ladder"] "own_map" (.ins "Ladder" ["own_map"] [Ac m rs])=.ok (Ac m rs):=rfl;have f2:K4 ["Ladder"] "own_map" (.ins "Ladder" ["own_map","own_order"] [Ac m rs,.lst (L.map D.int)])=.ok (Ac m rs):=rfl;have f3:K4 ["Ladder"] "own_order" (.ins "Ladder" ["own_map","own_order"] [Ac m rs,.lst (L.map D.int)])=.ok (.lst (L.map D.int)):=rfl;have f4:K4 ["Ladder"] "own_map" (.ins "Ladder" ["own_map","own_order","laid"] [Ac m rs,.lst (L.map D.int),Ss (BC rs L)])=.ok (Ac m rs):=rfl;have f5:K4 ["Ladder"] "laid" (.ins "Ladder" ["own_map","own_order","laid"] [Ac m rs,.lst (L.map D.int),Ss (BC rs L)])=.ok (Ss (BC rs L)):=rfl;refine wp_step (ρ':=[some (.ow (.tree (some 0) (.ins "Ladder" ["own_map"] [.sh (Ac m rs)]))),‹Ac m rs›,‹o›]) (by simp_arith[h1,e1];rfl) ?_;refine wp_step (ρ':=[some (.ow (.tree (some 0) (.ins "Ladder" ["own_map","own_order"] [.sh (Ac m rs),.sh (.lst (L.map D.int))]))),‹Ac m rs›,‹o›]) (by simp_arith[T1,f1,h2,d1];rfl) ?_;refine wp_step (ρ':=[some (.ow (.tree (some 0) (.ins "Ladder" ["own_map","own_order","laid"] [.sh (Ac m rs),.sh (.lst (L.map D.int)),.sh (Ss (BC rs L))]))),‹Ac m rs›,‹o›]) (by simp_arith[T2,f2,f3,h3,d2];rfl) ?_;refine Bp (ρ':=[some (.ow (.tree (some 0) (.ins "Ladder" ["own_map","own_order","laid","kept_ones"] [.sh (Ac m rs),.sh (.lst (L.map D.int)),.sh (Ss (BC rs L)),.sh (.lst (K.map pD))]))),‹Ac m rs›,‹o›]) (by simp_arith[T3,f4,f5,h4,d3];rfl) ⟨rfl,rfl⟩
abbrev DM:=za5 D1
def L6:Txt K mg->QG P w K mg base "Ladder" 6 3 DM:=(za0 D1).1
def L7:FR DM:=(za0 D1).2
abbrev Ku (F:List D->M OT):Prop:=∀(r:Road) (l:Option Int),F [Bx r,Ek l]=.ok (.sh (Bx ⟨r.a,r.b,l,r.w⟩))
def Fu:∃F,FT "with_length" 1 2 F/\Ku F:=by
 refine⟨_,λ T=>Aq (k:=0) T.SE Ri _ (λ f AZ A outer s H E hr=>(A5 (Ae (AH (AM (A1 (Aa (!hr) (!0) A4) (A1 (Aa (!hr) (!0) A4) (A1 (!1) (A1 (Aa (!hr) (!0) A4) A6))))))))),?_⟩;intro r l;dsimp only;rfl
abbrev Hv:=za5 Fu
def RS:FT "with_length" 1 2 Hv:=(za0 Fu).1
def RT:Ku Hv:=(za0 Fu).2
abbrev HW (F:List D->M OT):Prop:=∀(m:Nat) (rs:List Road) (i:Nat),i<m->F [Ac m rs,.int i]=.ok (.sh (.int i))
def DQ:∃F,FT "checked_place" 2 2 F/\HW F:=by
 refine⟨_,λ T=>Aq (k:=1) T.ON NF _ (λ f AZ A outer s H E hr=>(A2 (B0 (Bs (B8 (c:=true) (Ag (A9 A7.toXCall (AU T) (-hr) rfl (A1 (!1) (A1 (Aa (!hr) (!0) A4) A6)) rfl)))) (A5 Qj) Ap) (A5 (Ae (AH (!1)))))),?_⟩;intro m rs i hi;rfl';refine AX ?_;have n0:AB (Ac m rs) (.int 0)=.ok (.int m):=rfl;have n1:AB (Ac m rs) (.int 1)=.ok (.lst (rs.map Bx)):=rfl;have h:=AV i m (by omega) (by omega);apply wp_step
 ·simp_arith[n0,h,EG];rfl
 rfl
abbrev Jo:=za5 DQ
def GG:FT "checked_place" 2 2 Jo:=(za0 DQ).1
def GH:HW Jo:=(za0 DQ).2
abbrev Jp (F:List D->M OT):Prop:=∀(m:Nat) (rs:List Road) (i:Int),0<=i->i<rs.length->F [Ac m rs,.int i]=.ok (.sh (.int i))
def Eu:∃F,FT "checked_road" 2 2 F/\Jp F:=by
 refine⟨_,λ T=>Aq (k:=1) T.Ry OI _ (λ f AZ A outer s H E hr=>(A2 (B0 (Bs (B8 (c:=true) (Ag (A9 A7.toXCall (AU T) (-hr) rfl (A1 (!1) (A1 (CN rfl T.Ff (Aa (!hr) (!0) A4)) A6)) rfl)))) (A5 Qj) Ap) (A5 (Ae (AH (!1)))))),?_⟩;intro m rs i h0 hi;rfl';refine AX ?_;have n0:AB (Ac m rs) (.int 0)=.ok (.int m):=rfl;have n1:AB (Ac m rs) (.int 1)=.ok (.lst (rs.map Bx)):=rfl;have h:=AV i rs.length h0 hi;have hl:(((rs.map Bx).length:Int))=(rs.length:Int):=by rw[za2]
 apply wp_step
 ·simp_arith[n1,hl,h,EG];rfl
 rfl
abbrev Kv:=za5 Eu
def OW:FT "checked_road" 2 2 Kv:=(za0 Eu).1
def OX:Jp Kv:=(za0 Eu).2
abbrev Jq (F:List D->M OT):Prop:=∀(m:Nat) (rs:List Road) (A:List (Int×Unit)),rs.length<=900->F [Ac m rs,shD A]=.ok (.tup [.sh (.int m),.lst (((Sa (λ i=>(Ao A i).isSome) rs).map Bx).map .sh)])
def Ew:∃F,FT "with_lengths" 2 2 F/\Jq F:=by
 refine⟨_,λ T=>Aq (k:=1) T.RB OJ _ (λ f AZ A outer s H E hr=>(A5 (Ae (Qx (Ck (AH (Aa (!hr) (!0) A4)) (Ck (CK (NB:=["number","road","lengths"]) [none,none,some 1] rfl (Lp rfl T.Ed (Aa (!hr) (!0) A4)) rfl rfl (LJ (n:=2) rfl (Cc 0 (by decide) rfl rfl rfl (Cc 1 (by decide) rfl rfl rfl IK))) (λ _ _ _ _=>DY) (λ _ _ _ _=>(Ag (Cm (A9 (BK rfl).toXCall (RS T) (-hr) rfl (A1 (!1) (A1 (lJ (!hr) (!2) (!0) (Aa (!hr) (!1) A4)) A6)) rfl))))) C2)))))),?_⟩;intro m rs A hl;rfl';refine AX ?_;have n0:AB (Ac m rs) (.int 0)=.ok (.int m):=rfl;have n1:AB (Ac m rs) (.int 1)=.ok (.lst (rs.map Bx)):=rfl;have al:((zb9 rs.length).map λ i:Nat=>D.tup [.int (i:Int),Bx (rs.getD i ⟨0,0,none,0⟩)]).length<=1000:=by rw[za2,zc9];omega
 simp_arith[n0,n1,Tz,if_pos al];rw[BM (λ i:Nat=>Bx (if (Ao A (i:Int)).isSome=true then Ie (rs.getD i ⟨0,0,none,0⟩) else rs.getD i ⟨0,0,none,0⟩)) (λ i hi=>⟨_,rfl,rfl,by
  have r2:AB (Bx (rs.getD i ⟨0,0,none,0⟩)) (.int 2)=.ok (Ek (rs.getD i ⟨0,0,none,0⟩).l):=rfl;have hg:=rD A (i:Int) (Ek (rs.getD i ⟨0,0,none,0⟩).l);have hw:=RT (rs.getD i ⟨0,0,none,0⟩);by_cases c:(Ao A (i:Int)).isSome=true
  ·rw[if_pos c] at hg ⊢;have uq:Hv [Bx (rs.getD i ⟨0,0,none,0⟩),.Av]=.ok (.sh (Bx (Ie (rs.getD i ⟨0,0,none,0⟩)))):=hw none;simp_arith[r2,hg,uq]
  ·rw[if_neg c] at hg ⊢;have uq:=hw (rs.getD i ⟨0,0,none,0⟩).l;simp_arith[r2,hg,uq]⟩)]
 have e:((zb9 rs.length).map λ i:Nat=>Bx (if (Ao A (i:Int)).isSome=true then Ie (rs.getD i ⟨0,0,none,0⟩) else rs.getD i ⟨0,0,none,0⟩))=(Sa (λ i=>(Ao A i).isSome) rs).map Bx:=by unfold Sa;rw[zby];rfl
 rw[e];simp_arith[];exact⟨_,rfl,rfl⟩
abbrev Kw:=za5 Ew
def OY:FT "with_lengths" 2 2 Kw:=(za0 Ew).1
def OZ:Jq Kw:=(za0 Ew).2
abbrev Jr (F:List D->M OT):Prop:=∀(m:Nat) (rs:List Road) (S:List Int),S.length<=900->(∀i∈S,0<=i/\i<rs.length)->F [Ac m rs,.lst (S.map D.int)]=.ok (shT (sU S))/\F [Ac m rs,.Av]=.ok (shT [])
def Ex:∃F,FT "shut_lengths" 3 2 F/\Jr F:=by
 refine⟨_,λ T=>Aq (k:=2) T.RC OK _ (λ f AZ A outer s H E hr=>(A2 (B0 (EZ (c:=true) (!1)) (A5 (Ae (QA false))) Ap) (A5 (Ae (Wx rfl rfl T.V7 (Ag (CK (NB:=["thing","net"]) [none,some 0] rfl (B2 (!1)) rfl rfl (BI 0 (by decide) rfl rfl rfl) (λ _ _ _ _=>DY) (λ _ _ _ _=>(AM (A1 (Ag (Cm (A9 (BK rfl).toXCall (OW T) (-hr) rfl (A1 (!1) (A1 (!0) A6)) rfl))) (A1 CM A6))))))))))),?_⟩;intro m rs S hl hS;have al:(S.map D.int).length<=1000:=by rw[za2];omega
 constructor
 ·rfl';refine AX ?_;have aF:Bl (.lst (S.map D.int))=false:=rfl;apply wp_step
  ·simp_arith[aF];rfl
  have hd:=xP S (by omega);simp_arith[if_pos al];rw[BM (λ i:Int=>D.tup [.int i,.Av]) (λ i hi=>⟨_,rfl,rfl,by
   have:=OX m rs i (hS i hi).1 (hS i hi).2;simp_arith[this]⟩)]
  simp_arith[hd];exact⟨_,rfl,rfl⟩
 ·rfl';refine AX ?_;exact⟨_,rfl,rfl⟩
abbrev G8:=za5 Ex
def P5:FT "shut_lengths" 3 2 G8:=(za0 Ex).1
def HX:Jr G8:=(za0 Ex).2
abbrev GI (F:OT->List D->M (OT×OT)):Prop:=∀(m:Nat) (rs:List Road) (L:List Int),1<=m->m<=16->rs.length<=60->(∀r∈rs,F8 m r)->L.Perm (Bu m)->∃t,F (.ins "House" [] []) [Ac m rs,.lst (L.map D.int)]=.ok (t,.sh .Av)/\er t=BV m rs L
def Dl:∃F:OT->List D->M (OT×OT),(∀ {P w K mg base},Txt K mg->QG P w K mg base "House" 6 3 F)/\GI F:=by
 refine⟨_,λ T=>Wf (k:=5) T.NJ MF _ (λ f AZ A outer s H E hr=>(A2 (Hg ["House"] (Az T.Bn AW) (B4 0 (pv 0)) (Ag (A9 A7.toXCall (KY T) (-hr) rfl (A1 (!1) A6) rfl))) (A2 (Hg ["House"] (Az T.FN AW) (B4 0 (pv 0)) (Ag (Ej (A9 A7.toXCall (Ft T) (-hr) rfl (A1 (BN ["House"] (Az T.Bn AW) (!0)) (A1 (!2) A6)) rfl)))) (A5 (Hg ["House"] (Az T.MN AW) (B4 0 (pv 0)) (Du A6)))))),?_⟩;intro m rs L aG aH aY aN hL;dsimp only;have h1:=KZ m rs aG aH aY aN;have h2:=(CZ m rs (by omega) (λ r hr=>(aN r hr).okR)).1 L hL;have e0:D8 ["self","net","order"] (.ins "House" [] []) [Ac m rs,.lst (L.map D.int)]=[some (.ow (.tree (some 0) (.ins "House" [] []))),‹Ac m rs›,‹.lst (L.map D.int)›]:=rfl;refine⟨.ins "House" ["own_map","own_order","done"] [.sh (Ac m rs),.sh (.lst (L.map D.int)),.sh (.lst [])],?_,rfl⟩;rw[e0];refine QV ?_;have e1:er (.tup [.sh (.int m),.lst ((rs.map Bx).map .sh)])=Ac m rs:=by rw[Ms,M3,Hd];rfl
 have T:∀(ns:List Str) (ds:List D),er (.ins "House" ns (ds.map .sh))=.ins "House" ns ds:=λ ns ds=>by rw[er,Nq]
 have T1:=T ["own_map"] [Ac m rs];simp only[za6,zcy] at T1;have d1:=Ws L;have f1:K4 ["House"] "own_map" (.ins "House" ["own_map"] [Ac m rs])=.ok (Ac m rs):=rfl;refine wp_step (ρ':=[some (.ow (.tree (some 0) (.ins "House" ["own_map"] [.sh (Ac m rs)]))),‹Ac m rs›,‹.lst (L.map D.int)›]) (by simp_arith[h1,e1];rfl) ?_;refine wp_step (ρ':=[some (.ow (.tree (some 0) (.ins "House" ["own_map","own_order"] [.sh (Ac m rs),.sh (.lst (L.map D.int))]))),‹Ac m rs›,‹.lst (L.map D.int)›]) (by simp_arith[T1,f1,h2,d1];rfl) ?_;exact Bp (ρ':=[some (.ow (.tree (some 0) (.ins "House" ["own_map","own_order","done"] [.sh (Ac m rs),.sh (.lst (L.map D.int)),.sh (.lst [])]))),‹Ac m rs›,‹.lst (L.map D.int)›]) (by simp_arith[];rfl) ⟨rfl,rfl⟩
abbrev C9:=za5 Dl
def Dm:Txt K mg->QG P w K mg base "House" 6 3 C9:=(za0 Dl).1
def Dn:GI C9:=(za0 Dl).2
abbrev GJ (F:List D->M OT):Prop:=∀(m:Nat) (rs:List Road) (L:List Int),1<=m->m<=16->rs.length<=60->(∀r∈rs,F8 m r)->F [BV m rs L]=.ok (.tup [.sh (.int m),.lst ((rs.map Bx).map .sh)])
def Dp:∃F:List D->M OT,(∀ {P w K mg base},Txt K mg->FC P w K mg base "House" "told_map" 6 1 F)/\GJ F:=by
 refine⟨_,λ T=>Hf (k:=5) T.NK MG _ (λ f AZ A outer s H E hr=>(A5 (Ae (A9 A7.toXCall (KY T) (-hr) rfl (A1 (BN ["House"] (Az T.Bn AW) (!0)) A6) rfl)))),?_⟩;intro m rs L aG aH aY aN;rfl';refine AX ?_;have h1:=KZ m rs aG aH aY aN;have f1:K4 ["House"] "own_map" (BV m rs L)=.ok (Ac m rs):=rfl;simp_arith[f1,h1];exact⟨_,rfl,rfl⟩
abbrev Ca:=za5 Dp
def MZ:Txt K mg->FC P w K mg base "House" "told_map" 6 1 Ca:=(za0 Dp).1
def N4:GJ Ca:=(za0 Dp).2
abbrev HY (F:List D->M OT):Prop:=∀(m:Nat) (rs:List Road) (L:List Int),F [BV m rs L]=.ok (.lst [])
def DR:∃F:List D->M OT,(∀ {P w K mg base},Txt K mg->FC P w K mg base "House" "changes" 1 1 F)/\HY F:=by
 refine⟨_,λ T=>Hf (k:=0) T.OO NG _ (λ f AZ A outer s H E hr=>(A5 (Ae (EF rfl T.CU (BN ["House"] (Az T.MN AW) (!0)))))),?_⟩;intro m rs L;dsimp only;rfl
abbrev Cp:=za5 DR
def NS:Txt K mg->FC P w K mg base "House" "changes" 1 1 Cp:=(za0 DR).1
def NT:HY Cp:=(za0 DR).2
abbrev Oq (F:List D->M OT):Prop:=∀(m:Nat) (rs:List Road) (L S:List Int) (s g:Nat) (x:D),1<=m->m<=16->rs.length<=60->(∀r∈rs,F8 m r)->L.Perm (Bu m)->s<m->g<m->S.length<=900->(∀i∈S,0<=i/\i<rs.length)->(x=.lst (S.map D.int)\/(x=.Av/\S=[]))->∃(T:List Co) (N:List Nat),T.length=m/\(∀w:Int,0<=w->w<m->BG (Sa (λ i=>decide (i∈S)) rs) w g (atC T w))/\(∀c,atC T s=some c->R4 (Sa (λ i=>decide (i∈S)) rs) s N g c.1/\(N.length:Int)=c.2)/\F [BV m rs L,.int s,.int g,x]=.ok (FD (atC T s) N T)
def Hw:∃F:List D->M OT,(∀ {P w K mg base},Txt K mg->R6 P w K mg base "House" "ask" "shut" 9 4 F)/\Oq F:=by
 refine⟨_,λ T=>lF (k:=8) T.WO MH _ (λ f AZ A outer s H E hr=>(A2 (Z5 (c:=true) (Ag (A9 A7.toXCall (GG T) (-hr) rfl (A1 (BN ["House"] (Az T.Bn AW) (!0)) (A1 (!1) A6)) rfl))) (A2 (Z5 (c:=true) (Ag (A9 A7.toXCall (GG T) (-hr) rfl (A1 (BN ["House"] (Az T.Bn AW) (!0)) (A1 (!2) A6)) rfl))) (A2 (As 4 MH.nd rfl (zay rfl) (Ag (A9 A7.toXCall (OY T) (-hr) rfl (A1 (BN ["House"] (Az T.Bn AW) (!0)) (A1 (Ag (A9 A7.toXCall (P5 T) (-hr) rfl (A1 (BN ["House"] (Az T.Bn AW) (!0)) (A1 (!3) A6)) rfl)) A6)) rfl))) (A5 (Ae (A9 A7.toXCall (xK T.YC (xR T)) (-hr) rfl (A1 (Ag (PH A7.toXCall (L6 T).ini (-hr) rfl (A1 (!4) (A1 (BN ["House"] (Az T.FN AW) (!0)) A6)) rfl)) (A1 (!1) (A1 (!2) A6))) rfl))))))),?_⟩;intro m rs L S s g x aG aH aY aN hL hs hg eh hS hx;dsimp only;have qg:Sa (λ i=>(Ao (sU S) i).isSome) rs=Sa (λ i=>decide (i∈S)) rs:=by
  congr 1;funext i;exact rC S i
 obtain⟨A,K,ok,t,hI,hE⟩:=L7 m (Sa (λ i=>decide (i∈S)) rs) (.lst (L.map D.int)) L aG aH (by rw[UZ];exact aY) (lM aN) hL (.inl rfl);obtain⟨T,N,h1,h2,h3,h4⟩:=xS m (Sa (λ i=>decide (i∈S)) rs) L A K s g ok hs hg;refine⟨T,N,h1,h2,h3,?_⟩;rfl';refine AX ?_;have f1:K4 ["House"] "own_map" (BV m rs L)=.ok (Ac m rs):=rfl;have f2:K4 ["House"] "own_order" (BV m rs L)=.ok (.lst (L.map D.int)):=rfl;have p1:=GH m rs s hs;have p2:=GH m rs g hg;have zk:(G8) [Ac m rs,x]=.ok (shT (sU S)):=by
  rcases hx with rfl|⟨rfl,rfl⟩
  ·exact (HX m rs S eh hS).1
  ·exact (HX m rs [] eh hS).2
 have gn:=OZ m rs (sU S) (by omega);rw[qg] at gn;have ur:Ti ((DM) (.ins "Ladder" [] []) [Ac m (Sa (λ i=>decide (i∈S)) rs),.lst (L.map D.int)])=.ok t:=by rw[hI];rfl
 have e1:er (.tup [.sh (.int m),.lst (((Sa (λ i=>decide (i∈S)) rs).map Bx).map .sh)])=Ac m (Sa (λ i=>decide (i∈S)) rs):=by rw[Ms,M3,Hd];rfl
 apply wp_step
 ·simp_arith[f1,p1];rfl
 apply wp_step
 ·simp_arith[f1,p2];rfl
 refine wp_step (ρ':=[‹BV m rs L›,‹.int s›,‹.int g›,‹x›,‹Ac m (Sa (λ i=>decide (i∈S)) rs)›]) (by simp_arith[f1,zk,xO,gn,e1];try rfl) ?_;simp_arith[f2,ur,hE,h4];cases atC T s with
 |none=>rfl
 |some c=>exact⟨_,rfl,rfl⟩
abbrev BP:=za5 Hw
def Cs:Txt K mg->R6 P w K mg base "House" "ask" "shut" 9 4 BP:=(za0 Hw).1
def EM:Oq BP:=(za0 Hw).2
abbrev Kx (F:List D->M OT):Prop:=∀(ns:List Int) (k:Nat),(∀n∈ns,Sm n)->∃v:Int,Sm v/\F [.lst (ns.map D.int),.int k]=.ok (.sh (.int v))
def Fv:∃F,FT "_law_cell_at" 1 2 F/\Kx F:=by
 refine⟨_,λ T=>Aq (k:=0) T.SF Rj _ (λ f AZ A outer s H E hr=>(A2 (B0 (aaa (c:=true) (!1) (CN rfl T.Ff (!0))) (A5 (Ae (AH (Aa (!hr) (!0) (!1))))) Ap) (A5 (Ae (AH A4))))),?_⟩;intro ns k aW;rfl';by_cases hk:(k:Int)<((ns.map D.int).length:Int)
 ·have zl:=hk;rw[za2] at zl;have i1:AB (.lst (ns.map D.int)) (.int k)=.ok (.int (ns[k]'(by omega))):=Hi (by omega) (by rw[zbj];exact za7 _);refine⟨ns[k]'(by omega),aW _ (List.getElem_mem _),AX ?_⟩;simp_arith[decide_eq_true hk,i1];rfl
 ·refine⟨0,by unfold Sm;decide,AX ?_⟩;simp_arith[decide_eq_false hk];rfl
abbrev EN:=za5 Fv
def Js:FT "_law_cell_at" 1 2 EN:=(za0 Fv).1
def Jt:Kx EN:=(za0 Fv).2
abbrev Ot (F:List D->M OT):Prop:=∀c k:Int,0<=k->k<=1000->∃v:Int,0<=v/\F [.int c,.int k]=.ok (.sh (.int v))
def Hx:∃F,FT "_law_mixed" 1 2 F/\Ot F:=by
 refine⟨_,λ T=>Aq (k:=0) T.WQ Hn _ (λ f AZ A outer s H E hr=>(A2 (As 2 Hn.nd rfl (zay rfl) (BA (BS (BA (!0) A4) (JG A4 (BS (!1) A4))) A4)) (A2 (As 2 Hn.nd rfl (zay rfl) (BA (BS (BS (JG (!2) (!2)) (JG A4 (!1))) A4) A4)) (A5 (Ae (AH (BA (JG (!2) (!2)) A4))))))),?_⟩;intro c k h0 h1;rfl';have m1:IA (.int 48271) (.int (k+1))=.ok (.int (48271*(k+1))):=F1 (.inr (.inr (.inr ⟨by omega,by omega⟩)));obtain⟨x,hx⟩:∃x,x=(c%2147483629+48271*(k+1))%2147483647:=⟨_,rfl⟩;have x0:0<=x:=by omega
 have x1:x<2147483647:=by omega
 have m2:IA (.int x) (.int x)=.ok (.int (x*x)):=F1 (.inr (.inr (.inr ⟨by omega,by omega⟩)));have m3:IA (.int 69621) (.int k)=.ok (.int (69621*k)):=F1 (.inr (.inr (.inr ⟨by omega,by omega⟩)));obtain⟨y,hy⟩:∃y,y=(x*x+69621*k+7)%2147483587:=⟨_,rfl⟩;have y0:0<=y:=by rw[hy];exact zbt _ (by decide)
 have y1:y<2147483587:=by rw[hy];exact zbo _ (by decide)
 have m4:IA (.int y) (.int y)=.ok (.int (y*y)):=F1 (.inr (.inr (.inr ⟨by omega,by omega⟩)));refine⟨y*y%2147483579,zbt _ (by decide),?_⟩;simp[rv0,rvS,m1,vG,Fx,Bk,<-hx,m2,m3,<-hy,m4,VZ,cB,yE,cM]
abbrev RU:=za5 Hx
def EO:FT "_law_mixed" 1 2 RU:=(za0 Hx).1
def EQ:Ot RU:=(za0 Hx).2
abbrev RV (F:List D->M OT):Prop:=∀(c k:Int) (m:Nat),2<=m->m<=16->0<=k->k<=100->∃r:Road,F8 m r/\F [.int c,.int m,.int k]=.ok (.sh (Bx r))
def Ju:∃F,FT "_law_road" 2 3 F/\RV F:=by
 refine⟨_,λ T=>Aq (k:=1) T.Yu Dc _ (λ f AZ A outer s H E hr=>(A2 (As 0 Dc.nd rfl (zay rfl) (BA (!0) (iE A4 A4))) (A2 (As 3 Dc.nd rfl (zay rfl) (Ag (A9 A7.toXCall (EO T) (-hr) rfl (A1 (!0) (A1 (!2) A6)) rfl))) (A2 (As 4 Dc.nd rfl (zay rfl) (BA (!3) (!1))) (A2 (As 5 Dc.nd rfl (zay rfl) (BA (BS (BS (!4) A4) (BA (BZ (!3) A4) (vH (!1) A4))) (!1))) (A2 (As 6 Dc.nd rfl (zay rfl) (Aa (!hr) (Du (A1 CM (A1 A4 (A1 A4 (A1 A4 (A1 (BA (BZ (!3) A4) A4) (A1 (BA (BZ (!3) A4) A4) (A1 (BA (BZ (!3) A4) A4) (A1 (!0) A6))))))))) (BA (BZ (!3) A4) A4))) (A5 (Ae (AH (AM (A1 (!4) (A1 (!5) (A1 (!6) (A1 (Aa (!hr) (Du (A1 (BA (BZ (!3) A4) A4) (A1 (BZ (!0) A4) A6))) (BA (BZ (!3) A4) A4)) A6)))))))))))))),?_⟩;intro c k m aG aH h0 h1;have ht:=Y8;rfl';obtain⟨g,hg⟩:∃g,g=c%Tu:=⟨_,rfl⟩;have g0:0<=g:=by rw[hg];exact zbt _ (by omega)
 have g1:g<Tu:=by rw[hg];exact zbo _ (by omega)
 obtain⟨v,v0,hv⟩:=EQ g k h0 (by omega);have em:(0:Int)<(m:Int):=by omega
 have l8:(0:Int)<(m:Int)-1:=by omega
 obtain⟨o,ho⟩:∃o,o=v%(m:Int):=⟨_,rfl⟩;obtain⟨o',aJ⟩:∃o',o'=(o+1+v / 16%((m:Int)-1))%(m:Int):=⟨_,rfl⟩;have o0:0<=o:=by rw[ho];exact zbt _ (by omega)
 have o1:o<m:=by rw[ho];exact zbo _ em
 have p0:0<=o':=by rw[aJ];exact zbt _ (by omega)
 have p1:o'<m:=by rw[aJ];exact zbo _ em
 have s0:0<=v / 16%((m:Int)-1):=zbt _ (by omega);have s1:v / 16%((m:Int)-1)<(m:Int)-1:=zbo _ l8;have lf:o≠o':=by
  have:=vY (a:=o) (s:=1+v / 16%((m:Int)-1)) (m:=m) o0 o1 (by omega) (by omega);rw[aJ,zd6];exact λ z=>this z.symm
 have l9:EA (.int v) (.int 16)=.ok (.int (v / 16)):=By ⟨by decide,by decide⟩;have me:EA (.int v) (.int 2048)=.ok (.int (v / 2048)):=By ⟨by decide,by decide⟩;have ut:EA (.int v) (.int 256)=.ok (.int (v / 256)):=By ⟨by decide,by decide⟩;have mf:EA (.int v) (.int 4096)=.ok (.int (v / 4096)):=By ⟨by decide,by decide⟩;have zm:EA (.int v) (.int 32)=.ok (.int (v / 32)):=By ⟨by decide,by decide⟩;have d7:EA (.int g) (.int 7)=.ok (.int (g / 7)):=By ⟨by decide,by decide⟩;have q1:Fx (.int v) (.int (m:Int))=.ok (.int o):=by rw[ho];exact Bc em
 have q2:Fx (.int (v / 16)) (.int ((m:Int)-1))=.ok (.int (v / 16%((m:Int)-1))):=Bc l8;have q3:Fx (.int (o+1+v / 16%((m:Int)-1))) (.int (m:Int))=.ok (.int o'):=by rw[aJ];exact Bc em
 have q4:Fx (.int (v / 2048)) (.int 4)=.ok (.int (v / 2048%4)):=Bc (by decide);have q5:Fx (.int (v / 2048)) (.int 100)=.ok (.int (v / 2048%100)):=Bc (by decide);have q6:Fx (.int (v / 256)) (.int 8)=.ok (.int (v / 256%8)):=Bc (by decide);have q8:Fx (.int (v / 4096)) (.int 5)=.ok (.int (v / 4096%5)):=Bc (by decide);have q9:Fx (.int (v / 32)) (.int 2)=.ok (.int (v / 32%2)):=Bc (by decide);obtain⟨l,hpl,l0⟩:=xG (a:=v / 2048%4) (b:=v / 2048%100) (g:=g) (i:=v / 256%8) (by omega) (by omega) ⟨g0,g1⟩ (by omega) (by omega);obtain⟨w,uc,w0⟩:=xB (a:=v / 4096%5) (b:=g / 7) (i:=v / 32%2) (by omega) (by omega) (by omega) (by omega);have zn:D.tup [.int o,.int o',Ek l,.int w]=Bx ⟨o,o',l,w⟩:=rfl;refine⟨⟨o,o',l,w⟩,⟨o0,o1,p0,p1,lf,l0,w0.1,w0.2⟩,AX ?_⟩;apply wp_step
 ·simp_arith[sI,qB];rw[<-hg]
 try simp only[zah,zae]
 apply wp_step
 ·simp_arith[hv];rfl
 try simp only[zah,zae]
 apply wp_step
 ·simp_arith[q1];rfl
 try simp only[zah,zae]
 apply wp_step
 ·simp_arith[l9,q2,q3];rfl
 try simp only[zah,zae]
 apply wp_step
 ·simp_arith[me,q4,q5,ut,q6,hpl];rfl
 try simp only[zah,zae]
 simp_arith[mf,q8,d7,zm,q9,uc,zn];rfl
abbrev K2:=za5 Ju
def X7:FT "_law_road" 2 3 K2:=(za0 Ju).1
def X8:RV K2:=(za0 Ju).2
abbrev TZ (F:List D->M OT):Prop:=∀ns:List Int,ns.length<=63->(∀n∈ns,Sm n)->∃(m:Nat) (rs:List Road),1<=m/\m<=5/\rs.length<=17/\(∀r∈rs,F8 m r)/\∃t,F [.lst (ns.map D.int),.int 5,.int 16]=.ok t/\er t=Ac m rs
def L8:∃F,FT "_law_map" 3 3 F/\TZ F:=by
 refine⟨_,λ T=>Aq (k:=2) T.eM DH _ (λ f AZ A outer s H E hr=>(A2 (As 3 DH.nd rfl (zay rfl) (Ag (Gk (!0) (GX A4) (GX (BS A4 (!2)))))) (A2 (As 4 DH.nd rfl (zay rfl) (Ag (A9 A7.toXCall (EO T) (-hr) rfl (A1 (Ag (A9 A7.toXCall (Js T) (-hr) rfl (A1 (!0) (A1 A4 A6)) rfl)) (A1 A4 A6)) rfl))) (A2 (As 5 DH.nd rfl (Or.inr rfl) (BS A4 (BA (!4) (oY rfl rfl T.lS (!1) (BS A4 (BZ (CN rfl T.Ff (!3)) A4)))))) (A2 (B0 (Li (c:=true) (!hr) (!5) A4) (A5 (Ae (Qx (Ck (AH A4) (Ck (FY C2) C2))))) Ap) (A2 (Lr (NB:=["_law_k","_law_cell","_law_many"]) 6 [none,none,some 5] DH.nd rfl (zay rfl) rfl (Lp rfl T.Ed (!3)) rfl rfl (LJ (n:=2) rfl (Cc 0 (by decide) rfl rfl rfl (Cc 1 (by decide) rfl rfl rfl IK))) (λ _ _ _ _=>DY) (λ _ _ _ _=>(Ag (Cm (A9 (BK rfl).toXCall (X7 T) (-hr) rfl (A1 (!1) (A1 (!2) (A1 (!0) A6))) rfl))))) (A2 (B0 (DW.dt (Qg (Li (c:=true) (!hr) (BA (BZ (!4) A4) A4) A4) (Lk (FG (c:=true) (!hr) (!6) (Du A6))))) (A5 (As 6 DH.nd rfl (zay rfl) (Ag (LI (!6) (Du (A1 (Aa (!hr) (!6) (BA (BZ (!4) A4) (CN rfl T.Ff (!6)))) A6)))))) Ap) (A5 (Ae (AH (AM (A1 (!5) (A1 (!6) A6))))))))))))),?_⟩;intro ns jz aW;rfl';refine (λ h:∃t,_/\∃(m:Nat) (rs:List Road),1<=m/\m<=5/\rs.length<=17/\(∀r∈rs,F8 m r)/\er t=Ac m rs=>by
  obtain⟨t,h1,m,rs,h2,h3,h4,h5,h6⟩:=h;exact⟨m,rs,h2,h3,h4,h5,t,h1,h6⟩) (LL ?_)
 obtain⟨cs,jf⟩:∃cs,cs=(ns.drop 2).take 16:=⟨_,rfl⟩;have du:cs.length<=16:=by rw[jf,zbh];omega
 have sl:cS (some 2) (some (2+16)) (.lst (ns.map D.int))=.ok (.lst ((cs.map D.int).map .sh)):=by rw[jf,List.map_take,List.map_drop];exact pL _ 2 18
 obtain⟨z0,uk,ue⟩:=Jt ns 0 aW;have uu:EN [.lst (ns.map D.int),.int 0]=.ok (.sh (.int z0)):=ue;obtain⟨v,v0,hv⟩:=EQ z0 40 (by decide) (by decide);apply wp_step
 ·simp_arith[sl];rfl
 try simp only[zah,zae]
 apply wp_step
 ·simp_arith[uu,hv];rfl
 try simp only[zah,zae]
 have d2:EA (.int ((cs.map D.int).length:Int)) (.int 2)=.ok (.int ((cs.map D.int).length / 2)):=By ⟨by decide,by decide⟩;obtain⟨n,hn⟩:∃n:Int,n=(if 2+((cs.map D.int).length:Int) / 2<5 then 2+((cs.map D.int).length:Int) / 2 else 5):=⟨_,rfl⟩;have a8:2<=n/\n<=5:=by rw[hn];split<;>omega
 have q1:Fx (.int v) (.int n)=.ok (.int (v%n)):=Bc (by omega);obtain⟨m,hm⟩:∃m:Nat,(m:Int)=1+v%n:=⟨(1+v%n).toNat,by have:=zbt v (b:=n) (by omega);omega⟩;have o7:1<=m/\m<=5:=by
  have:=zbt v (b:=n) (by omega);have:=zbo v (b:=n) (by omega);omega
 refine wp_step (ρ':=[‹.lst (ns.map D.int)›,‹.int 5›,‹.int 16›,‹.lst (cs.map D.int)›,‹.int v›,‹.int m›,none]) (by
  simp_arith[d2];rw[<-hn,q1];simp_arith[];rw[<-hm]) ?_
 by_cases aG:(m:Int)=1
 ·simp_arith[decide_eq_true aG];refine⟨_,rfl,m,[],o7.1,o7.2,by simp,(λ r hr=>by cases hr),?_⟩;have:m=1:=by omega
  subst this;rfl
 apply wp_step
 ·simp_arith[decide_eq_false aG];rfl
 have gf:∀i:Nat,i<cs.length->∃r:Road,F8 m r/\K2 [.int (cs.getD i 0),.int m,.int i]=.ok (.sh (Bx r)):=λ i hi=>X8 (cs.getD i 0) i m (by omega) (by omega) (by omega) (by omega);obtain⟨f,hf⟩:∃f:Nat->Road,∀i:Nat,i<cs.length->F8 m (f i)/\K2 [.int (cs.getD i 0),.int m,.int i]=.ok (.sh (Bx (f i))):=⟨λ i=>if h:i<cs.length then za5 (gf i h) else ⟨0,0,none,0⟩,λ i hi=>by
  dsimp only;rw[dif_pos hi];exact za0 (gf i hi)⟩
 have al:((zb9 cs.length).map λ i:Nat=>D.tup [.int (i:Int),.int (cs.getD i 0)]).length<=1000:=by rw[za2,zc9];omega
 simp_arith[Yl,if_pos al];rw[BM (λ i:Nat=>Bx (f i)) (λ i hi=>⟨_,rfl,rfl,by
  have h1:=(hf i (zcf.mp hi)).2;simp_arith[h1]⟩)]
 simp_arith[];have HD:∀S:List D,S=S:=λ _=>rfl;refine wp_step (ρ':=[‹.lst (ns.map D.int)›,‹.int 5›,‹.int 16›,‹.lst (cs.map D.int)›,‹.int v›,‹.int m›,‹.lst (((zb9 cs.length).map f).map Bx)›]) (by rw[zby];rfl) ?_;obtain⟨cg,iy⟩:∃cg,cg=(zb9 cs.length).map f:=⟨_,rfl⟩;have e7:∀r∈cg,F8 m r:=λ r hr=>by
  rw[iy] at hr;obtain⟨i,hi,rfl⟩:=zaq.mp hr;exact (hf i (zcf.mp hi)).1
 have jk:cg.length<=16:=by rw[iy,za2,zc9];exact du
 rw[<-iy];refine BU (I:=λ ρ=>∃rs:List Road,ρ=[‹.lst (ns.map D.int)›,‹.int 5›,‹.int 16›,‹.lst (cs.map D.int)›,‹.int v›,‹.int m›,‹.lst (rs.map Bx)›]/\rs.length<=17/\∀r∈rs,F8 m r) ?_ ?_
 ·have l9:EA (.int v) (.int 16)=.ok (.int (v / 16)):=By ⟨by decide,by decide⟩;have q3:Fx (.int (v / 16)) (.int 3)=.ok (.int (v / 16%3)):=Bc (by decide);have zo:EA (.int v) (.int 64)=.ok (.int (v / 64)):=By ⟨by decide,by decide⟩;have ad:=O5 cg;by_cases c1:v / 16%3=1
  ·by_cases c2:cg=[]
   ·rw[decide_eq_false (by simp[c2])] at ad;refine Bp (ρ':=_) (by simp_arith[l9,q3,decide_eq_true c1,ad];rfl) ⟨cg,rfl,by omega,e7⟩
   ·rw[decide_eq_true c2] at ad;have l7:0<(cg.map Bx).length:=by rw[za2];exact List.length_pos_iff.mpr c2
    obtain⟨p1,y,hy,p2⟩:=kH l7 (show 0<=v / 64 by omega);obtain⟨r,hr,rfl⟩:=zaq.mp hy;have hpl:Ly (.lst (cg.map Bx)) (.lst [Bx r])=.ok (.lst (((cg++[r]).map Bx).map .sh)):=by rw[zat];exact Mr (by rw[za2];simp;omega)
    refine Bp (ρ':=[‹.lst (ns.map D.int)›,‹.int 5›,‹.int 16›,‹.lst (cs.map D.int)›,‹.int v›,‹.int m›,‹.lst ((cg++[r]).map Bx)›]) (by
     simp_arith[l9,q3,decide_eq_true c1,ad,zo,p1,p2,hpl];rfl) ⟨cg++[r],rfl,by rw[zai];simp;omega,λ r2 h2=>by
     rcases zal.mp h2 with h|h
     ·exact e7 r2 h
     ·rw[za9.mp h];exact e7 r hr⟩
  ·refine Bp (ρ':=_) (by simp_arith[l9,q3,decide_eq_false c1];try rfl) ⟨cg,rfl,by omega,e7⟩
 ·rintro ρ ⟨rs,rfl,hl,Aw⟩;simp_arith[];exact⟨m,rs,o7.1,o7.2,hl,Aw,rfl⟩
abbrev X9:=za5 L8
def YH:FT "_law_map" 3 3 X9:=(za0 L8).1
def YI:TZ X9:=(za0 L8).2
abbrev Ou (F:List D->M OT):Prop:=∀(c:Int) (m:Nat) (k:Int),m<=60->0<=k->k<=100->∃L:List Int,L.Perm (Bu m)/\F [.int c,.int m,.int k]=.ok (.lst ((L.map D.int).map .sh))
def Hy:∃F,FT "_law_order" 2 3 F/\Ou F:=by
 refine⟨_,λ T=>Aq (k:=1) T.WR Ho _ (λ f AZ A outer s H E hr=>(A2 (Bt 3 Ho.nd rfl (zay rfl) (FY C2)) (A2 (C1 A7.toXCall.own rfl (Gf (c:=true) rfl T.Hq (!1)) (AS 4 Ho.nd rfl (zay rfl)) (A5 (Tf 3 (pv 3) (BA (Ag (A9 A7.toXCall (EO T) (-hr) rfl (A1 (!0) (A1 (BS (!2) (!4)) A6)) rfl)) (BS (!4) A4)) (!4)))) (A5 (CJ 3 (pv 3)))))),?_⟩;intro c m k hm ym hk1;rfl';refine (λ h:∃t,_/\∃L:List Int,t=OT.lst ((L.map D.int).map .sh)/\L.Perm (Bu m)=>by
  obtain⟨t,h1,L,rfl,h2⟩:=h;exact⟨L,h2,h1⟩) (LL ?_)
 have hr:=Lo (n:=m) (by omega);apply wp_step
 ·rfl
 try simp only[zah,zae]
 refine BU (I:=λ ρ=>∃(L:List Int) (s3:Option Cl),ρ=[‹.int c›,‹.int m›,‹.int k›,some (.own (L.map D.int)),s3]/\L.Perm (Bu m)) ?_ ?_
 ·simp_arith[hr];refine C3 (λ i ρ=>i<=m/\∃(L:List Int) (s3:Option Cl),ρ=[‹.int c›,‹.int m›,‹.int k›,some (.own (L.map D.int)),s3]/\L.Perm (Bu i)) ⟨zbb _,[],none,rfl,.refl _⟩ ?_ ?_
  ·rintro i d ρ hd ⟨_,L,s3,rfl,hL⟩;obtain⟨c6,hi⟩:=GY hd;rw[Int.zero_add] at c6;subst c6;have hlen:=IV hL;refine⟨_,rfl,?_⟩;obtain⟨v,v0,hv⟩:=EQ c (k+i) (by omega) (by omega);have aG:Fx (.int v) (.int ((i:Int)+1))=.ok (.int (v%((i:Int)+1))):=Bc (by omega);have b0:0<=v%((i:Int)+1):=zbt _ (by omega);have b1:v%((i:Int)+1)<(i:Int)+1:=zbo _ (by omega);refine Bp (ρ':=[‹.int c›,‹.int m›,‹.int k›,some (.own ((L.take (v%((i:Int)+1)).toNat++(i:Int)::L.drop (v%((i:Int)+1)).toNat).map D.int)),‹.int i›]) ?_ ⟨by omega,_,_,rfl,dN hL _⟩;simp_arith[hv,aG];rw[if_pos ⟨b0,by rw[za2];omega,by rw[za2];omega⟩];simp only[zat,za6,List.map_take,List.map_drop];rfl
  ·rintro ρ ⟨_,L,s3,rfl,hL⟩;exact⟨L,s3,rfl,by rw[CP] at hL;exact hL⟩
 ·rintro ρ ⟨L,s3,rfl,hL⟩;exact⟨_,rfl,L,rfl,hL⟩
abbrev RW:=za5 Hy
def Vc:FT "_law_order" 2 3 RW:=(za0 Hy).1
def Vd:Ou RW:=(za0 Hy).2
abbrev RX (F:List D->M OT):Prop:=∀c:Co,F [cst c,cst c]=.ok (.sh (.bl true))
def Jv:∃F,FT "_law_cost" 1 2 F/\RX F:=by
 refine⟨_,λ T=>Aq (k:=0) T.Yv Od _ (λ f AZ A outer s H E hr=>(A2 (B0 (EZ (c:=true) (!1)) (A5 (Ae (AH (Up (!0))))) Ap) (A2 (B0 (DW.dt (Dg (Bs (B8 (c:=true) (Dv (GW _) rfl T.AY rfl T.MM (by decide +kernel) (!0)))) (Ct (FG (c:=true) (!hr) (CN rfl T.Ff (!0)) A4)))) (A5 (Ae (AH D3))) Ap) (A2 (C1 A7.toXCall.own rfl (xD (!0)) (AS 2 Od.nd rfl (zay rfl)) (A5 (B0 (DW.dt (Dg (Bs (B8 (c:=true) (Dv (Qh _) rfl T.AY rfl T.ZW (by decide +kernel) (!2)))) (Ct (B8 (c:=true) (Dv (Ni _) rfl T.AY rfl T.YA (by decide +kernel) (!2)))))) (A5 (Ae (AH D3))) Ap))) (A5 (Ae (AH (VR (!hr) (!0) (!1))))))))),?_⟩;intro c;rfl';refine AX ?_;cases c with
 |none=>rfl
 |some p =>
  have hn:Bl (cst (some p))=false:=rfl;have ht:cst (some p)=.tup [.int p.1,.int p.2]:=rfl;have dh:=Mo (some p) (some p);apply wp_step
  ·simp_arith[hn];rfl
  apply wp_step
  ·simp_arith[ht];rfl
  refine BU (I:=λ ρ=>∃s,ρ=[‹cst (some p)›,‹cst (some p)›,s]) ?_ ?_
  ·simp_arith[ht];refine C3 (λ i ρ=>∃s,ρ=[‹cst (some p)›,‹cst (some p)›,s]) ⟨none,rfl⟩ ?_ ?_
   ·rintro i d ρ hd ⟨s,rfl⟩;obtain⟨x,rfl⟩:∃x,d=D.int x:=by
     rcases i with _|_|i
     ·cases hd;exact⟨_,rfl⟩
     ·cases hd;exact⟨_,rfl⟩
     ·cases hd
    refine⟨_,rfl,?_⟩;refine Bp (ρ':=_) (by simp_arith[];rfl) ⟨_,rfl⟩
   ·rintro ρ ⟨s,rfl⟩;exact⟨s,rfl⟩
  ·rintro ρ ⟨s,rfl⟩;simp_arith[dh,decide_true];rfl
abbrev U0:=za5 Jv
def Xa:FT "_law_cost" 1 2 U0:=(za0 Jv).1
def Xb:RX U0:=(za0 Jv).2
abbrev RY (F:List D->M OT):Prop:=∀(m:Nat) (rs:List Road) (s g:Int) (c:Int×Int) (N:List Nat),R4 rs s N g c.1->(N.length:Int)=c.2->F [Ac m rs,.int s,.int g,Fe N]=.ok (.sh (cst (some c)))
def Jw:∃F,FT "_law_walk" 1 4 F/\RY F:=by
 refine⟨_,λ T=>Aq (k:=0) T.Yw Bv _ (λ f AZ A outer s H E hr=>(A2 (As 4 Bv.nd rfl (zay rfl) (!1)) (A2 (As 5 Bv.nd rfl (zay rfl) (AM (A1 A4 (A1 A4 A6)))) (A2 (B0 (Bs (B8 (c:=true) (Dv (Nh _) rfl T.AY rfl T.CU (by decide +kernel) (!3)))) (A5 (Ae (AH CM))) Ap) (A2 (C1 A7.toXCall.own rfl (B2 (!3)) (AS 6 Bv.nd rfl (zay rfl)) (A2 (B0 (DW.dt (Dg (Bs (B8 (c:=true) (Dv (Qh _) rfl T.AY rfl T.ZW (by decide +kernel) (!6)))) (Dg (B8 (c:=true) (Dv (Ni _) rfl T.AY rfl T.YA (by decide +kernel) (!6))) (Ct (Bs (eE (c:=true) rK fR A4 (!6) (CN rfl T.Ff (Aa (!hr) (!0) A4)))))))) (A5 (Ae (AH CM))) Ap) (A2 (iO (Aa (!hr) (Aa (!hr) (!0) A4) (!6)) (Ur (n:=4) rfl (C7 (AS 7 Bv.nd rfl (zay rfl)) (C7 (AS 8 Bv.nd rfl (zay rfl)) (C7 (AS 9 Bv.nd rfl (zay rfl)) (C7 (AS 10 Bv.nd rfl (zay rfl)) Pc)))))) (A2 (B0 (DW.dt (Dg (FG (c:=true) (!hr) (!7) (!4)) (Ct (EZ (c:=true) (!9))))) (A5 (Ae (AH CM))) Ap) (A2 (As 5 Bv.nd rfl (zay rfl) (AM (A1 (BS (Aa (!hr) (!5) A4) (!9)) (A1 (BS (Aa (!hr) (!5) A4) A4) A6)))) (A5 (As 4 Bv.nd rfl (zay rfl) (!8)))))))) (A2 (B0 (FG (c:=true) (!hr) (!4) (!2)) (A5 (Ae (AH CM))) Ap) (A5 (Ae (AH (!5)))))))))),?_⟩;intro m rs s g c N ba d8;rfl';refine AX ?_;have n1:AB (Ac m rs) (.int 1)=.ok (.lst (rs.map Bx)):=rfl;have eN:Fe N=.lst (N.map λ n:Nat=>D.int (n:Int)):=rfl;refine wp_step (ρ':=[‹Ac m rs›,‹.int s›,‹.int g›,‹Fe N›,‹.int s›,none,none,none,none,none,none]) (by simp_arith[];try rfl) ?_;refine wp_step (ρ':=[‹Ac m rs›,‹.int s›,‹.int g›,‹Fe N›,‹.int s›,‹.tup [.int 0,.int 0]›,none,none,none,none,none]) (by simp_arith[];try rfl) ?_;refine wp_step (ρ':=[‹Ac m rs›,‹.int s›,‹.int g›,‹Fe N›,‹.int s›,‹.tup [.int 0,.int 0]›,none,none,none,none,none]) (by simp_arith[eN];try rfl) ?_;refine BU (I:=λ ρ=>∃s6 s7 s8 s9 gh:Option Cl,ρ=[‹Ac m rs›,‹.int s›,‹.int g›,‹Fe N›,‹.int g›,‹.tup [.int c.1,.int (N.length:Nat)]›,s6,s7,s8,s9,gh]) ?_ ?_
 ·simp_arith[eN];refine C3 (λ i ρ=>∃(x t a:Int) (s6 s7 s8 s9 gh:Option Cl),ρ=[‹Ac m rs›,‹.int s›,‹.int g›,‹Fe N›,‹.int x›,‹.tup [.int a,.int (i:Nat)]›,s6,s7,s8,s9,gh]/\R4 rs x (N.drop i) g t/\a+t=c.1) ⟨s,c.1,0,none,none,none,none,none,rfl,by rw[zd9];exact ba,by omega⟩ ?_ ?_
  ·rintro i d ρ hd ⟨x,t,a,s6,s7,s8,s9,gh,rfl,hc,hs⟩;obtain⟨n,hn,rfl⟩:=BB hd;refine⟨_,rfl,?_⟩;have zp:N.drop i=n::N.drop (i+1):=by rw[List.drop_eq_getElem?_toList_append,hn];rfl
   rw[zp] at hc;obtain⟨r,l,t',g1,g2,g3,g4,g5⟩:=hc.inv;have hnl:=(zaf.mp g1).1;have q1:decide ((0:Int)<=(n:Int))=true:=decide_eq_true (by omega);have q2:decide ((n:Int)<((rs.map Bx).length:Int))=true:=decide_eq_true (by rw[za2];omega);have wv:AB (.lst (rs.map Bx)) (.int (n:Int))=.ok (Bx r):=Hi (by omega) (by rw[zbj];exact g1);have er:Bx r=.tup [.int r.a,.int r.b,.int l,.int r.w]:=by unfold Bx;rw[g3];rfl
   have zq:Xk 16 (.int r.a) (.int x)=.ok (.bl false):=by rw[g2];exact Qo (Cu (n:=16) x)
   have aF:Bl (.int l)=false:=rfl;have t0:AB (.tup [.int a,.int (i:Nat)]) (.int 0)=.ok (.int a):=rfl;have t1:AB (.tup [.int a,.int (i:Nat)]) (.int 1)=.ok (.int (i:Nat)):=rfl;refine wp_step (ρ':=[‹Ac m rs›,‹.int s›,‹.int g›,‹Fe N›,‹.int x›,‹.tup [.int a,.int (i:Nat)]›,‹.int n›,s7,s8,s9,gh]) (by simp_arith[n1,q1,q2,EG,if_true];try rfl) ?_;refine wp_step (ρ':=[‹Ac m rs›,‹.int s›,‹.int g›,‹Fe N›,‹.int x›,‹.tup [.int a,.int (i:Nat)]›,‹.int n›,‹.int r.a›,‹.int r.b›,‹.int l›,‹.int r.w›]) (by
    rw[er] at wv;simp_arith[n1,wv];try rfl) ?_
   refine wp_step (ρ':=[‹Ac m rs›,‹.int s›,‹.int g›,‹Fe N›,‹.int x›,‹.tup [.int a,.int (i:Nat)]›,‹.int n›,‹.int r.a›,‹.int r.b›,‹.int l›,‹.int r.w›]) (by simp_arith[zq,aF];try rfl) ?_;refine wp_step (ρ':=[‹Ac m rs›,‹.int s›,‹.int g›,‹Fe N›,‹.int x›,‹.tup [.int (a+l),.int ((i:Nat)+1)]›,‹.int n›,‹.int r.a›,‹.int r.b›,‹.int l›,‹.int r.w›]) (by simp_arith[t0,t1];try rfl) ?_;refine Bp (ρ':=[‹Ac m rs›,‹.int s›,‹.int g›,‹Fe N›,‹.int r.b›,‹.tup [.int (a+l),.int ((i:Nat)+1)]›,‹.int n›,‹.int r.a›,‹.int r.b›,‹.int l›,‹.int r.w›]) (by simp_arith[];try rfl) ⟨r.b,t',a+l,_,_,_,_,_,rfl,g4,by omega⟩
  ·rintro ρ ⟨x,t,a,s6,s7,s8,s9,gh,rfl,hc,hs⟩;rw[za2,zcs] at hc;rw[za2];cases hc;have:a=c.1:=by omega
   subst this;exact⟨s6,s7,s8,s9,gh,rfl⟩
 ·rintro ρ ⟨s6,s7,s8,s9,gh,rfl⟩;have uv:Xk 16 (.int g) (.int g)=.ok (.bl false):=Qo (Cu (n:=16) g);apply wp_step
  ·simp_arith[uv];rfl
  simp_arith[d8];rfl
abbrev U1:=za5 Jw
def Xc:FT "_law_walk" 1 4 U1:=(za0 Jw).1
def Xd:RY U1:=(za0 Jw).2
abbrev RZ (F:List D->M OT):Prop:=∀(m:Nat) (rs:List Road) (i:Int),rs.length<=60->0<=i->i<rs.length->F [Ac m rs,.int i,.Av]=.ok (.tup [.sh (.int m),.lst (((Hm rs i).map Bx).map .sh)])
def Jx:∃F,FT "_law_with" 1 3 F/\RZ F:=by
 refine⟨_,λ T=>Aq (k:=0) T.Yx Ec _ (λ f AZ A outer s H E hr=>(A2 (iO (Aa (!hr) (Aa (!hr) (!0) A4) (!1)) (Ur (n:=4) rfl (C7 (AS 3 Ec.nd rfl (zay rfl)) (C7 (AS 4 Ec.nd rfl (zay rfl)) (C7 (AS 5 Ec.nd rfl (zay rfl)) (C7 (AS 6 Ec.nd rfl (zay rfl)) Pc)))))) (A5 (Ae (Qx (Ck (AH (Aa (!hr) (!0) A4)) (Ck (LI (Ag (LI (Ag (Gk (Aa (!hr) (!0) A4) Ln (GX (!1)))) (Du (A1 (AM (A1 (!3) (A1 (!4) (A1 (!2) (A1 (!6) A6))))) A6)))) (Ag (Gk (Aa (!hr) (!0) A4) (GX (BS (!1) A4)) Ln))) C2))))))),?_⟩;intro m rs i hl h0 h1;rfl';refine AX ?_;have n0:AB (Ac m rs) (.int 0)=.ok (.int m):=rfl;have n1:AB (Ac m rs) (.int 1)=.ok (.lst (rs.map Bx)):=rfl;obtain⟨k,rfl⟩:∃k:Nat,(k:Int)=i:=⟨i.toNat,by omega⟩;obtain⟨r,hr⟩:∃r,rs[k]?=some r:=⟨_,za7 (by omega)⟩;have x1:AB (.lst (rs.map Bx)) (.int (k:Int))=.ok (Bx r):=Hi (by omega) (by rw[zbj];exact hr);have ec:Hm rs (k:Int)=rs.take k++[Ie r]++rs.drop (k+1):=by
  unfold Hm;rw[zbj,hr];dsimp only;rw[List.set_eq_take_append_cons_drop,if_pos (zaf.mp hr).1,zbi];rfl
 have s1:cS none (some (k:Int)) (.lst (rs.map Bx))=.ok (.lst (((rs.take k).map Bx).map .sh)):=by rw[List.map_take];exact W8 _ k
 have s2:cS (some ((k:Int)+1)) none (.lst (rs.map Bx))=.ok (.lst (((rs.drop (k+1)).map Bx).map .sh)):=by rw[List.map_drop];exact QC _ (k+1)
 have er:D.tup [.int r.a,.int r.b,.Av,.int r.w]=Bx (Ie r):=rfl;have p1:Ly (.lst ((rs.take k).map Bx)) (.lst [Bx (Ie r)])=.ok (.lst (((rs.take k++[Ie r]).map Bx).map .sh)):=by rw[zat];exact Mr (by rw[za2,zbh];simp;omega)
 have p2:Ly (.lst ((rs.take k++[Ie r]).map Bx)) (.lst ((rs.drop (k+1)).map Bx))=.ok (.lst (((rs.take k++[Ie r]++rs.drop (k+1)).map Bx).map .sh)):=by
  rw[zat (l₁:=rs.take k++[Ie r])];exact Mr (by rw[za2,za2,zai,zbh,zck];simp;omega)
 refine wp_step (ρ':=[‹Ac m rs›,‹.int k›,‹.Av›,‹.int r.a›,‹.int r.b›,‹Ek r.l›,‹.int r.w›]) (by simp_arith[n1,x1];try rfl) ?_;rw[ec];simp_arith[n0,n1,s1,s2,er,p1,p2];exact⟨_,rfl,rfl⟩
abbrev U2:=za5 Jx
def Xe:FT "_law_with" 1 3 U2:=(za0 Jx).1
def Xf:RZ U2:=(za0 Jx).2
abbrev S0 (F:List D->M OT):Prop:=∀(m:Nat) (rs:List Road),F [Ac m rs]=.ok (.tup [.sh (.int m),.lst ((rs.map Bx).map .sh)])
def Jy:∃F,FT "_law_copy" 1 1 F/\S0 F:=by
 refine⟨_,λ T=>Aq (k:=0) T.Yy WK _ (λ f AZ A outer s H E hr=>(A5 (Ae (Qx (Ck (AH (Aa (!hr) (!0) A4)) (Ck (EF rfl T.CU (Aa (!hr) (!0) A4)) C2)))))),?_⟩;intro m rs;rfl';refine AX ?_;have i0:AB (Ac m rs) (.int 0)=.ok (.int m):=rfl;have i1:AB (Ac m rs) (.int 1)=.ok (.lst (rs.map Bx)):=rfl;simp_arith[i0,i1];exact⟨_,rfl,rfl⟩
abbrev U3:=za5 Jy
def Jz:FT "_law_copy" 1 1 U3:=(za0 Jy).1
def Ov:S0 U3:=(za0 Jy).2
abbrev S1 (F:List D->M OT):Prop:=∀(m:Nat) (rs:List Road) (x:Int),rs.length<=60->0<=x->∃S:List Int,S.length<=20/\(∀i∈S,0<=i/\i<rs.length)/\F [Ac m rs,.int x]=.ok (.lst ((S.map D.int).map .sh))
def JA:∃F,FT "_law_shut" 1 2 F/\S1 F:=by
 refine⟨_,λ T=>Aq (k:=0) T.Yz J8 _ (λ f AZ A outer s H E hr=>(A2 (Bt 2 J8.nd rfl (zay rfl) (FY C2)) (A2 (C1 A7.toXCall.own rfl (Gf (c:=true) rfl T.Hq (JG (BA (!1) A4) (oE rfl T.ZW (zZ (!hr) (Aa (!hr) (!0) A4) (Du A6))))) (AS 3 J8.nd rfl (zay rfl)) (A5 (Tf 2 (pv 2) (Z9 (jA (c:=true) (BA (BZ (!1) A4) (BS (CN rfl T.Ff (!2)) A4)))) (BA (BZ (!1) (BS (JG A4 (!3)) A4)) (CN rfl T.Ff (Aa (!hr) (!0) A4)))))) (A5 (CJ 2 (pv 2)))))),?_⟩;intro m rs x hl h0;rfl';refine (λ h:∃t,_/\∃S:List Int,t=OT.lst ((S.map D.int).map .sh)/\S.length<=20/\(∀i∈S,0<=i/\i<(rs.length:Int))=>by
  obtain⟨t,h1,S,rfl,h2,h3⟩:=h;exact⟨S,h2,h3,h1⟩) (LL ?_)
 have n0:AB (Ac m rs) (.int 0)=.ok (.int m):=rfl;have n1:AB (Ac m rs) (.int 1)=.ok (.lst (rs.map Bx)):=rfl;have q1:Fx (.int x) (.int 5)=.ok (.int (x%5)):=Bc (by decide);have q2:EA (.int x) (.int 8)=.ok (.int (x / 8)):=By ⟨by decide,by decide⟩;have ad:=O5 rs;have jk:(((rs.map Bx).length:Int))=(rs.length:Int):=by rw[za2]
 obtain⟨n,hn,a8,hmul⟩:∃n:Nat,n<=4/\(0<n->rs≠[])/\((Z7 [.bl (decide (rs≠[]))]).bind λ y=>IA (.int (x%5)) y)=.ok (.int (n:Int)):=by
  by_cases c:rs=[]
  ·refine⟨0,by omega,λ z=>absurd z (by omega),?_⟩;rw[decide_eq_false (λ z=>z c)];have:IA (.int (x%5)) (.int 0)=.ok (.int (x%5*0)):=F1 (.inr (.inr (.inr ⟨by omega,by omega⟩)));rw[Int.mul_zero] at this;exact this
  ·refine⟨(x%5).toNat,by omega,λ _=>c,?_⟩;rw[decide_eq_true c];have:IA (.int (x%5)) (.int 1)=.ok (.int (x%5*1)):=F1 (.inr (.inr (.inr ⟨by omega,by omega⟩)));rw[Int.mul_one] at this;rw[show (((x%5).toNat:Nat):Int)=x%5 by omega];exact this
 have hr:=Lo (n:=n) (by omega);apply wp_step
 ·rfl
 try simp only[zah,zae]
 refine BU (I:=λ ρ=>∃(S:List Int) (s3:Option Cl),ρ=[‹Ac m rs›,‹.int x›,some (.own (S.map D.int)),s3]/\S.length<=20/\(∀i∈S,0<=i/\i<(rs.length:Int))) ?_ ?_
 ·simp_arith[q1,n1,ad,hmul,hr];refine C3 (λ i ρ=>∃(S:List Int) (s3:Option Cl),ρ=[‹Ac m rs›,‹.int x›,some (.own (S.map D.int)),s3]/\S.length=i/\(∀i∈S,0<=i/\i<(rs.length:Int))) ⟨[],none,rfl,rfl,λ i hi=>by cases hi⟩ ?_ ?_
  ·rintro i d ρ hd ⟨S,s3,rfl,eh,hS⟩;obtain⟨c6,hi⟩:=GY hd;rw[Int.zero_add] at c6;subst c6;have zr:=a8 (by omega);have aY:0<rs.length:=List.length_pos_iff.mpr zr;refine⟨_,rfl,?_⟩;have zt:(((S.map D.int).length:Int)+1)=(i:Int)+1:=by rw[za2,eh]
   have q3:Fx (.int (x / 8)) (.int ((i:Int)+1))=.ok (.int (x / 8%((i:Int)+1))):=Bc (by omega);have q4:IA (.int 3) (.int (i:Int))=.ok (.int (3*(i:Int))):=F1 (.inr (.inr (.inr ⟨by omega,by omega⟩)));have q5:EA (.int x) (.int (3*(i:Int)+5))=.ok (.int (x / (3*(i:Int)+5))):=By ⟨by omega,by omega⟩;have q6:Fx (.int (x / (3*(i:Int)+5))) (.int (rs.length:Int))=.ok (.int (x / (3*(i:Int)+5)%rs.length)):=Bc (by omega);have b0:0<=x / 8%((i:Int)+1):=zbt _ (by omega);have b1:x / 8%((i:Int)+1)<(i:Int)+1:=zbo _ (by omega);have c0:0<=x / (3*(i:Int)+5)%(rs.length:Int):=zbt _ (by omega);have c1:x / (3*(i:Int)+5)%(rs.length:Int)<rs.length:=zbo _ (by omega);obtain⟨y,hy⟩:∃y,y=x / (3*(i:Int)+5)%(rs.length:Int):=⟨_,rfl⟩;rw[<-hy] at q6 c0 c1;refine Bp (ρ':=[‹Ac m rs›,‹.int x›,some (.own ((S.take (x / 8%((i:Int)+1)).toNat++y::S.drop (x / 8%((i:Int)+1)).toNat).map D.int)),‹.int i›]) ?_ ⟨_,_,rfl,by rw[zai,za8,zbh,zck];omega,λ z hz=>by
    rcases zal.mp hz with hz|hz
    ·exact hS z (zc0 hz)
    ·rcases zac.mp hz with rfl|hz
     ·exact⟨c0,c1⟩
     ·exact hS z (List.mem_of_mem_drop hz)⟩
   simp_arith[n1,jk,zt,q2,q3,q4,q5,q6];rw[if_pos ⟨b0,by rw[za2];omega,by rw[za2];omega⟩];simp only[zat,za6,List.map_take,List.map_drop];rfl
  ·rintro ρ ⟨S,s3,rfl,eh,hS⟩;rw[CP] at eh;exact⟨S,s3,rfl,by omega,hS⟩
 ·rintro ρ ⟨S,s3,rfl,eh,hS⟩;exact⟨_,rfl,S,rfl,eh,hS⟩
abbrev U4:=za5 JA
def Xg:FT "_law_shut" 1 2 U4:=(za0 JA).1
def Xh:S1 U4:=(za0 JA).2
abbrev Ox (F:List D->M OT):Prop:=∀(m:Nat) (rs:List Road) (x:Co) (N N0:List Nat) (T:List Co) (s g:Nat),(∀c,x=some c->R4 rs s N g c.1/\(N.length:Int)=c.2)->F [Cg x N T,Cg x N0 T,Ac m rs,.int s,.int g]=.ok (.sh (.bl true))
def Hz:∃F,FT "_law_alike" 2 5 F/\Ox F:=by
 refine⟨_,λ T=>Aq (k:=1) T.WS MI _ (λ f AZ A outer s H E hr=>(A2 (B0 (DW.dt (Dg (EZ (c:=true) (!1)) (Ct (EZ (c:=true) (!0))))) (A5 (Ae (AH (KJ (Up (!1)) (Ng (Up (!0))))))) Ap) (A2 (B0 (DW.dt (Dg (Bs (B8 (c:=true) (Dv (GW _) rfl T.AY rfl T.MM (by decide +kernel) (!0)))) (Dg (FG (c:=true) (!hr) (CN rfl T.Ff (!0)) A4) (Ct (FG (c:=true) (!hr) (Aa (!hr) (!0) A4) (Aa (!hr) (!1) A4)))))) (A5 (Ae (AH D3))) Ap) (A2 (As 5 MI.nd rfl (zay rfl) (Ag (A9 A7.toXCall (Xc T) (-hr) rfl (A1 (!2) (A1 (!3) (A1 (!4) (A1 (Aa (!hr) (!0) A4) A6)))) rfl))) (A5 (Ae (AH (KJ (nV (!5)) (KJ (Ag (A9 A7.toXCall (Xa T) (-hr) rfl (A1 (Aa (!hr) (!0) A4) (A1 (!5) A6)) rfl)) (Ng (VR (!hr) (Aa (!hr) (!0) A4) (Aa (!hr) (!1) A4)))))))))))),?_⟩;intro m rs x N N0 T s g h;rfl';refine AX ?_;cases x with
 |none=>rfl
 |some c =>
  obtain⟨h1,h2⟩:=h c rfl;have a1:Bl (Cg (some c) N T)=false:=rfl;have a2:Bl (Cg (some c) N0 T)=false:=rfl;have a3:K9 "tuple" (Cg (some c) N T)=.ok (.bl true):=rfl;have a4:XN [Cg (some c) N T]=.ok (.int 3):=rfl;have b0:AB (Cg (some c) N T) (.int 0)=.ok (cst (some c)):=rfl;have b1:AB (Cg (some c) N T) (.int 1)=.ok (Fe N):=rfl;have b2:AB (Cg (some c) N T) (.int 2)=.ok (.lst (T.map cst)):=rfl;have c0:AB (Cg (some c) N0 T) (.int 0)=.ok (cst (some c)):=rfl;have c2:AB (Cg (some c) N0 T) (.int 2)=.ok (.lst (T.map cst)):=rfl;have ad:Xk 16 (.lst (T.map cst)) (.lst (T.map cst))=.ok (.bl false):=Qo ((qR T).le (by decide));have hw:=Xd m rs s g c N h1 h2;have hc:=Xb (some c);have dh:=Mo (some c) (some c);rw[decide_eq_true rfl] at dh;have aF:Bl (cst (some c))=false:=rfl;apply wp_step
  ·simp_arith[a1,a2];rfl
  apply wp_step
  ·simp_arith[a3,a4,b2,c2,ad,EG];rfl
  apply wp_step
  ·simp_arith[b1,hw];rfl
  try simp only[zah,zae]
  simp_arith[b0,c0,aF,hc,dh,EG];rfl
abbrev S2:=za5 Hz
def ER:FT "_law_alike" 2 5 S2:=(za0 Hz).1
def HA:Ox S2:=(za0 Hz).2
abbrev JB (F:List D->M OT):Prop:=F [.Av]=.ok (.sh .Av)
def Ey:∃F:List D->M OT,(∀ {P w K mg base},Txt K mg->rW P w K mg base "_law_spoiled" 1 1 F)/\JB F:=by
 refine⟨_,λ T=>Aq (k:=0) T.Ki J9 _ (λ f AZ A outer s H E hr=>(A5 (B0 (H9 (Lj (c:=true) (!0))) (A2 (XZ (Pf (B4 0 (pv 0)) A4) (AH A4)) (A5 (TB (Pf (B4 0 (pv 0)) A4)))) Ap))),?_⟩;rfl
abbrev G9:List D->M OT:=za5 Ey
def HZ:Txt K mg->rW P w K mg base "_law_spoiled" 1 1 G9:=(za0 Ey).1
def P6:JB G9:=(za0 Ey).2
abbrev Ky (F:OT->List D->M (OT×OT)):Prop:=∀(c:Int×Int) (N:List Nat) (T:List Co),N.length<=900->∃t,F (FD (some c) N T) []=.ok (t,.sh .Av)
def Fw:∃F:OT->List D->M (OT×OT),(∀ {P w K mg base},Txt K mg->LG P w K mg base "_law_spoiled" 1 1 F)/\Ky F:=by
 refine⟨_,λ T=>Qz (k:=0) T.Ki J9 _ (λ f AZ A outer s H E hr=>(A5 (B0 (H9 (Lj (c:=true) (!0))) (A2 (XZ (Pf (B4 0 (pv 0)) A4) (AH A4)) (A5 (TB (Pf (B4 0 (pv 0)) A4)))) Ap))),?_⟩;intro c N T hN;dsimp only;refine⟨.tup [.sh (cst (some c)),.lst ((N.map λ n:Nat=>D.int (n:Int)).map .sh++[.sh (.int 0)]),.lst []],?_⟩;have e0:D8 ["_law_found"] (FD (some c) N T) []=[some (.ow (.tree (some 0) (FD (some c) N T)))]:=rfl;rw[e0];refine QV ?_;have hl:((N.map λ n:Nat=>D.int (n:Int)).map OT.sh).length<1000:=by rw[za2,za2];omega
 have zu:=K1 (some c) N T;have aF:Bl (Cg (some c) N T)=false:=rfl;have p1:vS 0 [some (.ow (.tree (some 0) (FD (some c) N T)))] [] (.int 1)=.ok [1]:=rfl;have l1:E8 0 [some (.ow (.tree (some 0) (FD (some c) N T)))] [1]=.ok ((N.map λ n:Nat=>D.int (n:Int)).map .sh):=rfl;refine Bp (ρ':=[some (.ow (.tree (some 0) (.tup [.sh (cst (some c)),.lst ((N.map λ n:Nat=>D.int (n:Int)).map .sh++[.sh (.int 0)]),.lst []])))]) (by
  simp_arith[zu,aF,if_true,p1,l1,if_pos hl,cB];rfl) ⟨rfl,rfl⟩
abbrev HB:=za5 Fw
def JC:Txt K mg->LG P w K mg base "_law_spoiled" 1 1 HB:=(za0 Fw).1
def S4:Ky HB:=(za0 Fw).2
abbrev JD (F:List D->M OT):Prop:=∀(m:Nat) (rs:List Road) (L:List Int) (x:Int),1<=m->m<=16->rs.length<=60->(∀r∈rs,F8 m r)->L.Perm (Bu m)->0<=x->F [BV m rs L,Ac m rs,.lst (L.map D.int),.int x]=.ok (.sh (.bl true))
def Ez:∃F,FT "_law_question" 10 4 F/\JD F:=by
 refine⟨_,λ T=>Aq (k:=9) T.RD Au _ (λ f AZ A outer s H E hr=>(A2 (As 4 Au.nd rfl (zay rfl) (BA (!3) (Aa (!hr) (!1) A4))) (A2 (As 5 Au.nd rfl (zay rfl) (BA (BZ (!3) A4) (Aa (!hr) (!1) A4))) (A2 (As 6 Au.nd rfl (zay rfl) (Ag (A9 A7.toXCall (Xg T) (-hr) rfl (A1 (!1) (A1 (BZ (!3) A4) A6)) rfl))) (A2 (As 7 Au.nd rfl (zay rfl) (!1)) (A2 (C1 A7.toXCall.own rfl (B2 (!6)) (AS 8 Au.nd rfl (zay rfl)) (A5 (As 7 Au.nd rfl (zay rfl) (Ag (A9 A7.toXCall (Xe T) (-hr) rfl (A1 (!7) (A1 (!8) (A1 CM A6))) rfl))))) (A2 (As 9 Au.nd rfl (zay rfl) (Ag (R7 A7.toXCall (Cs T) (-hr) (Ag (PH A7.toXCall (Dm T).ini (-hr) rfl (A1 (Ag (A9 A7.toXCall (Jz T) (-hr) rfl (A1 (!7) A6) rfl)) (A1 (Ag (EF rfl T.CU (!2))) A6)) rfl)) (A1 (!4) (A1 (!5) A6)) rfl))) (A2 (As 10 Au.nd rfl (zay rfl) (Ag (EF rfl T.CU (!6)))) (A2 (Bt 11 Au.nd rfl (zay rfl) (FH (k:=9) [("House",BP)] A7.toXCall (Bq (by decide) (Cs T).m BR) (-hr) (!0) (A1 (!4) (A1 (!5) (A1 (!10) A6))) rfl)) (A2 (B0 (H9 (DW.dt (Dg (FG (c:=true) (!hr) (!10) (!6)) (Ct (Bs (B8 (c:=true) (Ag (A9 A7.toXCall (ER T) (-hr) rfl (A1 (!11) (A1 (!9) (A1 (!7) (A1 (!4) (A1 (!5) A6))))) rfl)))))))) (A5 (Ae (AH D3))) Ap) (A2 (IJ (lL 11 A7.toXCall (JC T) (HZ T) (-hr) (-hr) rfl (pv 11))) (A2 (B0 (Bs (B8 (c:=true) (Ag (A9 A7.toXCall (ER T) (-hr) rfl (A1 (Ag (lI A7.toXCall (Cs T) (-hr) (!0) (A1 (!4) (A1 (!5) A6)) (!10) rfl)) (A1 (!9) (A1 (!7) (A1 (!4) (A1 (!5) A6))))) rfl)))) (A5 (Ae (AH D3))) Ap) (A2 (As 12 Au.nd rfl (zay rfl) (Ag (R7 A7.toXCall (Cs T) (-hr) (Ag (PH A7.toXCall (Dm T).ini (-hr) rfl (A1 (Ag (A9 A7.toXCall (Jz T) (-hr) rfl (A1 (!1) A6) rfl)) (A1 (Ag (EF rfl T.CU (!2))) A6)) rfl)) (A1 (!4) (A1 (!5) A6)) rfl))) (A2 (C1 A7.toXCall.own rfl (Gf (c:=true) rfl T.Hq A4) (AS 13 Au.nd rfl (zay rfl)) (A2 (Bt 11 Au.nd rfl (zay rfl) (R7 A7.toXCall (Cs T) (-hr) (!0) (A1 (!4) (A1 (!5) A6)) rfl)) (A2 (B0 (H9 (Bs (B8 (c:=true) (Ag (A9 A7.toXCall (ER T) (-hr) rfl (A1 (!11) (A1 (!12) (A1 (!1) (A1 (!4) (A1 (!5) A6))))) rfl))))) (A5 (Ae (AH D3))) Ap) (A5 (IJ (lL 11 A7.toXCall (JC T) (HZ T) (-hr) (-hr) rfl (pv 11))))))) (A5 (Ae (AH (KJ (Ag (A9 A7.toXCall (ER T) (-hr) rfl (A1 (Ag (FH (k:=9) [("House",BP)] A7.toXCall (Bq (by decide) (Cs T).m BR) (-hr) (!0) (A1 (!4) (A1 (!5) (A1 (Du A6) A6))) rfl)) (A1 (!12) (A1 (!1) (A1 (!4) (A1 (!5) A6))))) rfl)) (Ng (VR (!hr) (Ag (E9 (k:=6) [("House",Ca)] A7.toXCall (Bq (by decide) (MZ T) BR) (-hr) (!0))) (!1))))))))))))))))))))),?_⟩;intro m rs L x aG aH aY aN hL oe;rfl';refine AX ?_;have n0:AB (Ac m rs) (.int 0)=.ok (.int m):=rfl;have n1:AB (Ac m rs) (.int 1)=.ok (.lst (rs.map Bx)):=rfl;have em:(0:Int)<(m:Int):=by omega
 have q1:Fx (.int x) (.int (m:Int))=.ok (.int (x%m)):=Bc em;have q2:EA (.int x) (.int 16)=.ok (.int (x / 16)):=By ⟨by decide,by decide⟩;have q3:Fx (.int (x / 16)) (.int (m:Int))=.ok (.int (x / 16%m)):=Bc em;have q4:EA (.int x) (.int 256)=.ok (.int (x / 256)):=By ⟨by decide,by decide⟩;obtain⟨s,hs⟩:∃s:Nat,(s:Int)=x%m:=⟨(x%m).toNat,by have:=zbt x (b:=(m:Int)) (by omega);omega⟩;have aW:s<m:=by have:=zbo x em;omega
 obtain⟨g,hg⟩:∃g:Nat,(g:Int)=x / 16%m:=⟨(x / 16%m).toNat,by have:=zbt (x / 16) (b:=(m:Int)) (by omega);omega⟩;have o9:g<m:=by have:=zbo (x / 16) em;omega
 rw[<-hs] at q1;rw[<-hg] at q3;obtain⟨S,eh,hS,zv⟩:=Xh m rs (x / 256) aY (by omega);have du:=sV S (λ i hi=>(hS i hi).1) rs;have mh:∀r:List Road,Sa (λ i=>decide (i∈([]:List Int))) r=r:=λ r=>by
  have e:(λ i:Int=>decide (i∈([]:List Int)))=λ _=>false:=by funext i;simp
  rw[e];exact lN r
 have iz:∀r∈S.foldl Hm rs,F8 m r:=by rw[du];exact lM aN
 have mi:(S.foldl Hm rs).length<=60:=by rw[du,UZ];exact aY
 obtain⟨T0,N0,l0,t0,c0,f0⟩:=EM m (S.foldl Hm rs) L [] s g .Av aG aH mi iz hL aW o9 (by simp) (λ i hi=>by cases hi) (.inr ⟨rfl,rfl⟩);rw[mh] at t0 c0;obtain⟨T1,N1,l1,t1,c1,f1⟩:=EM m rs L S s g (.lst (S.map D.int)) aG aH aY aN hL aW o9 (by omega) hS (.inl rfl);rw[<-du] at t1 c1;have eT:=O7 l1 l0 t1 t0;rw[eT] at c1 f1;clear t1 l1 eT;obtain⟨T2,N2,l2,t2,c2,f2⟩:=EM m rs L [] s g .Av aG aH aY aN hL aW o9 (by simp) (λ i hi=>by cases hi) (.inr ⟨rfl,rfl⟩);obtain⟨T3,N3,l3,t3,c3,f3⟩:=EM m rs L [] s g (.lst (([]:List Int).map D.int)) aG aH aY aN hL aW o9 (by simp) (λ i hi=>by cases hi) (.inl rfl);rw[mh] at t2 c2 t3 c3;have eT:=O7 l3 l2 t3 t2;rw[eT] at c3 f3;clear t3 l3 eT;have nl:∀(R:List Road) (T:List Co) (N:List Nat),(∀r∈R,F8 m r)->(∀w:Int,0<=w->w<m->BG R w g (atC T w))->(∀c,atC T s=some c->R4 R s N g c.1/\(N.length:Int)=c.2)->∀c,atC T s=some c->∃t,(HB) (FD (some c) N T) []=.ok (t,.sh .Av):=λ R T N hR ht hc c e=>by
  have h1:=IY (m:=m) (u:=(s:Int)) (λ r hr=>(hR r hr).okR) ⟨by omega,by omega⟩ (by rw[<-e];exact ht s (by omega) (by omega));have h2:=(hc c e).2;exact S4 c N T (by omega)
 have zw:=nl _ T0 N1 iz t0 c1;have zx:=nl _ T2 N2 aN t2 c2;have spN:(G9) [.Av]=.ok (.sh .Av):=P6;have ww:∀i:Nat,((S.take i).foldl Hm rs).length=rs.length:=λ i=>by rw[sV (S.take i) (λ z hz=>(hS z (zc0 hz)).1),UZ]
 have eN:∀R:List Road,er (.tup [.sh (.int m),.lst ((R.map Bx).map .sh)])=Ac m R:=λ R=>by rw[Ms,M3,Hd];rfl
 have gc:=λ R=>Ov m R;obtain⟨th,zy,z3⟩:=Dn m (S.foldl Hm rs) L aG aH mi iz hL;obtain⟨ti,ur,z4⟩:=Dn m rs L aG aH aY aN hL;have uw:Ti ((C9) (.ins "House" [] []) [Ac m (S.foldl Hm rs),.lst (L.map D.int)])=.ok th:=by rw[zy];rfl
 have ux:Ti ((C9) (.ins "House" [] []) [Ac m rs,.lst (L.map D.int)])=.ok ti:=by rw[ur];rfl
 have wx:∀R,Dz [("House",BP)] "ask" (BV m R L)=.ok BP:=λ R=>rfl;have aB:Dz [("House",Ca)] "told_map" (BV m rs L)=.ok Ca:=rfl;have z5:(BP) (BV m (S.foldl Hm rs) L::([.int s,.int g]++[.Av]))=.ok (FD (atC T0 s) N0 T0):=f0;have z6:(BP) (BV m rs L::([.int s,.int g]++[.lst (S.map D.int)]))=.ok (FD (atC T0 s) N1 T0):=f1;have wy:(BP) (BV m rs L::([.int s,.int g]++[.Av]))=.ok (FD (atC T2 s) N2 T2):=f2;have z7:(BP) [BV m rs L,.int s,.int g,.lst []]=.ok (FD (atC T2 s) N3 T2):=f3;have wz:=HA m (S.foldl Hm rs) (atC T0 s) N1 N0 T0 s g c1;have z8:=HA m rs (atC T2 s) N2 N2 T2 s g c2;have z9:=HA m rs (atC T2 s) N3 N2 T2 s g c3;have htm:=N4 m rs L aG aH aY aN;have ad:Xk 16 (.lst (S.map D.int)) (.lst (S.map D.int))=.ok (.bl false):=by rw[kF,decide_eq_true rfl];rfl
 have hEq:bY 16 (Ac m rs) (Ac m rs)=.ok (.bl true):=by rw[Qm ((kC m rs).le (by decide)) ((kC m rs).le (by decide)),Qe]
 have hr2:cD (.int 2)=.ok (CO 0 2):=Lo (n:=2) (by omega);refine wp_step (ρ':=[‹BV m rs L›,‹Ac m rs›,‹.lst (L.map D.int)›,‹.int x›,‹.int s›,none,none,none,none,none,none,none,none,none]) (by simp_arith[n0,q1];try rfl) ?_;refine wp_step (ρ':=[‹BV m rs L›,‹Ac m rs›,‹.lst (L.map D.int)›,‹.int x›,‹.int s›,‹.int g›,none,none,none,none,none,none,none,none]) (by simp_arith[n0,q2,q3];try rfl) ?_;refine wp_step (ρ':=[‹BV m rs L›,‹Ac m rs›,‹.lst (L.map D.int)›,‹.int x›,‹.int s›,‹.int g›,‹.lst (S.map D.int)›,none,none,none,none,none,none,none]) (by simp_arith[q4,zv];try rfl) ?_;refine wp_step (ρ':=[‹BV m rs L›,‹Ac m rs›,‹.lst (L.map D.int)›,‹.int x›,‹.int s›,‹.int g›,‹.lst (S.map D.int)›,‹Ac m rs›,none,none,none,none,none,none]) (by simp_arith[];try rfl) ?_;refine BU (I:=λ ρ=>∃o8:Option D,ρ=[‹BV m rs L›,‹Ac m rs›,‹.lst (L.map D.int)›,‹.int x›,‹.int s›,‹.int g›,‹.lst (S.map D.int)›,‹Ac m (S.foldl Hm rs)›,vO o8,none,none,none,none,none]) ?_ ?_
 ·simp_arith[];refine C3 (λ i ρ=>∃o8:Option D,ρ=[‹BV m rs L›,‹Ac m rs›,‹.lst (L.map D.int)›,‹.int x›,‹.int s›,‹.int g›,‹.lst (S.map D.int)›,‹Ac m ((S.take i).foldl Hm rs)›,vO o8,none,none,none,none,none]) ⟨none,rfl⟩ ?_ ?_
  ·rintro i d ρ hd ⟨o8,rfl⟩;obtain⟨y,hy,rfl⟩:=BB hd;have db:=hS y (zas hy);have et:S.take (i+1)=S.take i++[y]:=by rw[zc7,hy];rfl
   refine⟨_,rfl,?_⟩;have hw:=Xf m ((S.take i).foldl Hm rs) y (by rw[ww];exact aY) db.1 (by rw[ww];exact db.2);have e1:=eN (Hm ((S.take i).foldl Hm rs) y);rw[et,List.foldl_append,zam,List.foldl_nil];exact Bp (ρ':=[‹BV m rs L›,‹Ac m rs›,‹.lst (L.map D.int)›,‹.int x›,‹.int s›,‹.int g›,‹.lst (S.map D.int)›,‹Ac m (Hm ((S.take i).foldl Hm rs) y)›,‹.int y›,none,none,none,none,none]) (by simp_arith[hw,e1];try rfl) ⟨some (.int y),rfl⟩
  ·rintro ρ ⟨o8,rfl⟩;rw[za2,zc1];exact⟨_,rfl⟩
 rintro ρ ⟨o8,rfl⟩;have e1:=eN (S.foldl Hm rs);have e2:=eN rs;have cp1:=gc (S.foldl Hm rs);have cp2:=gc rs;have ea:=K1 (atC T0 s) N0 T0;have ea1:=K1 (atC T0 s) N1 T0;have ea2:=K1 (atC T2 s) N2 T2;have ea3:=K1 (atC T2 s) N3 T2;have av:=wx (S.foldl Hm rs);have ml:=wx rs;refine wp_step (ρ':=[‹BV m rs L›,‹Ac m rs›,‹.lst (L.map D.int)›,‹.int x›,‹.int s›,‹.int g›,‹.lst (S.map D.int)›,‹Ac m (S.foldl Hm rs)›,vO o8,‹Cg (atC T0 s) N0 T0›,none,none,none,none]) (by simp_arith[cp1,e1,uw,z3,av,z5,ea];try rfl) ?_;refine wp_step (ρ':=[‹BV m rs L›,‹Ac m rs›,‹.lst (L.map D.int)›,‹.int x›,‹.int s›,‹.int g›,‹.lst (S.map D.int)›,‹Ac m (S.foldl Hm rs)›,vO o8,‹Cg (atC T0 s) N0 T0›,‹.lst (S.map D.int)›,none,none,none]) (by simp_arith[];try rfl) ?_;refine wp_step (ρ':=[‹BV m rs L›,‹Ac m rs›,‹.lst (L.map D.int)›,‹.int x›,‹.int s›,‹.int g›,‹.lst (S.map D.int)›,‹Ac m (S.foldl Hm rs)›,vO o8,‹Cg (atC T0 s) N0 T0›,‹.lst (S.map D.int)›,some (V0 (atC T0 s) N1 T0),none,none]) (by simp_arith[ml,f1,WC];try rfl) ?_;refine wp_step (ρ':=[‹BV m rs L›,‹Ac m rs›,‹.lst (L.map D.int)›,‹.int x›,‹.int s›,‹.int g›,‹.lst (S.map D.int)›,‹Ac m (S.foldl Hm rs)›,vO o8,‹Cg (atC T0 s) N0 T0›,‹.lst (S.map D.int)›,some (V0 (atC T0 s) N1 T0),none,none]) (by simp_arith[WD,ad,wz,EG];try rfl) ?_;obtain⟨u3,u4⟩:=TC (i:=11) (ρ:=[‹BV m rs L›,‹Ac m rs›,‹.lst (L.map D.int)›,‹.int x›,‹.int s›,‹.int g›,‹.lst (S.map D.int)›,‹Ac m (S.foldl Hm rs)›,vO o8,‹Cg (atC T0 s) N0 T0›,‹.lst (S.map D.int)›,some (V0 (atC T0 s) N1 T0),none,none]) rfl zw spN;refine wp_step (ρ':=[‹BV m rs L›,‹Ac m rs›,‹.lst (L.map D.int)›,‹.int x›,‹.int s›,‹.int g›,‹.lst (S.map D.int)›,‹Ac m (S.foldl Hm rs)›,vO o8,‹Cg (atC T0 s) N0 T0›,‹.lst (S.map D.int)›,some u3,none,none]) (by simp only[u4,M.A8];try rfl) ?_;refine wp_step (ρ':=[‹BV m rs L›,‹Ac m rs›,‹.lst (L.map D.int)›,‹.int x›,‹.int s›,‹.int g›,‹.lst (S.map D.int)›,‹Ac m (S.foldl Hm rs)›,vO o8,‹Cg (atC T0 s) N0 T0›,‹.lst (S.map D.int)›,some u3,none,none]) (by simp_arith[ml,z6,ea1,wz,EG];try rfl) ?_;refine wp_step (ρ':=[‹BV m rs L›,‹Ac m rs›,‹.lst (L.map D.int)›,‹.int x›,‹.int s›,‹.int g›,‹.lst (S.map D.int)›,‹Ac m (S.foldl Hm rs)›,vO o8,‹Cg (atC T0 s) N0 T0›,‹.lst (S.map D.int)›,some u3,‹Cg (atC T2 s) N2 T2›,none]) (by simp_arith[cp2,e2,ux,z4,ml,wy,ea2];try rfl) ?_;refine BU (I:=λ ρ=>∃jl jm:Option Cl,ρ=[‹BV m rs L›,‹Ac m rs›,‹.lst (L.map D.int)›,‹.int x›,‹.int s›,‹.int g›,‹.lst (S.map D.int)›,‹Ac m (S.foldl Hm rs)›,vO o8,‹Cg (atC T0 s) N0 T0›,‹.lst (S.map D.int)›,jl,‹Cg (atC T2 s) N2 T2›,jm]) ?_ ?_
 ·simp_arith[hr2];refine C3 (λ _ ρ=>∃jl jm:Option Cl,ρ=[‹BV m rs L›,‹Ac m rs›,‹.lst (L.map D.int)›,‹.int x›,‹.int s›,‹.int g›,‹.lst (S.map D.int)›,‹Ac m (S.foldl Hm rs)›,vO o8,‹Cg (atC T0 s) N0 T0›,‹.lst (S.map D.int)›,jl,‹Cg (atC T2 s) N2 T2›,jm]) ⟨_,_,rfl⟩ ?_ ?_
  ·rintro i d ρ hd ⟨jl,jm,rfl⟩;refine⟨_,rfl,?_⟩;refine wp_step (ρ':=[‹BV m rs L›,‹Ac m rs›,‹.lst (L.map D.int)›,‹.int x›,‹.int s›,‹.int g›,‹.lst (S.map D.int)›,‹Ac m (S.foldl Hm rs)›,vO o8,‹Cg (atC T0 s) N0 T0›,‹.lst (S.map D.int)›,some (V0 (atC T2 s) N2 T2),‹Cg (atC T2 s) N2 T2›,‹d›]) (by simp_arith[ml,wy,WC];try rfl) ?_;refine wp_step (ρ':=[‹BV m rs L›,‹Ac m rs›,‹.lst (L.map D.int)›,‹.int x›,‹.int s›,‹.int g›,‹.lst (S.map D.int)›,‹Ac m (S.foldl Hm rs)›,vO o8,‹Cg (atC T0 s) N0 T0›,‹.lst (S.map D.int)›,some (V0 (atC T2 s) N2 T2),‹Cg (atC T2 s) N2 T2›,‹d›]) (by simp_arith[WD,z8,EG];try rfl) ?_;obtain⟨cl2,iw⟩:=TC (i:=11) (ρ:=[‹BV m rs L›,‹Ac m rs›,‹.lst (L.map D.int)›,‹.int x›,‹.int s›,‹.int g›,‹.lst (S.map D.int)›,‹Ac m (S.foldl Hm rs)›,vO o8,‹Cg (atC T0 s) N0 T0›,‹.lst (S.map D.int)›,some (V0 (atC T2 s) N2 T2),‹Cg (atC T2 s) N2 T2›,‹d›]) rfl zx spN;exact Bp (ρ':=[‹BV m rs L›,‹Ac m rs›,‹.lst (L.map D.int)›,‹.int x›,‹.int s›,‹.int g›,‹.lst (S.map D.int)›,‹Ac m (S.foldl Hm rs)›,vO o8,‹Cg (atC T0 s) N0 T0›,‹.lst (S.map D.int)›,some cl2,‹Cg (atC T2 s) N2 T2›,‹d›]) (by simp only[iw,M.A8];try rfl) ⟨_,_,rfl⟩
  ·rintro ρ ⟨jl,jm,rfl⟩;exact⟨_,_,rfl⟩
 rintro ρ ⟨jl,jm,rfl⟩;simp_arith[ml,z7,ea3,z9,aB,htm,e2,hEq,EG];rfl
abbrev Kz:=za5 Ez
def P7:FT "_law_question" 10 4 Kz:=(za0 Ez).1
def P8:JD Kz:=(za0 Ez).2
def YJ:∃F:List D->M D,(∀ {P w K mg base f fd},Txt K mg->eY K "law" "law" TM f fd->CL P w K mg base nG 11 f fd ["_law_script"] (XT K 1 F))/\(∀ns:List Int,ns.length<=63->(∀n∈ns,Sm n)->F [.lst (ns.map D.int)]=.ok (.bl true)):=by
 refine⟨_,fun {P w K mg base f fd} T F=>aaf (k:=10) F Rr _ (λ AZ A outer s H E hr=>(A2 (As 1 Rr.nd rfl (zay rfl) (Ag (Cm (A9 (BK rfl).toXCall (YH T) (-hr) rfl (A1 (!0) (A1 A4 (A1 A4 A6))) rfl)))) (A2 (As 2 Rr.nd rfl (zay rfl) (Ag (Cm (A9 (BK rfl).toXCall (Vc T) (-hr) rfl (A1 (Ag (A9 (BK rfl).toXCall (Js T) (-hr) rfl (A1 (!0) (A1 A4 A6)) rfl)) (A1 (Aa (!hr) (!1) A4) (A1 A4 A6))) rfl)))) (A2 (As 3 Rr.nd rfl (zay rfl) (Ag (Cm (PH (BK rfl).toXCall (Dm T).ini (-hr) rfl (A1 (Ag (A9 (BK rfl).toXCall (Jz T) (-hr) rfl (A1 (!1) A6) rfl)) (A1 (Ag (EF rfl T.CU (!2))) A6)) rfl)))) (A2 (C1 PassesOwn.never rfl (B2 (Ag (LI (Du (A1 A4 (A1 A4 A6))) (Ag (Gk (!0) Ln (GX A4)))))) (AS 4 Rr.nd rfl (zay rfl)) (A5 (B0 (Bs (B8 (c:=true) (Ag (Cm (A9 (BK rfl).toXCall (P7 T) (-hr) rfl (A1 (!3) (A1 (!1) (A1 (!2) (A1 (Ag (A9 (BK rfl).toXCall (EO T) (-hr) rfl (A1 (!4) (A1 A4 A6)) rfl)) A6)))) rfl))))) (A5 (iM (XJ D3))) Ap))) (A5 (iM (XJ (VR (!hr) (Ag (Cm (E9 (k:=1) [("House",Cp)] (BK rfl).toXCall (Bq (by decide) (NS T) BR) (-hr) (!3)))) (Du A6)))))))))),?_⟩;intro ns jz aW;rfl';refine aav ?_;obtain⟨z1,c7,lq⟩:=Jt ns 1 aW;have u5:EN [.lst (ns.map D.int),.int 1]=.ok (.sh (.int z1)):=lq;obtain⟨m,rs,aG,aH,aY,aN,tm,hFm,hEm⟩:=YI ns jz aW;have n0:AB (Ac m rs) (.int 0)=.ok (.int m):=rfl;have n1:AB (Ac m rs) (.int 1)=.ok (.lst (rs.map Bx)):=rfl;have gc:=Ov m rs;have e2:er (.tup [.sh (.int m),.lst ((rs.map Bx).map .sh)])=Ac m rs:=by rw[Ms,M3,Hd];rfl
 obtain⟨L,hL,hFo⟩:=Vd z1 m 0 (by omega) (by decide) (by decide);obtain⟨th,hI,hE⟩:=Dn m rs L aG (by omega) (by omega) aN hL;have hI':Ti (C9 (.ins "House" [] []) [Ac m rs,.lst (L.map D.int)])=.ok th:=by rw[hI];rfl
 refine wp_step (ρ':=[‹.lst (ns.map D.int)›,‹Ac m rs›,none,none,none]) (by simp_arith[hFm,hEm];try rfl) ?_;refine wp_step (ρ':=[‹.lst (ns.map D.int)›,‹Ac m rs›,‹.lst (L.map D.int)›,none,none]) (by simp_arith[u5,n0,hFo];try rfl) ?_;refine wp_step (ρ':=[‹.lst (ns.map D.int)›,‹Ac m rs›,‹.lst (L.map D.int)›,‹BV m rs L›,none]) (by simp_arith[gc,e2,hI',hE];try rfl) ?_;have sl:cS none (some 12) (.lst (ns.map D.int))=.ok (.lst (((ns.take 12).map D.int).map .sh)):=by rw[List.map_take];exact W8 _ 12
 have pl:Ly (.lst [.int 0,.int 1]) (.lst ((ns.take 12).map D.int))=.ok (.lst ((([0,1]++ns.take 12).map D.int).map .sh)):=by rw[zat];exact Mr (by rw[za2,zbh];simp;omega)
 refine BU (I:=λ ρ=>∃s4:Option Cl,ρ=[‹.lst (ns.map D.int)›,‹Ac m rs›,‹.lst (L.map D.int)›,‹BV m rs L›,s4]) ?_ ?_
 ·simp_arith[sl,pl];refine C3 (λ _ ρ=>∃s4:Option Cl,ρ=[‹.lst (ns.map D.int)›,‹Ac m rs›,‹.lst (L.map D.int)›,‹BV m rs L›,s4]) ⟨none,rfl⟩ ?_ ?_
  ·rintro i d ρ hd ⟨s4,rfl⟩;obtain⟨y,hy,rfl⟩:=BB hd;refine⟨_,rfl,?_⟩;obtain⟨v,v0,hv⟩:=EQ y 50 (by decide) (by decide);have hq:=P8 m rs L v aG (by omega) (by omega) aN hL v0;exact Bp (ρ':=[‹.lst (ns.map D.int)›,‹Ac m rs›,‹.lst (L.map D.int)›,‹BV m rs L›,‹.int y›]) (by simp_arith[hv,hq,EG];try rfl) ⟨_,rfl⟩
  ·rintro ρ ⟨s4,rfl⟩;exact⟨_,rfl⟩
 rintro ρ ⟨s4,rfl⟩;have hs:Dz [("House",Cp)] "changes" (BV m rs L)=.ok Cp:=rfl;have hc:=NT m rs L;have hq:bY 16 (.lst []) (.lst [])=.ok (.bl true):=by
  have h:bY 16 (.lst (([]:List Int).map D.int)) (.lst (([]:List Int).map D.int))=.ok (.bl (decide (([]:List Int)=[]))):=Wm;exact h
 have ec:er (.lst [])=.lst []:=rfl;simp_arith[hs,hc,ec,hq];rfl
abbrev mB:List D->M D:=za5 YJ
def xT {P w K mg base f fd}:Txt K mg->eY K "law" "law" TM f fd->CL P w K mg base nG 11 f fd ["_law_script"] (XT K 1 mB):=(za0 YJ).1
def xU:∀ns:List Int,ns.length<=63->(∀n∈ns,Sm n)->mB [.lst (ns.map D.int)]=.ok (.bl true):=(za0 YJ).2
set_option maxHeartbeats 0 in
set_option maxHeartbeats 0 in
def left (w:World):(PySem.W.openEnds treeTable PySem.Challenge.pw_nodeladder_k74_shut_for_one_question w 9000).map (λ s=>PySem.W.openSeen (BF PySem.Challenge.pw_nodeladder_k74_shut_for_one_question) (PV PySem.Challenge.pw_nodeladder_k74_shut_for_one_question) (importedModules PySem.Challenge.pw_nodeladder_k74_shut_for_one_question.main.body) (λ s=>PySem.W.xlAt (BF PySem.Challenge.pw_nodeladder_k74_shut_for_one_question) [] s&&PySem.W.recOk [] s) true s)=some (PySem.W.openGood (BF PySem.Challenge.pw_nodeladder_k74_shut_for_one_question) (PV PySem.Challenge.pw_nodeladder_k74_shut_for_one_question)):=by
 rw[Zz,wF,PySem.W.Fast.te4187177175401517315,PySem.W.Fast.te5923862056798008813,PySem.W.Fast.te8021400363072048338];exact (O2 (QK (YK w)) (O2 (QK (EB (EB (YK w)))) (O2 (QK (EB (YK w))) (O2 (EB (EB (EB (YK w)))) (O2 (QK (Vk w)) (O2 (QK (EB (Vk w))) (O2 (QK (EB (EB (Vk w)))) (O2 (QK (EB (EB (EB (Vk w))))) (EB (EB (EB (EB (Vk w)))))))))))))
set_option maxHeartbeats 0 in
def xV (w:World):U5 (Kp R0 PySem.Challenge.pw_nodeladder_k74_shut_for_one_question w) PySem.Challenge.pw_nodeladder_k74_shut_for_one_question:=by
 rw[wF,PySem.W.Fast.te8021400363072048338];exact mE w
set_option maxHeartbeats 0 in
def xW (w:World):U6 (Kp R0 PySem.Challenge.pw_nodeladder_k74_shut_for_one_question w) PySem.Challenge.pw_nodeladder_k74_shut_for_one_question:=by
 rw[wF,PySem.W.Fast.te8021400363072048338];exact mF w
def all_mk {l:PySem.W.OpenLaw}(X:K.In h)(G:h.Ns mainGlobals mg)(hfa:mg "law" = some (.ref fa))(u0:U5 K PySem.Challenge.pw_nodeladder_k74_shut_for_one_question)(u1:U6 K PySem.Challenge.pw_nodeladder_k74_shut_for_one_question):
 ∃fd:FuncData,(∀(s:Shared) (v:Value),BindsTo s fd ⟨[v],[]⟩ [("_law_script",v)])/\∀base:Heap,K.In base->base.Ns mainGlobals mg->CL l.prog w K mg base nG 11 fa fd ["_law_script"] (XT K 1 mB):=by
 have ag:Ve K _:=⟨u0.1.1.1.1.1.2,u0.1.1.1.1.2.1,u0.1.1.1.1.2.2,u0.1.1.1.2.1.1⟩;have am:Ve K _:=⟨u0.1.1.2.1.1.2,u0.1.1.2.1.2,u0.1.1.2.2.1.1,u0.1.1.2.2.1.2⟩;obtain⟨f35,mn,ac0,to35,ac1,mo,ac2,ac3,ac4,ac5,mq,mr,mt,mw,mx,a35,i35,l35,c35,k35,my⟩:=u1.2.2.2.1.2.ex;have F35:=UG (st:=AJ) l35 c35 k35;have B35:Binds K (zb7 "__init__" "Ladder.__init__" (B5 AJ) (AE AJ) (A3 AJ) (.ref mn) mq mr mt mo mw mx) ["self","net","order"] []:=λ s us hK hl=>by
  have al:us.length=3:=by simpa using hl
  rcases us with _|⟨_,_|⟨_,_|⟨_,_|⟨_,us⟩⟩⟩⟩<;>first|exact zcv hK rfl my rfl rfl rfl|(simp at al)
 have D35:Binds K (zb7 "__init__" "Ladder.__init__" (B5 AJ) (AE AJ) (A3 AJ) (.ref mn) mq mr mt mo mw mx) ["self","net","order"] [.none]:=λ s us hK hl=>by
  have al:us.length=2:=by simpa using hl
  rcases us with _|⟨_,_|⟨_,_|⟨_,_|⟨_,us⟩⟩⟩⟩<;>first|exact zcv hK rfl my rfl rfl rfl|(simp at al)
 have T35:QH K mg "Ladder" "Ladder.__init__" AJ ["self","net","order"]:=⟨_,_,_,⟨u0.1.1.1.1.1.1,PySem.W.mg_of X G u0.1.1.1.1.1.1⟩,⟨u0.1.1.1.2.1.2,a35,i35,u0.1.1.1.2.2⟩,F35,B35,D35⟩;obtain⟨f46,mz,ad5,to46,ad6,m6,ad7,ad8,ad9,ae0,m7,m8,m9,na,nb,a46,i46,l46,c46,k46,nc⟩:=u1.2.2.2.2.1.1.ex;have F46:=UG (st:=AO) l46 c46 k46;have B46:Binds K (zb7 "__init__" "House.__init__" (B5 AO) (AE AO) (A3 AO) (.ref mz) m7 m8 m9 m6 na nb) ["self","net","order"] []:=λ s us hK hl=>by
  have al:us.length=3:=by simpa using hl
  rcases us with _|⟨_,_|⟨_,_|⟨_,_|⟨_,us⟩⟩⟩⟩<;>first|exact zcv hK rfl nc rfl rfl rfl|(simp at al)
 have D46:Binds K (zb7 "__init__" "House.__init__" (B5 AO) (AE AO) (A3 AO) (.ref mz) m7 m8 m9 m6 na nb) ["self","net","order"] [.none]:=λ s us hK hl=>by
  have al:us.length=2:=by simpa using hl
  rcases us with _|⟨_,_|⟨_,_|⟨_,_|⟨_,us⟩⟩⟩⟩<;>first|exact zcv hK rfl nc rfl rfl rfl|(simp at al)
 have T46:QH K mg "House" "House.__init__" AO ["self","net","order"]:=⟨_,_,_,⟨u0.1.1.2.1.1.1,PySem.W.mg_of X G u0.1.1.2.1.1.1⟩,⟨u0.1.1.2.2.2,a46,i46,u0.1.2.1.1.1.1⟩,F46,B46,D46⟩;obtain⟨f49,i4,af0,to49,af1,i5,af2,af3,af4,af5,i6,i7,i8,i9,ja,a49,i49,l49,c49,w4,jb⟩:=u1.2.2.2.2.1.2.ex;have F49:=UG (st:=B3) l49 c49 w4;have B49:Binds K (zb7 "ask" "House.ask" (B5 B3) (AE B3) (A3 B3) (.ref i4) i6 i7 i8 i5 i9 ja) ["self","start","goal","shut"] []:=λ s us hK hl=>by
  have al:us.length=4:=by simpa using hl
  rcases us with _|⟨_,_|⟨_,_|⟨_,_|⟨_,_|⟨_,us⟩⟩⟩⟩⟩<;>first|exact zcv hK rfl jb rfl rfl rfl|(simp at al)
 have D49:Binds K (zb7 "ask" "House.ask" (B5 B3) (AE B3) (A3 B3) (.ref i4) i6 i7 i8 i5 i9 ja) ["self","start","goal","shut"] [.none]:=λ s us hK hl=>by
  have al:us.length=3:=by simpa using hl
  rcases us with _|⟨_,_|⟨_,_|⟨_,_|⟨_,_|⟨_,us⟩⟩⟩⟩⟩<;>first|exact zcv hK rfl jb rfl rfl rfl|(simp at al)
 have W49:KwB K (zb7 "ask" "House.ask" (B5 B3) (AE B3) (A3 B3) (.ref i4) i6 i7 i8 i5 i9 ja) ["self","start","goal","shut"] "shut" := λ s us u hK hl=>by
  have al:us.length=3:=by simpa using hl
  rcases us with _|⟨_,_|⟨_,_|⟨_,_|⟨_,_|⟨_,us⟩⟩⟩⟩⟩<;>first|exact zcv hK rfl jb rfl rfl rfl|(simp at al)
 have T49:Ym K "House" "ask" "House.ask" "shut" B3 ["self","start","goal","shut"]:=⟨_,_,_,u0.1.1.2.1.1.1,am,⟨a49,i49,w4⟩,F49,⟨B49,D49⟩,W49⟩;obtain⟨f63,ag5,ag6,ag7,ag8,ag9,ah0,ah1,ah2,ah3,w5,l63,c63,k63⟩:=u1.2.2.2.2.2.ex;cases hfa.symm.trans (PySem.W.mg_of X G w5);have u6:=XF (st:=TM) l63 c63 k63;have T63:Ay K mg "law" TM ["_law_script"]:=⟨_,_,u6,PySem.W.mg_of X G w5,u6.binds (λ _ _ _ _ _ _=>ln1 λ _=>rfl)⟩;have T:Txt K mg:=⟨AK X G u0.1.2.1.1.1.2,AK X G u0.1.2.1.1.2,AK X G u0.1.2.1.2.1.1,AK X G u0.1.2.1.2.1.2,AK X G u0.1.2.1.2.2,AK X G u0.1.2.2.1.1.1,AK X G u0.1.2.2.1.1.2,AK X G u0.1.2.2.1.2,AK X G u0.1.2.2.2.1.1,AK X G u0.1.2.2.2.1.2,AK X G u0.1.2.2.2.2,AK X G u0.2.1.1.1.1.1,AK X G u0.2.1.1.1.1.2,AK X G u0.2.1.1.1.2,AK X G u0.2.1.1.2.1.1,AK X G u0.2.1.1.2.1.2,AK X G u0.2.1.1.2.2,AK X G u0.2.1.2.1.1.1,AK X G u0.2.1.2.1.1.2,AK X G u0.2.1.2.1.2,AK X G u0.2.1.2.2.1.1,AK X G u0.2.1.2.2.1.2,AK X G u0.2.1.2.2.2,AK X G u0.2.2.1.1.1.1,AK X G u0.2.2.1.1.1.2,AK X G u0.2.2.1.1.2,AK X G u0.2.2.1.2.1.1,AK X G u0.2.2.1.2.1.2,AK X G u0.2.2.1.2.2,AK X G u0.2.2.2.1.1.1,AK X G u0.2.2.2.1.1.2,AK X G u0.2.2.2.1.2,AK X G u0.2.2.2.2.1.1,AK X G u0.2.2.2.2.1.2,T35,QI u0.1.1.1.1.1.1 ag u0.2.2.2.2.2,QI u0.1.1.1.1.1.1 ag u1.1.1.1.1.1.1,QI u0.1.1.1.1.1.1 ag u1.1.1.1.1.1.2,QI u0.1.1.1.1.1.1 ag u1.1.1.1.1.2.1,QI u0.1.1.1.1.1.1 ag u1.1.1.1.1.2.2,AK X G u1.1.1.1.2.1.1,AK X G u1.1.1.1.2.1.2,AK X G u1.1.1.1.2.2,AK X G u1.1.1.2.1.1.1,AK X G u1.1.1.2.1.1.2,T46,QI u0.1.1.2.1.1.1 am u1.1.1.2.1.2,QI u0.1.1.2.1.1.1 am u1.1.1.2.2.1.1,T49,AK X G u1.1.1.2.2.1.2,AK X G u1.1.1.2.2.2,AK X G u1.1.2.1.1.1.1,AK X G u1.1.2.1.1.1.2,AK X G u1.1.2.1.1.2,AK X G u1.1.2.1.2.1.1,AK X G u1.1.2.1.2.1.2,AK X G u1.1.2.1.2.2,AK X G u1.1.2.2.1.1.1,AK X G u1.1.2.2.1.1.2,AK X G u1.1.2.2.1.2 (λ _ _ _ _ _ _=>ln5 λ _ _ _ _ _=>rfl),AK X G u1.1.2.2.2.1.1,AK X G u1.1.2.2.2.1.2,T63,zbf X G u1.1.2.2.2.2,zbf X G u1.2.1.1.1.1.1,zbf X G u1.2.1.1.1.1.2,zbf X G u1.2.1.1.1.2,zbf X G u1.2.1.1.2.1.1,zbf X G u1.2.1.1.2.1.2,zbf X G u1.2.1.1.2.2,zbf X G u1.2.1.2.1.1.1,zbf X G u1.2.1.2.1.1.2,zbf X G u1.2.1.2.1.2,zbf X G u1.2.1.2.2.1.1,zbf X G u1.2.1.2.2.1.2,zbf X G u1.2.1.2.2.2,aaP X G u1.2.2.1.1.1.1 u0.2.2.1.1.1.1,⟨_,u0.1.1.2.1.1.1,am,u1.2.2.1.1.1.2⟩,⟨_,u0.1.1.2.1.1.1,am,u1.2.2.1.1.2⟩,⟨_,u0.1.1.2.1.1.1,am,u1.2.2.1.2.1.1⟩,⟨_,u0.1.1.1.1.1.1,ag,u1.2.2.1.2.1.2⟩,⟨_,u0.1.1.1.1.1.1,ag,u1.2.2.1.2.2⟩,⟨_,u0.1.1.1.1.1.1,ag,u1.2.2.2.1.1.1⟩,⟨_,u0.1.1.1.1.1.1,ag,u1.2.2.2.1.1.2⟩⟩;refine⟨_,?_,λ base _ _=>xT T u6⟩;exact λ s v=>.of_eq rfl
def walk {l:PySem.W.OpenLaw}{K:World->za1}(hn:l.most=some 63)(h8:d.params.defaults=[])(hY:∀(w:World) (h:Heap),YP w h->(K w).In h)(F:∀(w:World) (mg:Str->Option Value) (fa:Addr) (h:Heap),(K w).In h->h.Ns mainGlobals mg->mg d.name=some (.ref fa)->
  ∃fd:FuncData,(∀(s:Shared) (u:Value),BindsTo s fd ⟨[u],[]⟩ [("_law_script",u)])/\∀base:Heap,(K w).In base->base.Ns mainGlobals mg->CL l.prog w (K w) mg base nG 11 fa fd ["_law_script"] (XT (K w) 1 mB)):
 PySem.W.WalkO q loose XP YP l.row.toRowW d [] (λ f vs=>PySem.call f vs):=
 L2.aaA (n:=63) (k:=11) (x := "_law_script") (CX:=λ _=>nG) (sp:=λ w=>XT (K w) 1 mB) hn (by decide) h8 ⟨rfl,by decide,by decide⟩ hY F (λ w H a ns aW hl _ hS=>oF xU (K w) H a ns aW hl hS) λ _ _ _ _ _ z=>z
end dl
open PySem PySem.W PyProof.Rows L2
set_option maxRecDepth 100000 in
set_option autoImplicit true
set_option relaxedAutoImplicit true
set_option maxHeartbeats 0 in
theorem PySem.Challenge.cw_nodeladder_k74_shut_for_one_question_holds : PySem.Challenge.rw_nodeladder_k74_shut_for_one_question.Holds := by
 w_on;o_law
 refine holds_open (q:=BF PySem.Challenge.pw_nodeladder_k74_shut_for_one_question) (loose:=(PV PySem.Challenge.pw_nodeladder_k74_shut_for_one_question)) (Xt:=λ s=>xlAt (BF PySem.Challenge.pw_nodeladder_k74_shut_for_one_question) [] s&&recOk [] s) (XP:=XL (BF PySem.Challenge.pw_nodeladder_k74_shut_for_one_question) []) (Yf:=λ s=>s.heap) (Ya:=λ w=>fB R0 PySem.Challenge.pw_nodeladder_k74_shut_for_one_question w 9000) (YP:=λ w h=>aaz (fB R0 PySem.Challenge.pw_nodeladder_k74_shut_for_one_question w 9000) h) (N:=9000) (pU dl.left) (λ w s e b o q=>by rw[<-e] at q;exact q) (λ w h h' a b c o q=>b c o (a c o q)) (λ s e=>xl_of s (Bool.and_eq_true_iff.mp e).1) XL.keeps (by rfl) (by rfl) (by rfl) (λ s e=>recFacts_of (Bool.and_eq_true_iff.mp e).2) (by rfl) (by first|assumption|decide +kernel) (by decide +kernel) ⟨rfl,rfl,rfl,rfl,rfl,by decide +kernel⟩ ?hw ?hc;case hw=>w_witness2
 case hc =>
  refine dl.walk (l:=PySem.Challenge.rw_nodeladder_k74_shut_for_one_question) (K:=dl.Kp R0 PySem.Challenge.pw_nodeladder_k74_shut_for_one_question) rfl rfl (λ w h Y=>wG Y) ?F;intro w mg fa h KX G h9;exact dl.all_mk KX G h9 (dl.xV w) (dl.xW w)

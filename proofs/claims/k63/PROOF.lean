import PyProof.Rows.All
import OpenK.KWalk
import OpenK.KCls
import OpenK.KTop
import OpenK.KLaw
import Wide.FinOn
import KE.RegKIsAll
import KE.KItem
import KE.KxBytes
import PyProof.EqAt
import PyProof.EqKinds
import PyProof.NeData
import PyProof.TupleCall
import PyProof.MinMaxWalk
import KE.KDictList
import KE.KDictOf
import KE.KEqDict
import PyProof.AttrMissHeap
import PyProof.EnumFor
import PyProof.EnumMake
import PyProof.EnumStmt
import PyProof.TupleIter
import PyProof.Seq
import KE.KPairComp
import PyProof.DictItems
import PyProof.DictRoadsH
import PyProof.ReprRoads
import PyProof.ReprLen
import PyProof.StrLawsRepr
import PyProof.ExcClass2
import PyProof.InstStoreFacts
import PyProof.Rows.FStr
import PyProof.ExcAttrAll.ValueError
import KE.KDictSum
import KE.KRevSl
import PyProof.RaisesMany
import PyProof.RulesTry
import KE.KTryMore
import PyProof.RulesAs
import PyProof.ReprStr
import PyProof.ListStr
import PyProof.StrLawsIn
import KE.KDictLaws
import PyProof.NsDelKeeps
import PyProof.FString4
import PyProof.FString5
import PyProof.P3In
import PyProof.P3Eq
import PyProof.PureStr
import PyProof.Rows.RuleB_bool
import PySem.Challenge.RW_aheadword_k63_whole_typists_apart
set_option maxHeartbeats 0
set_option maxRecDepth 100000
set_option Elab.async false
set_option linter.all false
set_option compiler.extract_closed false
set_option genSizeOf false
noncomputable section
namespace L2
open PySem
noncomputable abbrev wE:List Value:=[.type "ValueError",.type "Exception",.type "BaseException",.type "object"]
noncomputable def bU (K:PySem.W.Frag) (C:Addr) (r:Option Value):Bool:=match K.lookup C with
 |some o=>o.cls==.type "type" && match o.data with
  |.cls cd=>(match cd.mro with
   |v::bm=>v==.ref C&&o.slots.toList.length==6&&o.slots.toList[4]?==some (some (.builtin "ValueError.__new__"))&&!cd.hasDel&&PySem.W.tailIn K wE bm&&PySem.W.nsOkIn K cd.ns&&PySem.W.nsIn K cd.ns "__init__" == some r
   |[]=>false)
  |_=>false
 |none=>false
noncomputable def aX (s:Stmt) (j:Nat):Stmt:=match s with
 |.ClassDef _ _ _ body _ _ _ _ _ _ _=>body.getD j (.Pass ⟨0,0,0,0⟩)
 |_=>.Pass ⟨0,0,0,0⟩
noncomputable def cA (s:Stmt):Arguments:=match s with
 |.FunctionDef _ a _ _ _ _ _ _ _ _=>a
 |_=>{ posonlyargs:=[],args:=[],vararg:=none,kwonlyargs:=[],kw_defaults:=[],kwarg:=none,defaults:=[] }
def bR (s:Stmt):List Stmt:=match s with
 |.FunctionDef _ _ b _ _ _ _ _ _ _=>b
 |_=>[]
noncomputable def av (s:Stmt):Scope:=match s with
 |.FunctionDef _ _ _ _ _ _ sc _ _ _=>sc
 |_=>{ kind:=.function,names:=[],isGenerator:=false,isCoroutine:=false }
end L2
namespace My
open PySem L2
noncomputable def top (i:Nat):Stmt:=PySem.Challenge.pw_aheadword_k63_whole_typists_apart.main.body.getD i (.Pass ⟨0,0,0,0⟩)
abbrev ma:Stmt:=top 9
abbrev mF:Stmt:=top 10
abbrev lP:Stmt:=top 15
abbrev mG:Stmt:=top 16
abbrev mH:Stmt:=top 17
abbrev md:Stmt:=top 18
abbrev lQ:Stmt:=top 19
abbrev lJ:Stmt:=aX (top 21) 0
abbrev k8:Stmt:=aX (top 21) 1
abbrev lK:Stmt:=aX (top 21) 2
abbrev k6:Stmt:=aX (top 21) 4
abbrev lL:Stmt:=top 22
abbrev mI:Stmt:=top 24
abbrev me:Stmt:=top 25
abbrev lf:Stmt:=aX (top 26) 0
abbrev i7:Stmt:=aX (top 26) 1
abbrev iY:Stmt:=aX (top 26) 2
abbrev la:Stmt:=aX (top 26) 3
abbrev lb:Stmt:=aX (top 26) 4
abbrev lg:Stmt:=aX (top 26) 5
abbrev kY:Stmt:=aX (top 26) 6
abbrev lh:Stmt:=aX (top 26) 7
abbrev iZ:Stmt:=aX (top 26) 8
abbrev lj:Stmt:=aX (top 26) 9
abbrev lU:Stmt:=aX (top 28) 0
abbrev iX:Stmt:=aX (top 28) 1
abbrev jb:Stmt:=aX (top 28) 2
abbrev jc:Stmt:=aX (top 28) 3
abbrev i4:Stmt:=aX (top 28) 4
abbrev lV:Stmt:=aX (top 28) 5
abbrev mf:Stmt:=aX (top 28) 7
abbrev lN:Stmt:=aX (top 28) 9
abbrev mh:Stmt:=top 30
abbrev lq:Stmt:=aX (top 31) 0
abbrev i8:Stmt:=aX (top 31) 1
abbrev iW:Stmt:=aX (top 31) 2
abbrev i5:Stmt:=aX (top 31) 3
abbrev i6:Stmt:=aX (top 31) 4
abbrev kZ:Stmt:=aX (top 31) 6
abbrev kX:Stmt:=aX (top 31) 7
abbrev i9:Stmt:=aX (top 31) 8
abbrev lx:Stmt:=aX (top 31) 9
abbrev lB:Stmt:=top 33
abbrev mJ:Stmt:=top 34
abbrev mi:Stmt:=top 35
abbrev mj:Stmt:=top 36
abbrev mo:Stmt:=top 37
abbrev lW:Stmt:=top 38
abbrev lX:Stmt:=top 39
abbrev jd:Stmt:=top 40
abbrev mr:Stmt:=top 41
abbrev mv:Stmt:=top 42
abbrev lY:Stmt:=top 43
abbrev lD:Stmt:=top 44
abbrev ja:Stmt:=top 45
abbrev lc:Stmt:=top 46
abbrev lF:Stmt:=top 47
abbrev mw:Stmt:=top 48
abbrev lZ:Stmt:=top 49
abbrev mB:Stmt:=top 50
abbrev je:Stmt:=top 51
abbrev l7:Stmt:=top 52
abbrev k7:Stmt:=top 53
abbrev fW:Stmt:=top 54
abbrev Ns (K:W.Frag) (x:Str) (v:Option Value):Prop:=W.nsIn K mainGlobals x=some v
abbrev No (K:W.Frag) (C:Addr) (x:Str):Prop:=W.findIn K (.ref C) x=some none
def FnA (K:W.Frag) (x q:Str) (st:Stmt) (dv:Value) (f:Addr):Prop:=∃ oc od kV dc pm an cd ct sl,K.lookup f=some ⟨oc,od,.func (W.fnOf x q (cA st) (bR st) (av st) dv kV dc pm an cd ct),sl⟩/\W.codeIn K cd q=true/\W.keepIn K (.ref f)=true
def Dn (K:W.Frag) (x:Str) (st:Stmt) (f:Addr):Prop:=Ns K x (some (.ref f))/\FnA K x x st .none f
def Mn (K:W.Frag) (C:Addr) (x q:Str) (st:Stmt) (f:Addr):Prop:=W.findIn K (.ref C) x=some (some (.ref f))/\W.isFn K (.ref f)=true/\FnA K x q st .none f
def Md (K:W.Frag) (C:Addr) (x q:Str) (st:Stmt) (i:Int) (f:Addr):Prop:=W.findIn K (.ref C) x=some (some (.ref f))/\W.isFn K (.ref f)=true/\∃ d tk n oc od sl,FnA K x q st (.ref d) f/\K.lookup d=some ⟨oc,od,.seq #[.int i tk] n,sl⟩
def Cn (K:W.Frag) (x:Str) (C:Addr):Prop:=Ns K x (some (.ref C))/\W.plainGet K C Str.empty=true/\W.hasDictIn K C=true/\W.plainOver K C=true/\W.findIn K (.ref C) "__setattr__"=some (some (.builtin "object.__setattr__"))/\W.makesIn K C=true/\W.keepIn K (.ref C)=true
theorem FnA.of {K:W.Frag}{x q:Str}{st:Stmt}{dv oc kV dc pm cd ct:Value}{f:Addr}{od an:Option Addr}{sl:Array (Option Value)}(l:K.lookup f=some ⟨oc,od,.func (W.fnOf x q (cA st) (bR st) (av st) dv kV dc pm an cd ct),sl⟩) (c:W.codeIn K cd q=true) (k:W.keepIn K (.ref f)=true):FnA K x q st dv f:=⟨_,_,_,_,_,_,_,_,_,l,c,k⟩
theorem Md.of {K:W.Frag}{C d f:Addr}{x q:Str}{st:Stmt}{i:Int}{tk:Tok}{n:Nat}{oc:Value}{od:Option Addr}{sl:Array (Option Value)}(a:W.findIn K (.ref C) x=some (some (.ref f))) (b:W.isFn K (.ref f)=true) (c:FnA K x q st (.ref d) f) (l:K.lookup d=some ⟨oc,od,.seq #[.int i tk] n,sl⟩):Md K C x q st i f:=⟨a,b,d,tk,n,oc,od,sl,c,l⟩
def Fx (K:W.Frag):Prop:=∀ R:Prop,(∀ {fr fb f1 f2 f3 f4 f5 frk fig ftk fwo fca fbx fta fwd fpo fco fti fsa ftx fke fde fiw fha ftd fre fus ftn fdo fcl ftr far flw fwi fwm fwq fwu fwz fwf fwh fwb fyi fyq fyz fyh fys fya fye fyu fyf fpi fpc fpf fpw fui fuk fub fuc fud ful fuh fut fuz fuf C_Wood C_Layers C_Pairs C_Typist C_NoWord C_Twice C_Absent C_NoSign C_NoChoice:Addr}{tk_MOST_SIGNS tk_MOST_PARTS tk_MOST_LETTERS:Tok},Cn K "Wood" C_Wood->Mn K C_Wood "__init__" "Wood.__init__" lU fwi->Mn K C_Wood "mark_of" "Wood.mark_of" iX fwm->Mn K C_Wood "put" "Wood.put" jb fwq->Md K C_Wood "use" "Wood.use" jc 1 fwu->Mn K C_Wood "strike" "Wood.strike" i4 fwz->Md K C_Wood "fade" "Wood.fade" lV 1 fwf->Mn K C_Wood "has" "Wood.has" mf fwh->Mn K C_Wood "begun" "Wood.begun" lN fwb->No K C_Wood "marks"->No K C_Wood "now"->Cn K "Layers" C_Layers->Mn K C_Layers "__init__" "Layers.__init__" lq fyi->Mn K C_Layers "put" "Layers.put" i8 fyq->Mn K C_Layers "strike" "Layers.strike" iW fyz->Mn K C_Layers "hide" "Layers.hide" i5 fyh->Mn K C_Layers "show" "Layers.show" i6 fys->Mn K C_Layers "all_told" "Layers.all_told" kZ fya->Mn K C_Layers "is_seen_of_house" "Layers.is_seen_of_house" kX fye->Md K C_Layers "use" "Layers.use" i9 1 fyu->Md K C_Layers "fade" "Layers.fade" lx 1 fyf->No K C_Layers "house"->No K C_Layers "own"->No K C_Layers "veiled"->Cn K "Pairs" C_Pairs->Mn K C_Pairs "__init__" "Pairs.__init__" lJ fpi->Mn K C_Pairs "choose" "Pairs.choose" k8 fpc->Md K C_Pairs "fade" "Pairs.fade" lK 1 fpf->Mn K C_Pairs "worth_of" "Pairs.worth_of" k6 fpw->No K C_Pairs "marks"->No K C_Pairs "now"->Cn K "Typist" C_Typist->Mn K C_Typist "__init__" "Typist.__init__" lf fui->Mn K C_Typist "key" "Typist.key" i7 fuk->Mn K C_Typist "back" "Typist.back" iY fub->Mn K C_Typist "clear" "Typist.clear" la fuc->Mn K C_Typist "typed" "Typist.typed" lb fud->Mn K C_Typist "line" "Typist.line" lg ful->Mn K C_Typist "last_chosen" "Typist.last_chosen" kY fuh->Mn K C_Typist "told" "Typist.told" lh fut->Mn K C_Typist "take" "Typist.take" iZ fuz->Md K C_Typist "fade" "Typist.fade" lj 1 fuf->No K C_Typist "layers"->No K C_Typist "many"->No K C_Typist "pairs"->No K C_Typist "text"->No K C_Typist "chosen"->Ns K "NoWord" (some (.ref C_NoWord))->Ns K "Twice" (some (.ref C_Twice))->Ns K "Absent" (some (.ref C_Absent))->Ns K "NoSign" (some (.ref C_NoSign))->Ns K "NoChoice" (some (.ref C_NoChoice))->Dn K "rank_key" ma fr->Dn K "best_of" mF fb->Dn K "is_letter" lP f1->Dn K "is_part" mG f2->Dn K "is_word" mH f3->Dn K "worth_at" md f4->Dn K "used_mark" lQ f5->Dn K "ranked_key" lL frk->Dn K "is_sign" mI fig->Dn K "told_key" me ftk->Dn K "with_own" mh fwo->Dn K "_law_cell_at" lB fca->Dn K "_law_box" mJ fbx->Dn K "_law_take" mi fta->Dn K "_law_word" mj fwd->Dn K "_law_pool" mo fpo->Dn K "_law_count" lW fco->Dn K "_law_times" lX fti->Dn K "_law_same" jd fsa->Dn K "_law_text" mr ftx->Dn K "_law_keys" mv fke->Dn K "_law_deeds" lY fde->Dn K "_law_is_word" lD fiw->Dn K "_law_halve" ja fha->Dn K "_law_told_due" lc ftd->Dn K "_law_refusal" lF fre->Dn K "_law_used" mw fus->Dn K "_law_taken" lZ ftn->Dn K "_law_done" mB fdo->Dn K "_law_call" je fcl->Dn K "_law_tried" l7 ftr->Dn K "_law_all_right" k7 far->Dn K "law" fW flw->Ns K "len" none->Ns K "range" none->Ns K "all" none->Ns K "max" none->Ns K "min" none->Ns K "sorted" none->Ns K "isinstance" none->Ns K "bool" none->Ns K "int" none->Ns K "str" none->Ns K "list" none->Ns K "tuple" none->W.kitOne K (.type "str") (.type "str")=some true->W.kitOne K (.type "int") (.type "int")=some true->W.kitOne K (.type "int") (.type "bool")=some false->W.kitOne K (.type "tuple") (.type "tuple")=some true->W.kitOne K (.type "list") (.type "list")=some true->W.kitOne K (.type "list") (.type "tuple")=some false->W.kitOne K (.type "str") (.type "tuple")=some false->W.kitOne K (.type "int") (.type "tuple")=some false->W.kitOne K (.type "str") (.type "list")=some false->W.kitOne K (.type "int") (.type "list")=some false->W.kitOne K (.type "bool") (.type "bool")=some true->W.kitOne K (.type "int") (.type "str")=some false->W.kitOne K (.type "NoneType") (.type "tuple")=some false->W.kitOne K (.type "NoneType") (.type "list")=some false->W.kitOne K (.type "bool") (.type "tuple")=some false->W.kitOne K (.type "bool") (.type "list")=some false->W.kitOne K (.type "bool") (.type "str")=some false->Ns K "MOST_SIGNS" (some (.int 24 tk_MOST_SIGNS))->Ns K "MOST_PARTS" (some (.int 4 tk_MOST_PARTS))->Ns K "MOST_LETTERS" (some (.int 12 tk_MOST_LETTERS))->bU K C_NoWord none=true->W.keepIn K (.ref C_NoWord)=true->bU K C_Twice none=true->W.keepIn K (.ref C_Twice)=true->bU K C_Absent none=true->W.keepIn K (.ref C_Absent)=true->bU K C_NoSign none=true->W.keepIn K (.ref C_NoSign)=true->bU K C_NoChoice none=true->W.keepIn K (.ref C_NoChoice)=true->W.exmOne K (.ref C_NoWord) (.ref C_NoWord)=some true->W.exmOne K (.ref C_NoWord) (.ref C_Twice)=some false->W.exmOne K (.ref C_NoWord) (.ref C_Absent)=some false->W.exmOne K (.ref C_NoWord) (.ref C_NoSign)=some false->W.exmOne K (.ref C_NoWord) (.ref C_NoChoice)=some false->W.exmOne K (.ref C_Twice) (.ref C_NoWord)=some false->W.exmOne K (.ref C_Twice) (.ref C_Twice)=some true->W.exmOne K (.ref C_Twice) (.ref C_Absent)=some false->W.exmOne K (.ref C_Twice) (.ref C_NoSign)=some false->W.exmOne K (.ref C_Twice) (.ref C_NoChoice)=some false->W.exmOne K (.ref C_Absent) (.ref C_NoWord)=some false->W.exmOne K (.ref C_Absent) (.ref C_Twice)=some false->W.exmOne K (.ref C_Absent) (.ref C_Absent)=some true->W.exmOne K (.ref C_Absent) (.ref C_NoSign)=some false->W.exmOne K (.ref C_Absent) (.ref C_NoChoice)=some false->W.exmOne K (.ref C_NoSign) (.ref C_NoWord)=some false->W.exmOne K (.ref C_NoSign) (.ref C_Twice)=some false->W.exmOne K (.ref C_NoSign) (.ref C_Absent)=some false->W.exmOne K (.ref C_NoSign) (.ref C_NoSign)=some true->W.exmOne K (.ref C_NoSign) (.ref C_NoChoice)=some false->W.exmOne K (.ref C_NoChoice) (.ref C_NoWord)=some false->W.exmOne K (.ref C_NoChoice) (.ref C_Twice)=some false->W.exmOne K (.ref C_NoChoice) (.ref C_Absent)=some false->W.exmOne K (.ref C_NoChoice) (.ref C_NoSign)=some false->W.exmOne K (.ref C_NoChoice) (.ref C_NoChoice)=some true->R)->R
noncomputable def pick {α:Type}:List Nat->Nat->List α->List α
 |_,_,[]=>[]
 |[],_,l=>l
 |k::ks,i,x::l=>if i=k then pick ks (i+1) l else x::pick (k::ks) (i+1) l
noncomputable def aE:Program:={ PySem.Challenge.pw_aheadword_k63_whole_typists_apart with main:={ PySem.Challenge.pw_aheadword_k63_whole_typists_apart.main with body:=pick [1,8,11,20,23,27,29,32] 0 PySem.Challenge.pw_aheadword_k63_whole_typists_apart.main.body } }
theorem Aw {S A B:Type}{x:Option S}{f:S->A}{g:S->B}{a:A}{b:B}(h1:x.map f=some a) (h2:x.map g=some b):x.map (λs=>(f s,g s))=some (a,b):=by
 cases x with
 |none=>cases h1
 |some s=>cases h1;cases h2;rfl
end My
section
open PySem PySem.W PyProof.Rows
local macro_rules|`(tactic| o_head $H)=>`(tactic| refine holds_open (q:=My.aE) (loose:=[]) (Xt:=λs=>xlAt My.aE [] s&&recOk [] s) (XP:=XL My.aE []) (Yf:=Hook.obs $H) (Ya:=Hook.val $H) (YP:=Hook.says $H) (N:=9078) ?hl (Hook.of $H) (Hook.keeps $H) (λs e=>xl_of s (Bool.and_eq_true_iff.mp e).1) XL.keeps (by rfl) (by rfl) (by rfl) (λs e=>recFacts_of (Bool.and_eq_true_iff.mp e).2) (by rfl) (by assumption) (by decide +kernel) ⟨rfl,rfl,rfl,rfl,rfl,by decide +kernel⟩ ?hw ?hc)
theorem My.left_gen {p:Program}{N:Nat}{β:Type}(w:World){F:Shared->β}{v:β}(hb:(fencedOpening treeTable p w N).map (λs=>(s.heap,s.gens,s.drawn,s.toks))=some (boot_heap w.params,Array.mk [],boot_drawn,boot_toks)) (hi:((boot_heap w.params).isNs mainGlobals&&(Array.mk []:Array GenState).size==0)=true)
  (hs:∀ os,(topRun treeTable p w (boot_heap w.params).objs.size ((boot_heap w.params).nsMap mainGlobals "__annotations__") N ⟨boot_heap w.params,Array.mk [],boot_drawn,boot_toks,os⟩ (topStub p)).map (λs=>staticsOk (importedModules p.main.body) (boot_heap w.params) s.heap&&namesBound p s.heap&&gensDone s&&laidKept (boot_heap w.params) s.heap)=some true)
  (hv:∀ os,(topRun treeTable p w (boot_heap w.params).objs.size ((boot_heap w.params).nsMap mainGlobals "__annotations__") N ⟨boot_heap w.params,Array.mk [],boot_drawn,boot_toks,os⟩ (topStub p)).map F=some v):(openEnds treeTable p w N).map F=some v:=by
 obtain ⟨⟨hh,gs,d,k,os⟩,e1,e2⟩:=Option.map_eq_some_iff.mp hb
 obtain ⟨rfl,rfl,rfl,rfl⟩:hh=boot_heap w.params/\gs=Array.mk []/\d=boot_drawn/\k=boot_toks:=by simpa only [Prod.mk.injEq] using e2
 have a:=hs os
 have b:=hv os
 unfold openEnds
 rw [e1]
 show (topFrom treeTable p w N ⟨boot_heap w.params,Array.mk [],boot_drawn,boot_toks,os⟩).map F=some v
 unfold topFrom
 dsimp only
 rw [hi]
 dsimp only
 cases hx:topRun treeTable p w (boot_heap w.params).objs.size ((boot_heap w.params).nsMap mainGlobals "__annotations__") N ⟨boot_heap w.params,Array.mk [],boot_drawn,boot_toks,os⟩ (topStub p) with
 |none=>rw [hx] at b;cases b
 |some s1 =>
  rw [hx] at a b
  have a':=Option.some.inj a
  dsimp only at a'
  show Option.map F (match _ with|true=>some s1|false=>none)=some v
  rw [a']
  exact b
abbrev My.X (w:World) (os:OsState):Option Shared:=topRun treeTable PySem.Challenge.pw_aheadword_k63_whole_typists_apart w (boot_heap w.params).objs.size ((boot_heap w.params).nsMap mainGlobals "__annotations__") 9078 ⟨boot_heap w.params,Array.mk [],boot_drawn,boot_toks,os⟩ (topStub PySem.Challenge.pw_aheadword_k63_whole_typists_apart)
theorem My.fst_snd {S A B:Type}{x:Option S}(F:S->A×B) (v:A×B) (h1:x.map (λs=>(F s).1)=some v.1) (h2:x.map (λs=>(F s).2)=some v.2):x.map F=some v:=by
 cases x with
 |none=>cases h1
 |some s=>exact congrArg some (Prod.ext (Option.some.inj h1) (Option.some.inj h2))
theorem My.and_map {S A B:Type}{x:Option S}{f:S->A}{g:S->B}{a:A}{b:B}(h:x.map (λs=>(f s,g s))=some (a,b)):x.map f=some a/\x.map g=some b:=by
 cases x with
 |none=>cases h
 |some s=>exact ⟨congrArg (λy=>some (Prod.fst y)) (Option.some.inj h),congrArg (λy=>some (Prod.snd y)) (Option.some.inj h)⟩
theorem My.blt {x:Option Shared}{h:Heap}(e:x.map (λs=>s.heap.get? builtinsNs)=some (h.get? builtinsNs)) (b:h.bltView=bltViewBooted):x.map (λs=>s.heap.bltView)=some bltViewBooted:=by
 cases x with
 |none=>cases e
 |some s =>
  have q:s.heap.get? builtinsNs=h.get? builtinsNs:=Option.some.inj e
  rw [<- b]
  refine congrArg some ?_
  show s.heap.bltView=h.bltView
  unfold Heap.bltView Heap.nsPairs
  rw [q]
theorem My.cut_map {α β:Type}{x:Option Shared}{f:Shared->α->β}{l:List α}{r:List β}(n:Nat) (h1:x.map (λs=>(l.take n).map (f s))=some (r.take n)) (h2:x.map (λs=>(l.drop n).map (f s))=some (r.drop n)):x.map (λs=>l.map (f s))=some r:=by
 cases x with
 |none=>cases h1
 |some s =>
  have a:=Option.some.inj h1
  have b:=Option.some.inj h2
  refine congrArg some ?_
  show l.map (f s)=r
  rw [<- List.take_append_drop n l,<- List.take_append_drop n r,List.map_append]
  exact congr (congrArg (·++·) a) b
theorem My.e1 (w:World) (os:OsState):(My.X w os).map (λs=>seen ((recsOf My.aE).map (·.name)) (ownsOf My.aE) [] { s with gens:=#[] })=some (expectedOf My.aE):=by delta My.X;rw [Fast.te14082659384304107361,Fast.te14364793385576792824];kernel_rfl
theorem My.e2 (w:World) (os:OsState):(My.X w os).map (λs=>s.heap.keysOk (looseW My.aE []) ((recsOf My.aE).map (·.name)) ((litsOf My.aE).map (·.1)) ((clssOf My.aE (looseW My.aE [])).map (·.name))&&s.heap.accountedOkI (importedModules PySem.Challenge.pw_aheadword_k63_whole_typists_apart.main.body)&&s.heap.isNs mainGlobals&&s.heap.isNs builtinsNs&&tablesOk My.aE s.heap&&(xlAt My.aE [] s&&recOk [] s)&&(if true then s.gens.size==0 else !leftWithCleanup s.gens))=some (true):=by delta My.X;rw [Fast.te14082659384304107361,Fast.te14364793385576792824];kernel_rfl
theorem My.e3a (w:World) (os:OsState):(My.X w os).map (λs=>((recsOf My.aE).take 18).all λd=>s.heap.tab0Ok d.name)=some (true):=by delta My.X;rw [Fast.te14082659384304107361,Fast.te14364793385576792824];kernel_rfl
theorem My.e3b (w:World) (os:OsState):(My.X w os).map (λs=>(((recsOf My.aE).drop 18).all λd=>s.heap.tab0Ok d.name,s.heap.bmainOk,valsOk My.aE s.heap,(!importsNone My.aE || s.heap.noSeerOk)))=some ((true,true,true,true)):=by delta My.X;rw [Fast.te14082659384304107361,Fast.te14364793385576792824];kernel_rfl
theorem My.e6 (w:World) (os:OsState):(My.X w os).map (λs=>plainSeenD My.aE [] s)=some (plainGoodD My.aE []):=by delta My.X;rw [Fast.te14082659384304107361,Fast.te14364793385576792824];kernel_rfl
theorem My.c2 (w:World) (os:OsState):(My.X w os).map (λs=>(plainSeenE My.aE (looseW My.aE []) s,wideSeen My.aE s))=some ((plainGoodE My.aE (looseW My.aE []),wideGood My.aE)):=by delta My.X;rw [Fast.te14082659384304107361,Fast.te14364793385576792824];kernel_rfl
theorem My.c1 (w:World) (os:OsState):(My.X w os).map (λs=>(staticsOk (importedModules PySem.Challenge.pw_aheadword_k63_whole_typists_apart.main.body) (boot_heap w.params) s.heap&&namesBound PySem.Challenge.pw_aheadword_k63_whole_typists_apart s.heap&&gensDone s&&laidKept (boot_heap w.params) s.heap,s.heap.get? builtinsNs,pinSeenD My.aE (drecsOf My.aE) s,clsSeenW My.aE [] s))=some ((true,(boot_heap w.params).get? builtinsNs,pinGoodD (drecsOf My.aE),clsGoodW My.aE [])):=by delta My.X;rw [Fast.te14082659384304107361,Fast.te14364793385576792824];kernel_rfl
theorem My.and2 {S:Type}{x:Option S}{f g:S->Bool}(h1:x.map f=some true) (h2:x.map g=some true):x.map (λs=>f s&&g s)=some true:=by
 cases x with
 |none=>cases h1
 |some s =>
  have a:f s=true:=Option.some.inj h1
  have b:g s=true:=Option.some.inj h2
  show some (f s&&g s)=some true
  rw [a,b];rfl
theorem My.all_cut {S α:Type}{x:Option S}{l:List α}{p:S->α->Bool}(n:Nat) (h1:x.map (λs=>(l.take n).all (p s))=some true) (h2:x.map (λs=>(l.drop n).all (p s))=some true):x.map (λs=>l.all (p s))=some true:=by
 cases x with
 |none=>cases h1
 |some s =>
  have a:(l.take n).all (p s)=true:=Option.some.inj h1
  have b:(l.drop n).all (p s)=true:=Option.some.inj h2
  have e:l.all (p s)=((l.take n).all (p s)&&(l.drop n).all (p s)):=by rw [<- List.all_append,List.take_append_drop]
  show some (l.all (p s))=some true
  rw [e,a,b];rfl
theorem My.e3 (w:World) (os:OsState):(My.X w os).map (λs=>tabsOk My.aE s)=some true:=My.and2 (My.and2 (My.and2 (My.all_cut (p:=λ(s:Shared) (d:DefRec)=>s.heap.tab0Ok d.name) 18 (My.e3a w os) (My.and_map (My.e3b w os)).1) (My.and_map (My.and_map (My.e3b w os)).2).1) (My.and_map (My.and_map (My.and_map (My.e3b w os)).2).2).1) (My.and_map (My.and_map (My.and_map (My.e3b w os)).2).2).2
theorem My.leftS (w:World) (os:OsState):(My.X w os).map (λs=>staticsOk (importedModules PySem.Challenge.pw_aheadword_k63_whole_typists_apart.main.body) (boot_heap w.params) s.heap&&namesBound PySem.Challenge.pw_aheadword_k63_whole_typists_apart s.heap&&gensDone s&&laidKept (boot_heap w.params) s.heap)=some true:=(My.and_map (My.c1 w os)).1
theorem My.booted (w:World):(boot_heap w.params).bltView=bltViewBooted:=by kernel_rfl
theorem My.left_boot {β:Type}(w:World){F:Shared->β}{v:β}(hv:∀ os,(My.X w os).map F=some v):(openEnds treeTable PySem.Challenge.pw_aheadword_k63_whole_typists_apart w 9078).map F=some v :=
 My.left_gen w (boot_open (p:=PySem.Challenge.pw_aheadword_k63_whole_typists_apart) (N:=9078) (by kernel_rfl) (by kernel_rfl) (λs=>by kernel_rfl) w) (by kernel_rfl) (My.leftS w) hv
theorem My.left1 (w:World) (os:OsState):(My.X w os).map (λs=>(openSeen My.aE [] (importedModules PySem.Challenge.pw_aheadword_k63_whole_typists_apart.main.body) (λs=>xlAt My.aE [] s&&recOk [] s) true s))=some (openGood My.aE []):=(My.fst_snd (λs=>(openSeen My.aE [] (importedModules PySem.Challenge.pw_aheadword_k63_whole_typists_apart.main.body) (λs=>xlAt My.aE [] s&&recOk [] s) true s)) (openGood My.aE []) (My.e1 w os) (My.fst_snd (λs=>(openSeen My.aE [] (importedModules PySem.Challenge.pw_aheadword_k63_whole_typists_apart.main.body) (λs=>xlAt My.aE [] s&&recOk [] s) true s).2) (openGood My.aE []).2 (My.blt (My.and_map (My.and_map (My.c1 w os)).2).1 (My.booted w)) (My.fst_snd (λs=>(openSeen My.aE [] (importedModules PySem.Challenge.pw_aheadword_k63_whole_typists_apart.main.body) (λs=>xlAt My.aE [] s&&recOk [] s) true s).2.2) (openGood My.aE []).2.2 (My.e2 w os) (My.fst_snd (λs=>(openSeen My.aE [] (importedModules PySem.Challenge.pw_aheadword_k63_whole_typists_apart.main.body) (λs=>xlAt My.aE [] s&&recOk [] s) true s).2.2.2) (openGood My.aE []).2.2.2 (My.e3 w os) (My.fst_snd (λs=>(openSeen My.aE [] (importedModules PySem.Challenge.pw_aheadword_k63_whole_typists_apart.main.body) (λs=>xlAt My.aE [] s&&recOk [] s) true s).2.2.2.2) (openGood My.aE []).2.2.2.2 ((My.and_map (My.and_map (My.and_map (My.c1 w os)).2).2).1) (My.fst_snd (λs=>(openSeen My.aE [] (importedModules PySem.Challenge.pw_aheadword_k63_whole_typists_apart.main.body) (λs=>xlAt My.aE [] s&&recOk [] s) true s).2.2.2.2.2) (openGood My.aE []).2.2.2.2.2 ((My.and_map (My.c2 w os)).1) (My.fst_snd (λs=>(openSeen My.aE [] (importedModules PySem.Challenge.pw_aheadword_k63_whole_typists_apart.main.body) (λs=>xlAt My.aE [] s&&recOk [] s) true s).2.2.2.2.2.2) (openGood My.aE []).2.2.2.2.2.2 (My.e6 w os) (My.fst_snd (λs=>(openSeen My.aE [] (importedModules PySem.Challenge.pw_aheadword_k63_whole_typists_apart.main.body) (λs=>xlAt My.aE [] s&&recOk [] s) true s).2.2.2.2.2.2.2) (openGood My.aE []).2.2.2.2.2.2.2 ((My.and_map (My.c2 w os)).2) ((My.and_map (My.and_map (My.and_map (My.c1 w os)).2).2).2)))))))))
theorem My.left (w:World):(openEnds treeTable PySem.Challenge.pw_aheadword_k63_whole_typists_apart w 9078).map (λs=>(openSeen My.aE [] (importedModules PySem.Challenge.pw_aheadword_k63_whole_typists_apart.main.body) (λs=>xlAt My.aE [] s&&recOk [] s) true s))=some (openGood My.aE []):=My.left_boot w λos=>My.left1 w os
theorem My.pre (h:∀ P:Prop,P):PySem.Challenge.rw_aheadword_k63_whole_typists_apart.Holds:=by w_on;refine PySem.W.holds_law (h _) λsaid=>?_;k_head;all_goals exact h _
noncomputable def My.as:List Addr:=[2,3,15,17,18,20,21,22,29,30,31,32,35,42,43,44,47,54,55,56,59,66,67,68,71,78,79,80,83,90,91,92,95,97,98,100,101,102,104,105,107,108,109,111,112,114,115,116,119,120,121,124,125,126,128,129,131,132,133,135,136,138,139,147,149,150,152,153,154,156,157,159,160,161,162,164,165,167,168,169,171,172,174,175,176,178,179,181,182,183,185,186,188,189,190,191,192,193,194,197,199,200,202,203,204,206,207,209,210,211,213,214,216,217,225,227,228,230,231,232,234,235,237,238,239,241,242,244,245,246,248,249,251,252,253,255,256,258,259,260,262,263,265,266,267,269,270,272,273,274,277,278,279,281,282,284,285,286,287,289,290,292,293,294,295,296,297,298,308,310,311,313,314,315,317,318,320,321,322,324,325,327,328,329,330,332,333,335,336,337,339,340,342,343,344,345,347,348,350,351,352,354,355,357,358,359,361,362,364,365,366,368,369,371,372,373,376,377,378,380,381,383,384,385,387,388,390,391,392,394,395,397,398,399,401,402,404,405,406,407,408,409,410,413,416,417,425,427,428,430,431,432,434,435,437,438,439,441,442,444,445,446,448,449,451,452,453,455,456,458,459,460,462,463,465,466,467,470,471,472,474,475,477,478,479,480,482,483,485,486,487,488,490,491,493,494,495,497,498,500,501,502,504,505,507,508,509,510,511,512,513,516,518,519,521,522,523,525,526,528,529,530,532,533,535,536,537,540,541,542,544,545,547,548,549,551,552,554,555,556,558,559,561,562,563,566,567,568,570,571,573,574,575,578,579,580,583,584,585,588,589,590,592,593,595,596,597,600,601,602,604,605,607,608,609,611,612,614,615,616,618,619,621,622,623,625,626,628,629,630,632,633,635,636,637,639,640,642,643,644,646,647,649,650,651,654,655]
theorem My.obsA (w:World) (os:OsState):(My.X w os).map (λs=>((My.as).take 205).map s.heap.get?)=some (((My.pre.heap_1 w.params).map λp=>some p.2).take 205):=by delta My.X;rw [Fast.te14082659384304107361,Fast.te14364793385576792824];kernel_rfl
theorem My.obsB (w:World) (os:OsState):(My.X w os).map (λs=>(((My.as).drop 205).take 95).map s.heap.get?)=some ((((My.pre.heap_1 w.params).map λp=>some p.2).drop 205).take 95):=by delta My.X;rw [Fast.te14082659384304107361,Fast.te14364793385576792824];kernel_rfl
theorem My.obsC (w:World) (os:OsState):(My.X w os).map (λs=>(((My.as).drop 205).drop 95).map s.heap.get?)=some ((((My.pre.heap_1 w.params).map λp=>some p.2).drop 205).drop 95):=by delta My.X;rw [Fast.te14082659384304107361,Fast.te14364793385576792824];kernel_rfl
theorem My.obs (w:World) (os:OsState):(My.X w os).map (λs=>My.as.map s.heap.get?)=some ((My.pre.heap_1 w.params).map λp=>some p.2):=My.cut_map (f:=λs=>s.heap.get?) 205 (My.obsA w os) (My.cut_map (f:=λs=>s.heap.get?) 95 (My.obsB w os) (My.obsC w os))
theorem My.said:PySem.W.OpenLaw.wellSaid PySem.Challenge.rw_aheadword_k63_whole_typists_apart=true:=by kernel_rfl
local macro_rules|`(tactic| symm)=>`(tactic| ((first|delta My.Ns|delta My.No|skip);k_is))
local macro_rules|`(tactic| exfalso)=>`(tactic| (refine' My.FnA.of ?x ?y ?z;(case x=>k_is);(case y=>k_is);(case z=>k_is)))
local macro_rules|`(tactic| left)=>`(tactic| (refine' ⟨?u,?v⟩;(case u=>symm);(case v=>exfalso)))
local macro_rules|`(tactic| right)=>`(tactic| (refine' ⟨?u,?v,?w⟩;(case u=>k_is);(case v=>k_is);(case w=>exfalso)))
local macro_rules|`(tactic| ac_rfl)=>`(tactic| (refine' My.Md.of ?u ?v ?w ?x;(case u=>k_is);(case v=>k_is);(case w=>exfalso);(case x=>k_is)))
local macro_rules|`(tactic| ac_nf)=>`(tactic| (refine' ⟨?_,?_,?_,?_,?_,?_,?_⟩<;>symm))
theorem My.headL (main:∀ (q:Program) (loose:List Str) (XP:(Str->Option Value)->Heap->Prop) (YP:World->Heap->Prop) (d:DefRec) (K:Params->W.Frag),PySem.Challenge.rw_aheadword_k63_whole_typists_apart.most=some 63->d.params.defaults=[]->d.name="law"->(∀ (w:World) (h:Heap),YP w h->(K w.params).In h)->(∀ w:World,My.Fx (K w.params))->W.WalkO q loose XP YP PySem.Challenge.rw_aheadword_k63_whole_typists_apart.row.toRowW d [] (λf vs=>PySem.call f vs)):PySem.Challenge.rw_aheadword_k63_whole_typists_apart.Holds:=by
 w_on;refine PySem.W.holds_law My.said λsaid=>?_;o_head (kHook My.pre.heap_1 My.as (λ_=>by kernel_rfl));(case hl=>intro w;exact My.Aw (My.left w) (My.left_boot w λos=>My.obs w os));(case hw=>w_witness2)
 k_fill
 refine main _ _ _ _ _ _ rfl rfl rfl (λw h Y=>W.kIn_of Y) λw R hR=>?_
 exact hR (by ac_nf) (by right) (by right) (by right) (by ac_rfl) (by right) (by ac_rfl) (by right) (by right) (by symm) (by symm) (by ac_nf) (by right) (by right) (by right) (by right) (by right) (by right) (by right) (by ac_rfl) (by ac_rfl) (by symm) (by symm) (by symm) (by ac_nf) (by right) (by right) (by ac_rfl) (by right) (by symm) (by symm) (by ac_nf) (by right) (by right) (by right) (by right) (by right) (by right) (by right) (by right) (by right) (by ac_rfl) (by symm) (by symm) (by symm) (by symm) (by symm) (by symm) (by symm) (by symm) (by symm) (by symm) (by left) (by left) (by left) (by left) (by left) (by left) (by left) (by left) (by left) (by left) (by left) (by left) (by left) (by left) (by left) (by left) (by left) (by left) (by left) (by left) (by left) (by left) (by left) (by left) (by left) (by left) (by left) (by left) (by left) (by left) (by left) (by left) (by left) (by symm) (by symm) (by symm) (by symm) (by symm) (by symm) (by symm) (by symm) (by symm) (by symm) (by symm) (by symm) (by kit_is) (by kit_is) (by kit_is) (by kit_is) (by kit_is) (by kit_is) (by kit_is) (by kit_is) (by kit_is) (by kit_is) (by kit_is) (by kit_is) (by kit_is) (by kit_is) (by kit_is) (by kit_is) (by kit_is) (by symm) (by symm) (by symm) (by kernel_rfl) (by kernel_rfl) (by kernel_rfl) (by kernel_rfl) (by kernel_rfl) (by kernel_rfl) (by kernel_rfl) (by kernel_rfl) (by kernel_rfl) (by kernel_rfl) (by kernel_rfl) (by kernel_rfl) (by kernel_rfl) (by kernel_rfl) (by kernel_rfl) (by kernel_rfl) (by kernel_rfl) (by kernel_rfl) (by kernel_rfl) (by kernel_rfl) (by kernel_rfl) (by kernel_rfl) (by kernel_rfl) (by kernel_rfl) (by kernel_rfl) (by kernel_rfl) (by kernel_rfl) (by kernel_rfl) (by kernel_rfl) (by kernel_rfl) (by kernel_rfl) (by kernel_rfl) (by kernel_rfl) (by kernel_rfl) (by kernel_rfl)
end
namespace L2
open PySem PySem.Spec PyProof.Rows
abbrev Key:=Sum Int Str
noncomputable def fX:Key->Value->Bool
 |.inl k,v=>Value.isInt k v
 |.inr x,v=>Value.isStrOf x v
noncomputable def Kq (w:World):Key->Int
 |.inl k=>hashInt k
 |.inr x=>hashStr w x
theorem c7:∀ {k:Key}{v:Value},fX k v=true->(∃ i t,k=Sum.inl i/\v=Value.int i t)\/(∃ x t,k=Sum.inr x/\v=Value.str x t)
 |.inl i,v,h=>by
  obtain ⟨t,e⟩:=Value.isInt_shape (k:=i) (v:=v) h
  exact .inl ⟨i,t,rfl,e⟩
 |.inr x,v,h=>by
  obtain ⟨t,e⟩:=Value.isStrOf_shape (x:=x) (v:=v) h
  exact .inr ⟨x,t,rfl,e⟩
theorem zr (i:Int) (t:Tok):fX (.inl i) (.int i t)=true:=by simp [fX,Value.isInt]
theorem zt (x:Str) (t:Tok):fX (.inr x) (.str x t)=true:=by simp [fX,Value.isStrOf]
theorem EJ (a b:Int):decide ((Sum.inl a:Key)=Sum.inl b)=(a==b):=by
 by_cases e:a=b
 ·subst e;simp
 ·have h:¬ (Sum.inl a:Key)=Sum.inl b:=λq=>e (Sum.inl.inj q)
  rw [decide_eq_false h]
  exact (beq_eq_false_iff_ne.mpr e).symm
theorem EK (a b:Str):decide ((Sum.inr a:Key)=Sum.inr b)=decide (a=b):=by
 by_cases e:a=b
 ·subst e;simp
 ·have h:¬ (Sum.inr a:Key)=Sum.inr b:=λq=>e (Sum.inr.inj q)
  rw [decide_eq_false h,decide_eq_false e]
theorem EL (a:Int) (b:Str):decide ((Sum.inl a:Key)=Sum.inr b)=false:=decide_eq_false (λq=>nomatch q)
theorem EM (a:Str) (b:Int):decide ((Sum.inr a:Key)=Sum.inl b)=false:=decide_eq_false (λq=>nomatch q)
noncomputable def aV (prog:Program) (w:World):PySem.KeyKind prog w Key where
 is:=fX
 hash:=Kq w
 inj:=λv a b ha hb=>by
  rcases c7 ha with ⟨i,t,rfl,rfl⟩|⟨x,t,rfl,rfl⟩
  ·rcases c7 hb with ⟨j,u,rfl,e⟩|⟨y,u,rfl,e⟩
   ·injection e with e1 _;rw [e1]
   ·exact nomatch e
  ·rcases c7 hb with ⟨j,u,rfl,e⟩|⟨y,u,rfl,e⟩
   ·exact nomatch e
   ·injection e with e1 _;rw [e1]
 byValue:=λk v h=>by
  rcases c7 h with ⟨i,t,rfl,rfl⟩|⟨x,t,rfl,rfl⟩<;>rfl
 pyHash:=λhv h=>by
  rcases c7 hv with ⟨i,t,rfl,rfl⟩|⟨x,t,rfl,rfl⟩
  ·exact wpAny_pyHash_int h
  ·exact wpAny_pyHash_str h
 eqBool:=λhu hv h=>by
  rcases c7 hu with ⟨i,t,rfl,rfl⟩|⟨x,t,rfl,rfl⟩
  ·rcases c7 hv with ⟨j,u,rfl,rfl⟩|⟨y,u,rfl,rfl⟩
   ·rw [EJ] at h;exact wpAny_eqBool_int h
   ·rw [EL] at h;exact SeqAt.EqAt.int_str i t y u _ _ _ _ h
  ·rcases c7 hv with ⟨j,u,rfl,rfl⟩|⟨y,u,rfl,rfl⟩
   ·rw [EM] at h;exact SeqAt.EqAt.str_int x t j u _ _ _ _ h
   ·rw [EK] at h;exact wpAny_eqBool_str h
 «strs»:=λk x t v h=>by
  rcases c7 h with ⟨i,u,rfl,e⟩|⟨y,u,rfl,e⟩
  ·exact nomatch e
  ·injection e with e1 _
   subst e1
   cases v<;>rfl
theorem yA (prog:Program) (w:World) (i:Int) (t:Tok):(aV prog w).is (.inl i) (.int i t)=true:=zr i t
theorem yB (prog:Program) (w:World) (x:Str) (t:Tok):(aV prog w).is (.inr x) (.str x t)=true:=zt x t
inductive V where
 |non|bl (b:Bool)|int (i:Int)|str (x:Str)|byt (b:Array UInt8)|flt (b:UInt64)|ref (a:Addr)|ty (n:String)
 deriving DecidableEq
def aq:V->Value->Prop
 |.non,u=>u=Value.none
 |.bl b,u=>u=Value.bool b
 |.int i,u=>∃ t,u=Value.int i t
 |.str x,u=>∃ t,u=Value.str x t
 |.byt b,u=>∃ t,u=Value.bytes b t
 |.flt b,u=>∃ t,u=Value.float b t
 |.ref a,u=>u=Value.ref a
 |.ty n,u=>u=Value.type n
abbrev am:List V->List Value->Prop:=Paired aq
theorem am.length {xs:List V}{us:List Value}(r:am xs us):xs.length=us.length:=Paired.length r
theorem am.get:∀ {xs:List V}{us:List Value}{i:Nat}{x:V},am xs us->xs[i]?=some x->∃ u,us[i]?=some u/\aq x u
 |_,_,_,_,.nil,e=>by simp at e
 |_,_,0,_,.cons r _,e=>by simp at e;subst e;exact ⟨_,rfl,r⟩
 |_,_,i+1,x,.cons _ t,e=>by
  obtain ⟨u,h1,h2⟩:=am.get (i:=i) (x:=x) t (by simpa using e)
  exact ⟨u,by simpa using h1,h2⟩
theorem am.set {x:V}{u:Value}(r:aq x u):∀ {xs:List V}{us:List Value}(i:Nat),am xs us->am (xs.set i x) (us.set i u)
 |_,_,_,.nil=>.nil
 |_,_,0,.cons _ t=>.cons r t
 |_,_,i+1,.cons q t=>.cons q (am.set r i t)
theorem am.append:∀ {xs ys:List V}{us ws:List Value},am xs us->am ys ws->am (xs++ys) (us++ws)
 |_,_,_,_,.nil,s=>s
 |_,_,_,_,.cons r t,s=>.cons r (am.append t s)
theorem am.take:∀ {xs:List V}{us:List Value}(n:Nat),am xs us->am (xs.take n) (us.take n)
 |_,_,0,_=>.nil
 |_,_,_+1,.nil=>.nil
 |_,_,n+1,.cons r t=>.cons r (am.take n t)
theorem am.drop:∀ {xs:List V}{us:List Value}(n:Nat),am xs us->am (xs.drop n) (us.drop n)
 |_,_,0,r=>r
 |_,_,_+1,.nil=>.nil
 |_,_,n+1,.cons _ t=>am.drop n t
def bB:Option V->Option Value->Prop
 |some v,some u=>aq v u
 |none,none=>True
 |_,_=>False
def KV {κ:Type}:List (κ×V)->List (κ×Value)->Prop:=Paired λ(p:κ×V) (q:κ×Value)=>p.1=q.1/\aq p.2 q.2
noncomputable def kV:Key->V
 |.inl i=>.int i
 |.inr x=>.str x
inductive HO where
  |lst (xs:List V)
  |tup (xs:List V)
  |dK (kvs:List (Key×V))|dT (kvs:List (List Key×V))
  |set (S:Int->Bool) (n:Nat)
  |ins (C dx:Addr) (fs:List (Str×V))
  |own (x:Addr)
  |xd (fs:List (Str×V))
  |met (f x:Addr)
  |rng (lo hi:Int)
  |frz (o:Obj) (u:HO)
  |tbl (ps:Array Value)
  |ext (φ:Heap->Prop)
abbrev Hp:=Addr->Option HO
noncomputable def upd (H:Hp) (a:Addr) (o:HO):Hp:=λb=>if b=a then some o else H b
theorem aK {H:Hp}{a:Addr}{o:HO}:upd H a o a=some o:=by unfold upd;rw [if_pos rfl]
theorem aG {H:Hp}{a b:Addr}{o:HO}(h:b≠a):upd H a o b=H b:=by unfold upd;rw [if_neg h]
theorem jw {H:Hp}{a:Addr}{o u:HO}:upd (upd H a o) a u=upd H a u:=by
 funext b;unfold upd;split<;>rfl
theorem dg {H:Hp}{a b:Addr}{o u:HO}(h:H a=some o) (h':H b=some u) (d:o≠u):a≠b:=by
 intro e;subst e;rw [h] at h';exact d (Option.some.inj h')
theorem bL {H:Hp}{a b:Addr}{o:HO}(h:H a=some o) (h':H b=none):a≠b:=by
 intro e;subst e;rw [h] at h';cases h'
section
variable (P:Program) (w:World)
def aS (H:Hp) (h:Heap) (a:Addr):HO->Prop
 |.lst xs=>xs.length<=sizeLine/\∃ (its:List Value) (n:Nat),am xs its/\h.get? a=some { cls:=.type "list",data:=.seq its.toArray n }
 |.tup xs=>xs.length<=sizeLine/\∃ its:List Value,am xs its/\IsTup h a its.toArray
 |.dK kvs=>kvs.length<=sizeLine/\(a==sysModules)=false/\∃ vs,KV kvs vs/\h.DictOf (aV P w) a vs
 |.dT kvs=>kvs.length<=sizeLine/\(a==sysModules)=false/\∃ xs:List (List Key×Addr×Value),
   Paired (λ(p:List Key×V) (q:List Key×Addr×Value)=>p.1=q.1/\H q.2.1=some (.tup (p.1.map kV))/\aq p.2 q.2.2) kvs xs /\
   ∃ o es ep,h.get? a=some o/\o.ExactDict/\o.data=.dict es ep/\es.toList=xs.map (entryOfKey (tupleKind (aV P w)))/\(xs.map (·.1)).Nodup
 |.set S n=>h.SetOf (intKind P w) a S n
 |.ins C dx fs=>H dx=some (.own a)/\fs.length<=1000/\dx≠a/\h.get? a=some (PySem.W.instObj C dx) /\
   ∃ mA,h.Ns1 dx mA/\(∀ f,bB (fs.lookup f) (mA f))/\PySem.Within mA (fs.map (·.1))
 |.own _=>∃ o,h.get? a=some o
 |.xd fs=>∃ mA,h.Ns1 a mA/\∀ f,bB (fs.lookup f) (mA f)
 |.rng lo hi=>∃ t u v,h.get? a=some { cls:=.type "range",data:=.fields #[.int lo t,.int hi u,.int 1 v] }
 |.frz o u=>h.get? a=some o/\aS H h a u
 |.tbl ps=>h.get? a=some { cls:=.none,data:=.fields ps }
 |.met f x=>h.get? a=some (PySem.W.methodObj (.ref f) (.ref x))
 |.ext φ=>φ h/\(∃ o,h.get? a=some o)/\∀ h1 h2:Heap,φ h1->(∀ o,h1.get? a=some o->h2.get? a=some o)->φ h2
def HOk (H:Hp) (h:Heap):Prop:=∀ a o,H a=some o->aS P w H h a o
end
section
variable {P:Program}{w:World}{H H':Hp}{h h':Heap}{a:Addr}{o:HO}
theorem aS.lt (x:aS P w H h a o):a<h.objs.size:=by
 cases o with
 |lst xs=>obtain ⟨_,_,_,_,e⟩:=x;exact Heap.lt_size e
 |tup xs=>obtain ⟨_,_,_,p⟩:=x;exact p.lt
 |dK kvs=>obtain ⟨_,_,_,_,o,_,_,e,_⟩:=x;exact Heap.lt_size e
 |dT kvs=>obtain ⟨_,_,_,_,o,_,_,e,_⟩:=x;exact Heap.lt_size e
 |set S n=>obtain ⟨o,_,_,_,e,_⟩:=x;exact Heap.lt_size e
 |ins C dx fs=>obtain ⟨_,_,_,e,_⟩:=x;exact Heap.lt_size e
 |own y=>obtain ⟨_,e⟩:=x;exact Heap.lt_size e
 |xd fs=>obtain ⟨_,⟨_,_,_,e,_⟩,_⟩:=x;exact Heap.lt_size e
 |rng lo hi=>obtain ⟨_,_,_,e⟩:=x;exact Heap.lt_size e
 |frz ob u=>obtain ⟨e,_⟩:=x;exact Heap.lt_size e
 |tbl ps=>exact Heap.lt_size (show h.get? a=some _ from x)
 |met f y=>exact Heap.lt_size (show h.get? a=some _ from x)
 |ext φ=>obtain ⟨_,⟨_,e⟩,_⟩:=x;exact Heap.lt_size e
theorem Paired.mapP {α β:Type}{F G:α->β->Prop}:∀ {l₁:List α}{l₂:List β},Paired F l₁ l₂->(∀ a b,F a b->G a b)->Paired G l₁ l₂
 |_,_,.nil,_=>.nil
 |_,_,.cons r t,f=>.cons (f _ _ r) (Paired.mapP t f)
theorem aS.stay (x:aS P w H h a o) (k:∀ b u,(b=a\/H b=some (.own a))->h.get? b=some u->h'.get? b=some u)
  (ho:∀ b,H b=some (.own a)->H' b=some (.own a)) (ht:∀ b xs,H b=some (.tup xs)->H' b=some (.tup xs)):aS P w H' h' a o:=by
 induction o with
 |lst xs=>obtain ⟨z,its,n,r,e⟩:=x;exact ⟨z,its,n,r,k _ _ (.inl rfl) e⟩
 |tup xs=>obtain ⟨z,its,r,ob,e,c⟩:=x;exact ⟨z,its,r,ob,k _ _ (.inl rfl) e,c⟩
 |dK kvs=>obtain ⟨z,y,vs,r,ob,es,ep,e,c⟩:=x;exact ⟨z,y,vs,r,ob,es,ep,k _ _ (.inl rfl) e,c⟩
 |dT kvs =>
  obtain ⟨z,y,xs,r,ob,es,ep,e,c⟩:=x
  exact ⟨z,y,xs,Paired.mapP r λp q z=>⟨z.1,ht _ _ z.2.1,z.2.2⟩,ob,es,ep,k _ _ (.inl rfl) e,c⟩
 |set S n=>obtain ⟨ob,es,ep,t,e,c⟩:=x;exact ⟨ob,es,ep,t,k _ _ (.inl rfl) e,c⟩
 |ins C dx fs =>
  obtain ⟨d,z,ne,e,mA,⟨od,es,ep,e2,c⟩,r⟩:=x
  exact ⟨ho _ d,z,ne,k _ _ (.inl rfl) e,mA,⟨od,es,ep,k _ _ (.inr d) e2,c⟩,r⟩
 |own y=>obtain ⟨ob,e⟩:=x;exact ⟨ob,k _ _ (.inl rfl) e⟩
 |xd fs=>obtain ⟨mA,⟨od,es,ep,e,c⟩,r⟩:=x;exact ⟨mA,⟨od,es,ep,k _ _ (.inl rfl) e,c⟩,r⟩
 |rng lo hi=>obtain ⟨t,u,v,e⟩:=x;exact ⟨t,u,v,k _ _ (.inl rfl) e⟩
 |frz ob u ih=>obtain ⟨e,q⟩:=x;exact ⟨k _ _ (.inl rfl) e,ih q⟩
 |tbl ps =>
  have e:h.get? a=some { cls:=.none,data:=.fields ps }:=x
  show h'.get? a=some { cls:=.none,data:=.fields ps }
  exact k a _ (.inl rfl) e
 |met f y =>
  have e:h.get? a=some (PySem.W.methodObj (.ref f) (.ref y)):=x
  show h'.get? a=some (PySem.W.methodObj (.ref f) (.ref y))
  exact k a _ (.inl rfl) e
 |ext φ=>obtain ⟨p,⟨o,e⟩,st⟩:=x;exact ⟨st _ _ p λo q=>k _ _ (.inl rfl) q,⟨o,k _ _ (.inl rfl) e⟩,st⟩
theorem HOk.lt (x:HOk P w H h) (e:H a=some o):a<h.objs.size:=(x a o e).lt
theorem HOk.fresh (x:HOk P w H h) (e:h.objs.size<=a):H a=none:=by
 cases q:H a with
 |none=>rfl
 |some u=>exact absurd (Nat.lt_of_lt_of_le (x.lt q) e) (Nat.lt_irrefl _)
theorem HOk.kept (x:HOk P w H h) (k:∀ b u,h.get? b=some u->h'.get? b=some u):HOk P w H h':=λa o e =>
 (x a o e).stay (λb u _ q=>k b u q) (λ_ q=>q) λ_ _ q=>q
theorem HOk.laid (x:HOk P w H h) (k:∀ b u,h.get? b=some u->h'.get? b=some u) (hp:h.objs.size<=a) (new:aS P w (upd H a o) h' a o):HOk P w (upd H a o) h':=λb u e=>by
 have hn:=x.fresh hp
 by_cases hb:b=a
 ·subst hb;rw [aK] at e;cases e;exact new
 ·rw [aG hb] at e
  exact (x b u e).stay (λc v _ q=>k c v q) (λc q=>by rw [aG (bL q hn)];exact q) λc xs q=>by rw [aG (bL q hn)];exact q
end
def Rd (H:Hp) (a:Addr) (u:HO):Prop:=H a=some u\/∃ o,H a=some (.frz o u)
theorem Rd.ok {P:Program}{w:World}{H:Hp}{h:Heap}{a:Addr}{u:HO}(r:Rd H a u) (x:HOk P w H h):aS P w H h a u:=by
 rcases r with r|⟨o,r⟩
 ·exact x a u r
 ·obtain ⟨_,q⟩:=x a _ r
  exact q
def Mut:Option HO->Prop
 |some (.lst _)=>True
 |some (.dK _)=>True
 |some (.dT _)=>True
 |some (.set _ _)=>True
 |some (.ins _ _ _)=>True
 |some (.ext _)=>True
 |_=>False
section
variable {P:Program}{w:World}{H:Hp}{h h':Heap}{x e:Addr}{o':HO}
theorem HOk.write (ok:HOk P w H h) (mu:Mut (H x)) (he:e=x\/H e=some (.own x)) (k:∀ b u,b≠e->h.get? b=some u->h'.get? b=some u) (heo:∃ u,h'.get? e=some u)
  (new:aS P w (upd H x o') h' x o'):HOk P w (upd H x o') h':=λb u q=>by
 have nown:∀ c y,H c=some (.own y)->c≠x:=λc y r z=>by subst z;rw [r] at mu;exact mu
 have ntup:∀ c xs,H c=some (.tup xs)->c≠x:=λc xs r z=>by subst z;rw [r] at mu;exact mu
 by_cases hb:b=x
 ·subst hb;rw [aK] at q;cases q;exact new
 ·rw [aG hb] at q
  by_cases Sn:b=e
  ·have q':H b=some (.own x):=by
    rcases he with z|z
    ·exact absurd (Sn.trans z) hb
    ·rw [Sn];exact z
   rw [q] at q';cases q'
   obtain ⟨v,hv⟩:=heo
   exact ⟨v,by rw [Sn];exact hv⟩
  ·refine (ok b u q).stay (λc v hc r=>k c v ?_ r) (λc r=>by rw [aG (nown c b r)];exact r) λc xs r=>by rw [aG (ntup c xs r)];exact r
   rcases hc with rfl|hc
   ·exact Sn
   ·rintro rfl
    rcases he with z|z
    ·exact nown c b hc z
    ·rw [hc] at z;cases z;exact hb rfl
end
structure Un (fs ex:List Addr) (H H':Hp) (h h':Heap):Prop where
 keep:∀ b o,h.get? b=some o->H b=none->b∉fs->b∉ex->h'.get? b=some o
 slot:∀ b o,h.get? b=some o->H b=none->b∈fs->b∉ex->∃ sl,h'.get? b=some { o with slots:=sl }
 free:∀ b o,h.get? b=some o->H b=none->b∉ex->H' b=none
 there:∀ b o,h.get? b=some o->b∉ex->∃ o',h'.get? b=some o'
 tups:∀ b xs,H b=some (.tup xs)->H' b=some (.tup xs)
 frzs:∀ b o u,H b=some (.frz o u)->H' b=some (.frz o u)
 tbls:∀ b ps,H b=some (.tbl ps)->∃ more,H' b=some (.tbl (ps++more))
section
variable {fs M7 ex ex':List Addr}{H H1 H2:Hp}{h h1 h2 h':Heap}{a x e:Addr}{o:HO}
theorem Un.any (u:Un fs ex H H1 h h1){b:Addr}{ob:Obj}(q:h.get? b=some ob) (n:H b=none) (hx:b∉ex):∃ sl,h1.get? b=some { ob with slots:=sl }:=by
 by_cases hb:b∈fs
 ·exact u.slot b ob q n hb hx
 ·exact ⟨ob.slots,u.keep b ob q n hb hx⟩
theorem Un.kept (k:∀ b u,h.get? b=some u->h'.get? b=some u):Un fs ex H H h h' :=
 ⟨λb ob q _ _ _=>k b ob q,λb ob q _ _ _=>⟨ob.slots,k b ob q⟩,λ_ _ _ n _=>n,λb ob q _=>⟨ob,k b ob q⟩,λ_ _ q=>q,λ_ _ _ q=>q,λ_ ps q=>⟨#[],by rw [q];simp⟩⟩
theorem Un.refl:Un fs ex H H h h:=Un.kept λ_ _ q=>q
theorem Un.laid (k:∀ b u,h.get? b=some u->h'.get? b=some u) (hp:h.objs.size<=a) (hn:H a=none):Un fs ex H (upd H a o) h h' where
 keep:=λb u q _ _ _=>k b u q
 slot:=λb u q _ _ _=>⟨u.slots,k b u q⟩
 free:=λb u q n _=>by rw [aG (Nat.ne_of_lt (Nat.lt_of_lt_of_le (Heap.lt_size q) hp))];exact n
 there:=λb u q _=>⟨u,k b u q⟩
 tups:=λb xs q=>by rw [aG (bL q hn)];exact q
 frzs:=λb u xs q=>by rw [aG (bL q hn)];exact q
 tbls:=λb ps q=>⟨#[],by rw [aG (bL q hn),q];simp⟩
theorem Un.write (mu:Mut (H x)) (he:e=x\/H e=some (.own x)) (k:∀ b u,b≠e->h.get? b=some u->h'.get? b=some u) (heo:∃ u,h'.get? e=some u):Un fs ex H (upd H x o) h h':=by
 have hx:∀ b,H b=none->b≠x:=λb n z=>by subst z;rw [n] at mu;exact mu
 have hb:∀ b,H b=none->b≠e:=λb n z=>by
  subst z
  rcases he with r|r
  ·exact hx b n r
  ·rw [n] at r;cases r
 have hm:∀ b u,H b=some u->¬ Mut (some u)->b≠x:=λb u q nm z=>by subst z;rw [q] at mu;exact nm mu
 refine ⟨λb u q n _ _=>k b u (hb b n) q,λb u q n _ _=>⟨u.slots,k b u (hb b n) q⟩,λb u q n _=>by rw [aG (hx b n)];exact n,λb u q _=>?_,
  λb xs q=>by rw [aG (hm b _ q λz=>z)];exact q,λb u xs q=>by rw [aG (hm b _ q λz=>z)];exact q,λb ps q=>⟨#[],by rw [aG (hm b _ q λz=>z),q];simp⟩⟩
 by_cases Sn:b=e
 ·subst Sn;exact heo
 ·exact ⟨u,k b u Sn q⟩
end
noncomputable def trk (h:Heap) (H:Hp):List Addr:=(List.range h.objs.size).filter λa=>(H a).isSome
def dN (h:Heap) (H:Hp):Heap:=PySem.W.hideAll h (trk h H)
theorem zv (h:Heap) (H:Hp):(dN h H).objs.size=h.objs.size:=PySem.W.hideAll_size _ _
theorem Ax {h:Heap}{H:Hp}{b:Addr}{o:Obj}(e:h.get? b=some o) (n:H b=none):(dN h H).get? b=some o :=
 PySem.W.hideAll_get _ e λhm=>by
  have q:(H b).isSome=true:=(List.mem_filter.mp hm).2
  rw [n] at q;simp at q
theorem B6 {h:Heap}{H:Hp}{b:Addr}{o:Obj}(e:(dN h H).get? b=some o):h.get? b=some o/\H b=none:=by
 have e':h.get? b=some o:=PySem.W.of_hideAll (trk h H) e
 refine ⟨e',?_⟩
 cases q:H b with
 |none=>rfl
 |some x =>
  have hm:b∈trk h H:=List.mem_filter.mpr ⟨List.mem_range.mpr (Heap.lt_size e'),by simp [q]⟩
  have z:(dN h H).get? b=none:=PySem.W.hideAll_none (trk h H) hm
  rw [z] at e;cases e
noncomputable def B7 (g h:Heap) (L:Addr):List (Addr×Obj):=(List.range h.objs.size).filterMap λa=>if a=L\/(g.get? a).isSome=true then none else (h.get? a).map λo=>(a,o)
def rest (g h:Heap) (L d:Addr):List (Addr×Obj):=(B7 g h L).filter λp=>decide (p.1≠d)
structure Mod (K:PySem.W.Frag) (mg:Str->Option Value) (base:Heap):Prop where
 kin:K.In base
 glob:base.Ns mainGlobals mg
 blt:∃ mb,base.Ns builtinsNs mb/\∀ x:Str,x ≠ "__name__"->mb x=bootBuiltins x
 nolimit:base.NoLimit
structure Cx where
 prog:Program
 w:World
 K:PySem.W.Frag
 mg:Str->Option Value
 base:Heap
 A:Around
 N:List Str
 s₀:Shared
 H₀:Hp
 env:Env
 outer:List Env
 stack:List Env
 ex:List Addr
 fn:Str->Bool
 calm:Bool
 pn:List (Addr×Obj)
 xe:Value->Shared->Prop
def frs (l:List Env):List Addr:=l.filterMap (·.frame)
abbrev Cx.fs (X:Cx):List Addr:=frs X.outer
def Vis (sc:Scope) (x:Str):Prop:=sc.names.lookup x=some .local\/sc.names.lookup x=some .cell\/sc.names.lookup x=some .free
def Loc (sc:Scope) (x:Str):Prop:=sc.names.lookup x=some .local\/sc.names.lookup x=some .cell
def Kr (env:Env) (h:Heap) (m:Str->Option Value) (x:Str) (u:Value):Prop :=
 (env.kindOf x=some .local/\m x=some u)\/((env.kindOf x=some .cell\/env.kindOf x=some .free)/\∃ c,env.cells.lookup x=some c/\h.IsCell c (some u))
structure Cx.Ok (X:Cx):Prop where
 mod:Mod X.K X.mg X.base
 kind:X.env.scope.kind=.function
 glob:X.env.globals=mainGlobals
 blt:X.env.builtins=builtinsNs
 above:X.s₀.heap.objs.size<=X.env.locals
 inj:∀ x y c,X.env.cells.lookup x=some c->X.env.cells.lookup y=some c->x=y
 has:∀ x,(X.env.kindOf x=some .cell\/X.env.kindOf x=some .free)->∃ c,X.env.cells.lookup x=some c
 cab:∀ x c,X.fn x=true->X.env.cells.lookup x=some c->X.s₀.heap.objs.size<=c
 hd:X.calm=true->X.A.handled=none
 frames:X.A.frames=some X.stack
 stk:X.stack=X.outer\/(X.stack=X.env::X.outer/\X.env.frame=some X.env.locals)
 exf:∀ b∈X.ex,b≠X.env.locals/\∀ x c,X.env.cells.lookup x=some c->c≠b
 bs:∀ b o,X.base.get? b=some o->X.s₀.heap.get? b=some o/\X.H₀ b=none
 bsz:X.base.objs.size<=X.s₀.heap.objs.size
 noex:∀ b o,X.base.get? b=some o->b∉X.ex
 exfs:∀ b∈X.ex,b∉X.fs
 funs:X.s₀.heap.FunFrames X.base X.outer
 frf:∀ b∈X.fs,X.H₀ b=none
structure Inv (X:Cx) (pins:List (Addr×Obj)) (U:List (Option V)) (H:Hp) (s:Shared):Prop where
 ok:X.Ok
 os:s.os=X.s₀.os
 bare:AllBare s.gens
 base:Un X.fs X.ex X.H₀ H X.s₀.heap s.heap
 loc:∃ m,s.heap.Ns X.env.locals m/\∀ (i:Nat) (x:Str) (v:V),X.N[i]?=some x->U[i]?=some (some v)->Vis X.env.scope x->∃ u,aq v u/\Kr X.env s.heap m x u
 cell:∀ x c,X.env.cells.lookup x=some c->∃ v,s.heap.IsCell c v
 free:H X.env.locals=none
 freeC:∀ x c,X.env.cells.lookup x=some c->H c=none
 pin:∀ p∈X.pn++pins,s.heap.get? p.1=some p.2/\H p.1=none/\p.1≠X.env.locals/\p.1∉X.fs/\∀ v,p.2.data≠.cell v
 hok:HOk X.prog X.w H s.heap
 len:U.length=X.N.length
section
variable {X:Cx}{pins:List (Addr×Obj)}{U:List (Option V)}{H H':Hp}{s:Shared}{h':Heap}
theorem Cx.Ok.nofr (ok:X.Ok){b:Addr}{o:Obj}(e:X.base.get? b=some o):b∉X.fs:=λhb=>by
 have:=(ok.funs.mem hb).1
 rw [e] at this;cases this
theorem Inv.bs (I:Inv X pins U H s):∀ b o,X.base.get? b=some o->s.heap.get? b=some o/\H b=none:=λb o e =>
 ⟨I.base.keep b o (I.ok.bs b o e).1 (I.ok.bs b o e).2 (I.ok.nofr e) (I.ok.noex b o e),I.base.free b o (I.ok.bs b o e).1 (I.ok.bs b o e).2 (I.ok.noex b o e)⟩
theorem Inv.bk (I:Inv X pins U H s):∀ b o,X.base.get? b=some o->s.heap.get? b=some o:=λb o e=>(I.bs b o e).1
theorem Inv.mod (I:Inv X pins U H s):Mod X.K X.mg X.base:=I.ok.mod
theorem Inv.kIn (I:Inv X pins U H s):X.K.In s.heap:=I.ok.mod.kin.keeps I.bk
theorem Inv.lt (I:Inv X pins U H s):X.env.locals<s.heap.objs.size:=let ⟨_,hn,_⟩:=I.loc;hn.lt
theorem Inv.sz (I:Inv X pins U H s):X.s₀.heap.objs.size<=s.heap.objs.size:=Nat.le_trans I.ok.above (Nat.le_of_lt I.lt)
theorem Inv.nofs (I:Inv X pins U H s){a:Addr}(h:s.heap.objs.size<=a):a∉X.fs:=λhb=>by
 obtain ⟨_,o,ho,_⟩:=I.ok.funs.mem hb
 exact absurd (Nat.lt_of_lt_of_le (Heap.lt_size ho) (Nat.le_trans I.sz h)) (Nat.lt_irrefl _)
theorem Inv.cne (I:Inv X pins U H s):∀ x c,X.env.cells.lookup x=some c->c≠X.env.locals:=λx c e z=>by
 obtain ⟨v,o,ho,hd⟩:=I.cell x c e
 obtain ⟨m,⟨o',es,ep,P1,hd',_⟩,_⟩:=I.loc
 rw [z,P1] at ho;cases ho;rw [hd'] at hd;cases hd
theorem Inv.funs (I:Inv X pins U H s):s.heap.FunFrames X.base X.outer:=by
 have all:∀ (l:List Env),(∀ b∈frs l,b∈X.fs)->X.s₀.heap.FunFrames X.base l->s.heap.FunFrames X.base l:=by
  intro l
  induction l with
  |nil=>intro _ _;trivial
  |cons env r ih =>
   intro hs hl
   obtain ⟨hk,⟨L,o,hf,hn,ho,hd⟩,hr⟩:=hl
   have hL:L∈X.fs:=hs L (by unfold frs;rw [List.filterMap_cons,hf];exact List.mem_cons_self)
   obtain ⟨sl,e⟩:=I.base.slot L o ho (I.ok.frf L hL) hL λz=>I.ok.exfs L z hL
   exact ⟨hk,⟨L,_,hf,hn,e,hd⟩,ih (λb hb=>hs b (by unfold frs;rw [List.filterMap_cons,hf];exact List.mem_cons_of_mem _ hb)) hr⟩
 exact all X.outer (λ_ hb=>hb) I.ok.funs
theorem Inv.stack (I:Inv X pins U H s):s.heap.FunFrames X.base X.stack:=by
 rcases I.ok.stk with e|⟨e,hf⟩
 ·rw [e];exact I.funs
 ·rw [e]
  obtain ⟨m,hn,_⟩:=I.loc
  refine .cons (by rw [I.ok.kind];decide) hf hn ?_ I.funs
  exact Heap.get?_none_of_le (Nat.le_trans I.ok.bsz I.ok.above)
theorem Inv.stkSub (I:Inv X pins U H s):∀ b∈frs X.stack,b∈X.env.locals::X.fs:=λb hb=>by
 rcases I.ok.stk with e|⟨e,hf⟩
 ·rw [e] at hb;exact List.mem_cons_of_mem _ hb
 ·rw [e] at hb
  unfold frs at hb
  rw [List.filterMap_cons,hf] at hb
  exact hb
theorem Inv.stkFree (I:Inv X pins U H s):∀ b∈frs X.stack,H b=none:=λb hb=>by
 rcases List.mem_cons.mp (I.stkSub b hb) with e|hb
 ·rw [e];exact I.free
 ·obtain ⟨_,o,ho,_⟩:=I.ok.funs.mem hb
  exact I.base.free b o ho (I.ok.frf b hb) λz=>I.ok.exfs b z hb
theorem Inv.step {g':Array GenState}{t':Nat}{d':Drawn}{ch:List Addr}(I:Inv X pins U H s)
  (OV:∀ b∈ch,(b∈X.ex\/X.s₀.heap.objs.size<=b)/\b≠X.env.locals/\(∀ x c,X.env.cells.lookup x=some c->c≠b)/\∀ p∈X.pn++pins,p.1≠b)
  (keep:∀ b o,b≠X.env.locals->b∉X.fs->b∉ch->s.heap.get? b=some o->H b=none->h'.get? b=some o)
  (slot:∀ b o,b≠X.env.locals->b∈X.fs->b∉ch->s.heap.get? b=some o->H b=none->∃ sl,h'.get? b=some { o with slots:=sl }) (free:∀ b o,b∉ch->s.heap.get? b=some o->H b=none->H' b=none)
  (there:∀ b o,b∉ch->s.heap.get? b=some o->∃ o',h'.get? b=some o')
  (tups:∀ b xs,H b=some (.tup xs)->H' b=some (.tup xs)) (frzs:∀ b o u,H b=some (.frz o u)->H' b=some (.frz o u)) (tbls:∀ b ps,H b=some (.tbl ps)->∃ more,H' b=some (.tbl (ps++more)))
  (ns:∀ m,s.heap.Ns X.env.locals m->h'.Ns X.env.locals m) (hok:HOk X.prog X.w H' h') (hg:AllBare g') :
  Inv X pins U H' { s with heap:=h',gens:=g',drawn:=d',toks:=t' }:=by
 have neL:∀ b o,X.s₀.heap.get? b=some o->b≠X.env.locals:=λb o e=>Nat.ne_of_lt (Nat.lt_of_lt_of_le (Heap.lt_size e) I.ok.above)
 have neC:∀ b o,X.s₀.heap.get? b=some o->b∉X.ex->b∉ch:=λb o e hx hb=>by
  rcases (OV b hb).1 with z|z
  ·exact hx z
  ·exact absurd (Nat.lt_of_lt_of_le (Heap.lt_size e) z) (Nat.lt_irrefl _)
 have cellK:∀ x c,X.env.cells.lookup x=some c->∀ v,s.heap.IsCell c v->h'.IsCell c v:=λx c e v zz1=>by
  obtain ⟨o,ho,hd⟩:=zz1
  have So:c∉ch:=λz=>(OV c z).2.2.1 x c e rfl
  by_cases hc:c∈X.fs
  ·obtain ⟨sl,q⟩:=slot c o (I.cne x c e) hc So ho (I.freeC x c e)
   exact ⟨_,q,hd⟩
  ·exact ⟨o,keep c o (I.cne x c e) hc So ho (I.freeC x c e),hd⟩
 refine ⟨I.ok,I.os,hg,⟨λb o e n hb hx=>?_,λb o e n hb hx=>?_,λb o e n hx=>?_,λb o e hx=>?_,λb xs e=>tups b xs (I.base.tups b xs e),λb o xs e=>frzs b o xs (I.base.frzs b o xs e),λb ps e=>?_⟩,?_,λx c e=>?_,?_,λx c e=>?_,λp hp=>?_,hok,I.len⟩
 ·exact keep b o (neL b o e) hb (neC b o e hx) (I.base.keep b o e n hb hx) (I.base.free b o e n hx)
 ·obtain ⟨sl,e1⟩:=I.base.slot b o e n hb hx
  obtain ⟨sl',e2⟩:=slot b _ (neL b o e) hb (neC b o e hx) e1 (I.base.free b o e n hx)
  exact ⟨sl',e2⟩
 ·obtain ⟨o',e1⟩:=I.base.there b o e hx
  exact free b o' (neC b o e hx) e1 (I.base.free b o e n hx)
 ·obtain ⟨o',e1⟩:=I.base.there b o e hx
  exact there b o' (neC b o e hx) e1
 ·obtain ⟨m1,e1⟩:=I.base.tbls b ps e
  obtain ⟨m2,e2⟩:=tbls b _ e1
  exact ⟨m1++m2,by rw [e2,Array.append_assoc]⟩
 ·obtain ⟨m,hn,hl⟩:=I.loc
  refine ⟨m,ns m hn,λi x v e1 e2 e3=>?_⟩
  obtain ⟨u,r,l⟩:=hl i x v e1 e2 e3
  refine ⟨u,r,?_⟩
  rcases l with l|⟨k,c,e,z⟩
  ·exact .inl l
  ·exact .inr ⟨k,c,e,cellK x c e _ z⟩
 ·obtain ⟨v,z⟩:=I.cell x c e
  exact ⟨v,cellK x c e v z⟩
 ·obtain ⟨m,⟨o,_,_,ho,_⟩,_⟩:=I.loc
  exact free _ o (λz=>(OV _ z).2.1 rfl) ho I.free
 ·obtain ⟨v,o,ho,hd⟩:=I.cell x c e
  exact free c o (λz=>(OV c z).2.2.1 x c e rfl) ho (I.freeC x c e)
 ·obtain ⟨e,n,ne,nf,d⟩:=I.pin p hp
  have So:p.1∉ch:=λz=>(OV p.1 z).2.2.2 p hp rfl
  exact ⟨keep p.1 p.2 ne nf So e n,free p.1 p.2 So e n,ne,nf,d⟩
theorem Inv.un {t':Nat}(I:Inv X pins U H s) (u:Un X.fs [] H H' s.heap h') (hok:HOk X.prog X.w H' h'):Inv X pins U H' { s with heap:=h',toks:=t' }:=by
 obtain ⟨m,⟨o,es,ep,ho,r⟩,_⟩:=id I.loc
 obtain ⟨sl,hL⟩:=u.any ho I.free (by simp)
 exact I.step (g':=s.gens) (d':=s.drawn) (ch:=[]) (λ_ z=>nomatch z) (λb o _ hb _ e n=>u.keep b o e n hb (by simp)) (λb o _ hb _ e n=>u.slot b o e n hb (by simp)) (λb o _ e n=>u.free b o e n (by simp)) (λb o _ e=>u.there b o e (by simp)) u.tups u.frzs u.tbls (λm' hm=>by
  obtain ⟨o',es',ep',P1,r'⟩:=hm
  rw [ho] at P1;cases P1
  exact ⟨_,es',ep',hL,r'⟩) hok I.bare
theorem Inv.call {g':Array GenState}{t':Nat}{d':Drawn}{ch:List Addr}(I:Inv X pins U H s) (u:Un (frs X.stack) ch H H' s.heap h') (hok:HOk X.prog X.w H' h') (hg:AllBare g')
  (OV:∀ b∈ch,(b∈X.ex\/X.s₀.heap.objs.size<=b)/\b≠X.env.locals/\(∀ x c,X.env.cells.lookup x=some c->c≠b)/\∀ p∈X.pn++pins,p.1≠b) :
  Inv X pins U H' { s with heap:=h',gens:=g',drawn:=d',toks:=t' }:=by
 obtain ⟨m,⟨o,es,ep,ho,r⟩,_⟩:=id I.loc
 obtain ⟨sl,hL⟩:=u.any ho I.free λz=>(OV _ z).2.1 rfl
 exact I.step (ch:=ch) OV (λb o hL hb hc e n=>u.keep b o e n (λz=>(List.mem_cons.mp (I.stkSub b z)).elim hL hb) hc) (λb o _ _ hc e n=>u.any e n hc) (λb o hc e n=>u.free b o e n hc) (λb o hc e=>u.there b o e hc) u.tups u.frzs u.tbls (λm' hm=>by
  obtain ⟨o',es',ep',P1,r'⟩:=hm
  rw [ho] at P1;cases P1
  exact ⟨_,es',ep',hL,r'⟩) hok hg
theorem Inv.turned {t':Nat}{it:Addr}(I:Inv X pins U H s) (k:∀ b o,b≠it->s.heap.get? b=some o->h'.get? b=some o) (hn:H it=none) (hL:it≠X.env.locals)
  (h1:it∈X.ex\/X.s₀.heap.objs.size<=it) (h2:∀ x c,X.env.cells.lookup x=some c->c≠it) (h3:∀ p∈X.pn++pins,p.1≠it):Inv X pins U H { s with heap:=h',toks:=t' }:=by
 have nit:∀ b u,H b=some u->b≠it:=λb u e z=>by rw [z,hn] at e;cases e
 refine I.step (g':=s.gens) (d':=s.drawn) (ch:=[it]) (λb hb=>?_) (λb o _ _ hc e _=>k b o (λz=>hc (by simp [z])) e) (λb o _ _ hc e _=>⟨o.slots,k b o (λz=>hc (by simp [z])) e⟩) (λ_ _ _ _ n=>n)
  (λb o hc e=>⟨o,k b o (λz=>hc (by simp [z])) e⟩) (λ_ _ e=>e) (λ_ _ _ e=>e) (λb ps e=>⟨#[],by rw [e];simp⟩) (λm hm=>?_) (λb u e=>?_) I.bare
 ·have e:b=it:=by simpa using hb
  subst e
  exact ⟨h1,hL,h2,h3⟩
 ·obtain ⟨o,es,ep,ho,r⟩:=hm
  exact ⟨o,es,ep,k _ o (Ne.symm hL) ho,r⟩
 ·refine (I.hok b u e).stay (λc v hc q=>k c v ?_ q) (λ_ q=>q) λ_ _ q=>q
  rcases hc with z|z
  ·rw [z];exact nit b u e
  ·exact nit c _ z
theorem Inv.tok (I:Inv X pins U H s) (t:Nat):Inv X pins U H { s with toks:=t }:=I.un (h':=s.heap) (t':=t) Un.refl I.hok
theorem Inv.kept {t':Nat}(I:Inv X pins U H s) (k:∀ b u,s.heap.get? b=some u->h'.get? b=some u):Inv X pins U H { s with heap:=h',toks:=t' }:=I.un (Un.kept k) (I.hok.kept k)
theorem Inv.laid {a:Addr}{o:HO}{t':Nat}(I:Inv X pins U H s) (k:∀ b u,s.heap.get? b=some u->h'.get? b=some u) (hp:s.heap.objs.size<=a) (new:aS X.prog X.w (upd H a o) h' a o) :
  Inv X pins U (upd H a o) { s with heap:=h',toks:=t' }:=I.un (Un.laid k hp (I.hok.fresh hp)) (I.hok.laid k hp new)
theorem Inv.write {x e:Addr}{o:HO}{t':Nat}(I:Inv X pins U H s) (mu:Mut (H x)) (he:e=x\/H e=some (.own x)) (k:∀ b u,b≠e->s.heap.get? b=some u->h'.get? b=some u) (heo:∃ u,h'.get? e=some u)
  (new:aS X.prog X.w (upd H x o) h' x o):Inv X pins U (upd H x o) { s with heap:=h',toks:=t' }:=I.un (Un.write mu he k heo) (I.hok.write mu he k heo new)
theorem Inv.pins_of {QF:List (Addr×Obj)}(I:Inv X pins U H s) (h:∀ p∈QF,s.heap.get? p.1=some p.2/\H p.1=none/\p.1≠X.env.locals/\p.1∉X.fs/\∀ v,p.2.data≠.cell v):Inv X QF U H s :=
 ⟨I.ok,I.os,I.bare,I.base,I.loc,I.cell,I.free,I.freeC,λp hp=>(List.mem_append.mp hp).elim (λz=>I.pin p (List.mem_append_left _ z)) (h p),I.hok,I.len⟩
theorem rE {N:List Str}(hN:N.Nodup){i j:Nat}{x:Str}(a:N[i]?=some x) (b:N[j]?=some x):i=j:=by
 obtain ⟨h1,e1⟩:=List.getElem?_eq_some_iff.mp a
 obtain ⟨h2,e2⟩:=List.getElem?_eq_some_iff.mp b
 exact (List.getElem_inj hN).mp (e1.trans e2.symm)
theorem zw {M:Model}{A:Around}{E:Value->Shared->Prop}{i:Nat}{x:Str}{v:V}{u:Value}{Q:Unit->Shared->Prop}(I:Inv X pins U H s) (hN:X.N.Nodup) (hi:X.N[i]?=some x) (hx:Loc X.env.scope x) (r:aq v u)
  (h:∀ s',Inv X pins (U.set i (some v)) H s'->(∃ a,Heap.SameBut a s.heap s'.heap/\(a=X.env.locals\/X.env.cells.lookup x=some a))->Q () s') (hf:X.fn x=true\/X.env.scope.names.lookup x=some .local:=by first|exact .inl rfl|exact .inr rfl|assumption):wpAny M A (storeName X.env x u) Q E s:=by
 obtain ⟨m,hn,hl⟩:=id I.loc
 have hcls:(X.env.scope.kind==.class || (X.env.scope.kind==.module&&X.env.locals != X.env.globals))=false:=by rw [I.ok.kind];rfl
 have hiσ:i<U.length:=by rw [I.len];exact (List.getElem?_eq_some_iff.mp hi).1
 have cne:=I.cne
 have tracked:∀ {a:Addr}{h':Heap},(∃ o,s.heap.get? a=some o/\H a=none)->Heap.SameBut a s.heap h'->HOk X.prog X.w H h':=fun {a h'} ha hs b ob e=>by
  obtain ⟨_,_,Sf⟩:=ha
  refine (I.hok b ob e).stay (λc w' hc q=>(hs.2 c ?_).trans q) (λ_ q=>q) λ_ _ q=>q
  rintro rfl
  rcases hc with rfl|hc
  ·rw [Sf] at e;cases e
  ·rw [Sf] at hc;cases hc
 rcases hx with hk|hk
 ·refine wpAny_storeName_local hk hn (λh' hn' hs=>?_) hcls
  obtain ⟨oL,_,_,hoL,_⟩:=id hn
  refine h _ ⟨I.ok,I.os,I.bare,⟨λb o e n hb hx=>?_,λb o e n hb hx=>?_,I.base.free,λb o e hx=>?_,I.base.tups,I.base.frzs,I.base.tbls⟩,⟨_,hn',λj y v' e1 e2 e3=>?_⟩,λy c e=>?_,I.free,I.freeC,λp hp=>?_,tracked ⟨oL,hoL,I.free⟩ hs,by simpa using I.len⟩ ⟨_,hs,.inl rfl⟩
  ·exact (hs.2 b (Nat.ne_of_lt (Nat.lt_of_lt_of_le (Heap.lt_size e) I.ok.above))).trans (I.base.keep b o e n hb hx)
  ·obtain ⟨sl,e1⟩:=I.base.slot b o e n hb hx
   exact ⟨sl,(hs.2 b (Nat.ne_of_lt (Nat.lt_of_lt_of_le (Heap.lt_size e) I.ok.above))).trans e1⟩
  ·obtain ⟨o',e1⟩:=I.base.there b o e hx
   exact ⟨o',(hs.2 b (Nat.ne_of_lt (Nat.lt_of_lt_of_le (Heap.lt_size e) I.ok.above))).trans e1⟩
  ·by_cases hj:j=i
   ·subst hj
    rw [hi] at e1;cases e1
    rw [List.getElem?_set_self hiσ] at e2
    cases e2
    exact ⟨u,r,.inl ⟨hk,by simp⟩⟩
   ·rw [List.getElem?_set_ne (Ne.symm hj)] at e2
    obtain ⟨u',r',q⟩:=hl j y v' e1 e2 e3
    refine ⟨u',r',?_⟩
    rcases q with ⟨k,e⟩|⟨k,c,e,z⟩
    ·refine .inl ⟨k,?_⟩
     have:y≠x:=λe=>hj (rE hN e1 (e ▸ hi))
     simp [this,e]
    ·exact .inr ⟨k,c,e,z.sameBut hs (cne y c e)⟩
  ·obtain ⟨w',z⟩:=I.cell y c e
   exact ⟨w',z.sameBut hs (cne y c e)⟩
  ·obtain ⟨e,n,ne,nf,d⟩:=I.pin p hp
   exact ⟨(hs.2 p.1 ne).trans e,n,ne,nf,d⟩
 ·have hfn:X.fn x=true:=by
   rcases hf with z|z
   ·exact z
   ·rw [z] at hk;cases hk
  obtain ⟨c,hc⟩:=I.ok.has x (.inl hk)
  obtain ⟨w',z⟩:=I.cell x c hc
  refine wpAny_storeName_cell I.ok.kind hk hc z (λh' hc' hs=>?_)
  obtain ⟨oc,hoc,hocd⟩:=id z
  refine h { s with heap:=h' } ⟨I.ok,I.os,I.bare,⟨λb o e n hb hx=>?_,λb o e n hb hx=>?_,I.base.free,λb o e hx=>?_,I.base.tups,I.base.frzs,I.base.tbls⟩,⟨m,hn.sameBut hs (Ne.symm (cne x c hc)),λj y v' e1 e2 e3=>?_⟩,λy c' e=>?_,I.free,I.freeC,λp hp=>?_,tracked ⟨oc,hoc,I.freeC x c hc⟩ hs,by simpa using I.len⟩ ⟨c,hs,.inr hc⟩
  ·exact (hs.2 b (Nat.ne_of_lt (Nat.lt_of_lt_of_le (Heap.lt_size e) (I.ok.cab x c hfn hc)))).trans (I.base.keep b o e n hb hx)
  ·obtain ⟨sl,e1⟩:=I.base.slot b o e n hb hx
   exact ⟨sl,(hs.2 b (Nat.ne_of_lt (Nat.lt_of_lt_of_le (Heap.lt_size e) (I.ok.cab x c hfn hc)))).trans e1⟩
  ·obtain ⟨o',e1⟩:=I.base.there b o e hx
   exact ⟨o',(hs.2 b (Nat.ne_of_lt (Nat.lt_of_lt_of_le (Heap.lt_size e) (I.ok.cab x c hfn hc)))).trans e1⟩
  ·by_cases hj:j=i
   ·subst hj
    rw [hi] at e1;cases e1
    rw [List.getElem?_set_self hiσ] at e2
    cases e2
    exact ⟨u,r,.inr ⟨.inl hk,c,hc,hc'⟩⟩
   ·rw [List.getElem?_set_ne (Ne.symm hj)] at e2
    obtain ⟨u',r',q⟩:=hl j y v' e1 e2 e3
    refine ⟨u',r',?_⟩
    rcases q with q|⟨k,c',e,z'⟩
    ·exact .inl q
    ·refine .inr ⟨k,c',e,z'.sameBut hs ?_⟩
     rintro rfl
     exact hj (rE hN e1 (I.ok.inj _ _ _ e hc ▸ hi))
  ·by_cases hcc:c'=c
   ·subst hcc;exact ⟨_,hc'⟩
   ·obtain ⟨w2,z2⟩:=I.cell y c' e
    exact ⟨w2,z2.sameBut hs hcc⟩
  ·obtain ⟨e,n,ne,nf,d⟩:=I.pin p hp
   refine ⟨(hs.2 p.1 ?_).trans e,n,ne,nf,d⟩
   intro q
   rw [q,hoc] at e
   have q':oc=p.2:=Option.some.inj e
   exact d w' (by rw [<- q'];exact hocd)
theorem mS {M:Model}{A:Around}{E:Value->Shared->Prop}{i:Nat}{x:Str}{v:V}{u:Value}{Q:Unit->Shared->Prop}(I:Inv X pins U H s) (hN:X.N.Nodup) (hi:X.N[i]?=some x) (hx:Loc X.env.scope x) (r:aq v u)
  (h:∀ s',Inv X pins (U.set i (some v)) H s'->Q () s') (hf:X.fn x=true\/X.env.scope.names.lookup x=some .local:=by first|exact .inl rfl|exact .inr rfl|assumption):wpAny M A (storeName X.env x u) Q E s :=
 zw I hN hi hx r (λs' I' _=>h s' I') hf
theorem Inv.call' {s':Shared}{ch:List Addr}(I:Inv X pins U H s) (ho:s'.os=s.os) (u:Un (frs X.stack) ch H H' s.heap s'.heap) (hok:HOk X.prog X.w H' s'.heap) (hg:AllBare s'.gens)
  (OV:∀ b∈ch,(b∈X.ex\/X.s₀.heap.objs.size<=b)/\b≠X.env.locals/\(∀ x c,X.env.cells.lookup x=some c->c≠b)/\∀ p∈X.pn++pins,p.1≠b):Inv X pins U H' s':=by
 obtain ⟨h',g',d',t',o'⟩:=s'
 have e:o'=s.os:=ho
 subst e
 exact I.call (g':=g') (t':=t') (d':=d') u hok hg OV
end
abbrev XK:=Value->Option Addr->Hp->Prop
abbrev St:=List (Option V)
abbrev VK:=V->Hp->Prop
abbrev TE:=St->Hp->VK->Prop
abbrev TT:=St->Hp->(Bool->Hp->Prop)->Prop
abbrev TA:=St->Hp->(List V->Hp->Prop)->Prop
structure Ends where
 nx:St->Hp->Prop
 rt:VK
 bk:St->Hp->Prop:=λ_ _=>False
 ct:St->Hp->Prop:=λ_ _=>False
abbrev TS:=Ends->St->Hp->Prop
def EP (X:Cx) (pins:List (Addr×Obj)) (U:St) (Q:VK) (u:Value) (s':Shared):Prop:=∃ v H',Inv X pins U H' s'/\aq v u/\Q v H'
def TP (X:Cx) (pins:List (Addr×Obj)) (U:St) (Q:Bool->Hp->Prop) (b:Bool) (s':Shared):Prop:=∃ H',Inv X pins U H' s'/\Q b H'
def AP (X:Cx) (pins:List (Addr×Obj)) (U:St) (Q:List V->Hp->Prop) (us:List Value) (s':Shared):Prop:=∃ vs H',Inv X pins U H' s'/\am vs us/\Q vs H'
def SP (X:Cx) (pins:List (Addr×Obj)) (D:Ends) (f:Flow) (s':Shared):Prop :=
 match f with
 |.next=>∃ LO H',Inv X pins LO H' s'/\D.nx LO H'
 |.brk=>∃ LO H',Inv X pins LO H' s'/\D.bk LO H'
 |.cont=>∃ LO H',Inv X pins LO H' s'/\D.ct LO H'
 |.ret u=>∃ v LO H',Inv X pins LO H' s'/\aq v u/\D.rt v H'
def PE (X:Cx) (e:Expr) (t:TE):Prop :=
 ∀ (pins:List (Addr×Obj)) (s:Shared) (U:St) (H:Hp) (Q:VK),Inv X pins U H s->t U H Q->wpAny (model X.prog X.w) X.A (eval e X.env) (EP X pins U Q) X.xe s
def PT (X:Cx) (e:Expr) (t:TT):Prop :=
 ∀ (pins:List (Addr×Obj)) (s:Shared) (U:St) (H:Hp) (Q:Bool->Hp->Prop),Inv X pins U H s->t U H Q->wpAny (model X.prog X.w) X.A (isTrue e X.env (eval e X.env)) (TP X pins U Q) X.xe s
def PW (X:Cx) (e:Expr) (t:TT):Prop :=
 ∀ (whole:Sem Value) (pins:List (Addr×Obj)) (s:Shared) (U:St) (H:Hp) (Q:Bool->Hp->Prop),Inv X pins U H s->t U H Q->wpAny (model X.prog X.w) X.A (isTrue e X.env whole) (TP X pins U Q) X.xe s
def PA (X:Cx) (es:List Expr) (t:TA):Prop :=
 ∀ (pos:Pos) (pins:List (Addr×Obj)) (s:Shared) (U:St) (H:Hp) (Q:List V->Hp->Prop),Inv X pins U H s->t U H Q->wpAny (model X.prog X.w) X.A (spliced (backTo pos (starEach es X.env))) (AP X pins U Q) X.xe s
def PS (X:Cx) (st:Stmt) (t:TS):Prop :=
 ∀ (pins:List (Addr×Obj)) (s:Shared) (U:St) (H:Hp) (D:Ends),Inv X pins U H s->t D U H->wpAny (model X.prog X.w) X.A (exec st X.env) (SP X pins D) X.xe s
def PSs (X:Cx) (st:List Stmt) (t:TS):Prop :=
 ∀ (pins:List (Addr×Obj)) (s:Shared) (U:St) (H:Hp) (D:Ends),Inv X pins U H s->t D U H->wpAny (model X.prog X.w) X.A (execs st X.env) (SP X pins D) X.xe s
theorem thn {α:Type}{t:Sem α}{Q Q':α->Shared->Prop}{M:Model}{A:Around}{E:Value->Shared->Prop}{s:Shared}(h:wpAny M A t Q E s) (hQ:∀ a s,Q a s->Q' a s):wpAny M A t Q' E s:=wpAny_mono h hQ λ_ _ x=>x
section
variable {X:Cx}
def wF (i:Nat):TE:=λU H Q=>∃ v,U[i]?=some (some v)/\Q v H
def tC (v:V):TE:=λ_ H Q=>Q v H
theorem EN {i:Nat}{x:Str}{pos:Pos}(hN:X.N[i]?=some x) (hv:Vis X.env.scope x) (hd:(x==("__debug__":Str))=false:=by decide) (P2:(x==("__classdict__":Str))=false:=by decide):PE X (.Name x pos) (wF i):=by
 intro pins s U H Q I h
 obtain ⟨v,e,h⟩:=h
 obtain ⟨m,hn,hl⟩:=I.loc
 obtain ⟨u,r,l⟩:=hl i x v hN e hv
 have fin:EP X pins U Q u s:=⟨v,H,I,r,h⟩
 rcases l with ⟨hk,hm⟩|⟨hk,c,hc,Sg⟩
 ·exact wpAny_Name (wpAny_loadName_local I.ok.kind hk hn hm fin) hd
 ·rcases hk with hk|hk
  ·exact wpAny_Name (wpAny_loadName_cell I.ok.kind hk hc Sg fin) hd
  ·exact wpAny_Name (wpAny_loadName_free I.ok.kind hk hc Sg fin P2) hd
theorem EO {i j pos}:PE X (.Constant (.int i) j pos) (tC (.int i)):=λ_ _ _ H _ I h=>wpAny_Constant_int ⟨.int i,H,I.tok _,⟨_,rfl⟩,h⟩
theorem HR {b j pos}:PE X (.Constant (.bool b) j pos) (tC (.bl b)):=λ_ _ _ H _ I h=>Constant_bool ⟨.bl b,H,I,rfl,h⟩
theorem EQ {j pos}:PE X (.Constant .none j pos) (tC .non):=λ_ _ _ H _ I h=>Constant_none ⟨.non,H,I,rfl,h⟩
theorem dF {x j pos}:PE X (.Constant (.str x) j pos) (tC (.str x)):=λ_ _ _ H _ I h=>Calls.Constant_str ⟨.str x,H,I.tok _,⟨_,rfl⟩,h⟩
def Gl (X:Cx) (x:Str):Prop:=X.env.kindOf x=some .globalImplicit
theorem dW {E:Value->Shared->Prop}{pins:List (Addr×Obj)}{s:Shared}{U:St}{H:Hp}{x:Str}{u:Value}{pos:Pos}{Q:Value->Shared->Prop}(I:Inv X pins U H s) (hg:Gl X x) (hm:X.mg x=some u) (h:Q u s)
  (hd:(x==("__debug__":Str))=false:=by decide):wpAny (model X.prog X.w) X.A (eval (.Name x pos) X.env) Q E s :=
 Calls.Name_function_global I.ok.kind hg (Calls.loadGlobal_global (by rw [I.ok.glob];exact I.mod.glob.keeps I.bk) hm h) hd
theorem fM {E:Value->Shared->Prop}{pins:List (Addr×Obj)}{s:Shared}{U:St}{H:Hp}{x:Str}{u:Value}{pos:Pos}{Q:Value->Shared->Prop}(I:Inv X pins U H s) (hg:Gl X x) (hm:X.mg x=none) (hv:bootBuiltins x=some u) (h:Q u s)
  (hn:x ≠ "__name__":=by decide) (hd:(x==("__debug__":Str))=false:=by decide):wpAny (model X.prog X.w) X.A (eval (.Name x pos) X.env) Q E s:=by
 obtain ⟨mb,h1,h2⟩:=I.mod.blt
 exact Calls.Name_function_global I.ok.kind hg (Calls.loadGlobal_builtin (by rw [I.ok.glob];exact I.mod.glob.keeps I.bk) hm (by rw [I.ok.blt];exact h1.keeps I.bk) ((h2 x hn).trans hv) h) hd
theorem sx {x:Str}{v:V}{u:Value}{pos:Pos}(hg:Gl X x) (hm:X.mg x=some u) (r:aq v u) (hd:(x==("__debug__":Str))=false:=by decide):PE X (.Name x pos) (tC v) :=
 λ_ _ _ H _ I h=>dW I hg hm ⟨v,H,I,r,h⟩ hd
theorem B8 {x:Str}{v:V}{u:Value}{pos:Pos}(hg:Gl X x) (hm:X.mg x=none) (hv:bootBuiltins x=some u) (r:aq v u) (hn:x ≠ "__name__":=by decide) (hd:(x==("__debug__":Str))=false:=by decide):PE X (.Name x pos) (tC v) :=
 λ_ _ _ H _ I h=>fM I hg hm hv ⟨v,H,I,r,h⟩ hn hd
variable {a b:Expr}{ta tb:TE}{pos:Pos}
def tB (t:TE):TT:=λU H Q=>t U H λx H1=>∃ c,x=.bl c/\Q c H1
theorem ER {e:Expr}{t:TE}(h:PE X e t) (he:∀ whole,isTrue e X.env whole=(do let v <- whole;standAt e.pos;holding [v] (truthy v)):=by intro _;rfl):PT X e (tB t):=by
 intro pins s U H Q I hw
 refine isTrue_plain (thn (h pins s U H _ I hw) λv s1 ⟨x,H1,I1,r1,q1⟩=>?_) (he _)
 obtain ⟨d,rfl,q⟩:=q1
 cases r1
 exact wpAny_truthy_bool ⟨H1,I1,q⟩
variable {tA tB':TT}{rest:List Expr}
def Ks (t u:TT):TT:=λU H Q=>t U H λc H1=>if c=true then u U H1 Q else Q false H1
def tOr (t u:TT):TT:=λU H Q=>t U H λc H1=>if c=true then Q true H1 else u U H1 Q
def Kt (t:TT):TT:=λU H Q=>t U H λc H1=>Q (!c) H1
theorem B9 (ha:PT X a tA):PW X (.BoolOp .And [a] pos) tA:=by
 intro wh pins s U H Q I h
 refine isTrue_and (thn (ha pins s U H Q I h) λc s1 e=>?_)
 cases c with
 |true=>exact isTrue_and_nil e
 |false=>exact e
theorem ES (ha:PT X a tA):PW X (.BoolOp .Or [a] pos) tA:=by
 intro wh pins s U H Q I h
 refine isTrue_or (thn (ha pins s U H Q I h) λc s1 e=>?_)
 cases c with
 |false=>exact isTrue_or_nil e
 |true=>exact e
theorem ET (ha:PT X a tA) (hb:PW X (.BoolOp .And (b::rest) pos) tB'):PW X (.BoolOp .And (a::b::rest) pos) (Ks tA tB'):=by
 intro wh pins s U H Q I h
 refine isTrue_and (thn (ha pins s U H _ I h) λc s1 zz2=>?_)
 obtain ⟨H1,I1,q1⟩:=zz2
 cases c with
 |true=>exact hb wh pins s1 U H1 Q I1 q1
 |false=>exact ⟨H1,I1,q1⟩
theorem HS (ha:PT X a tA) (hb:PW X (.BoolOp .Or (b::rest) pos) tB'):PW X (.BoolOp .Or (a::b::rest) pos) (tOr tA tB'):=by
 intro wh pins s U H Q I h
 refine isTrue_or (thn (ha pins s U H _ I h) λc s1 zz3=>?_)
 obtain ⟨H1,I1,q1⟩:=zz3
 cases c with
 |true=>exact ⟨H1,I1,q1⟩
 |false=>exact hb wh pins s1 U H1 Q I1 q1
theorem EU (ha:PT X a tA):PT X (.UnaryOp .Not a pos) (Kt tA):=by
 intro pins s U H Q I h
 exact isTrue_not (ha pins s U H (λc H1=>Q (!c) H1) I h)
def HU (ta tb:TE):TE:=λU H Q=>ta U H λx H1=>∃ c,x=.bl c/\if c=true then tb U H1 Q else Q (.bl false) H1
def Ku (ta tb:TE):TE:=λU H Q=>ta U H λx H1=>∃ c,x=.bl c/\if c=true then Q (.bl true) H1 else tb U H1 Q
def HV (ta:TE):TE:=λU H Q=>ta U H λx H1=>∃ c,x=.bl c/\Q (.bl (!c)) H1
theorem EV {op}{t:TE}(h:PE X a t):PE X (.BoolOp op [a] pos) t:=λpins s U H Q I hw=>BoolOp_one (h pins s U H Q I hw)
theorem EW (ha:PE X a ta) (hb:PE X (.BoolOp .And (b::rest) pos) tb):PE X (.BoolOp .And (a::b::rest) pos) (HU ta tb):=by
 intro pins s U H Q I h
 refine BoolOp_and (thn (ha pins s U H _ I h) λv s1 zz4=>?_)
 obtain ⟨x,H1,I1,r1,q1⟩:=zz4
 obtain ⟨c,rfl,q1⟩:=q1
 cases r1
 refine wpAny_truthy_bool ?_
 cases c with
 |true=>exact hb pins s1 U H1 Q I1 q1
 |false=>exact ⟨.bl false,H1,I1,rfl,q1⟩
theorem HW (ha:PE X a ta) (hb:PE X (.BoolOp .Or (b::rest) pos) tb):PE X (.BoolOp .Or (a::b::rest) pos) (Ku ta tb):=by
 intro pins s U H Q I h
 refine BoolOp_or (thn (ha pins s U H _ I h) λv s1 zz5=>?_)
 obtain ⟨x,H1,I1,r1,q1⟩:=zz5
 obtain ⟨c,rfl,q1⟩:=q1
 cases r1
 refine wpAny_truthy_bool ?_
 cases c with
 |false=>exact hb pins s1 U H1 Q I1 q1
 |true=>exact ⟨.bl true,H1,I1,rfl,q1⟩
theorem EX (ha:PE X a ta):PE X (.UnaryOp .Not a pos) (HV ta):=by
 intro pins s U H Q I h
 refine UnaryOp_ (thn (ha pins s U H _ I h) λv s1 zz6=>?_)
 obtain ⟨x,H1,I1,r1,q1⟩:=zz6
 obtain ⟨c,rfl,q1⟩:=q1
 cases r1
 exact not_of (wpAny_truthy_bool ⟨.bl (!c),H1,I1,rfl,q1⟩)
def tIf (t:TT) (ta tb:TE):TE:=λU H Q=>t U H λc H1=>if c=true then ta U H1 Q else tb U H1 Q
theorem Ay {c:Expr}(hc:PT X c tA) (ha:PE X a ta) (hb:PE X b tb):PE X (.IfExp c a b pos) (tIf tA ta tb):=by
 intro pins s U H Q I h
 refine wpAny_IfExp (thn (hc pins s U H _ I h) λd s1 zz7=>?_)
 obtain ⟨H1,I1,q1⟩:=zz7
 cases d with
 |true=>exact ha pins s1 U H1 Q I1 q1
 |false=>exact hb pins s1 U H1 Q I1 q1
end
def SqL (K:PySem.W.Frag) (H:Hp) (a:Addr) (xs:List V):Prop :=
 Rd H a (.lst xs) \/
  ∃ (o:Obj) (its:Array Value) (n:Nat),K.lookup a=some o/\o.cls=.type "list" /\ o.dict=none/\o.data=.seq its n/\its.size<=sizeLine/\am xs its.toList
def SqT (K:PySem.W.Frag) (H:Hp) (a:Addr) (xs:List V):Prop :=
 Rd H a (.tup xs) \/
  ∃ (o:Obj) (its:Array Value) (n:Nat),K.lookup a=some o/\o.cls=.type "tuple" /\ o.data=.seq its n/\its.size<=sizeLine/\am xs its.toList
noncomputable def Kv:Value->Option V
 |.none=>some .non
 |.bool b=>some (.bl b)
 |.int i _=>some (.int i)
 |.str x _=>some (.str x)
 |.bytes b _=>some (.byt b)
 |.float b _=>some (.flt b)
 |.ref a=>some (.ref a)
 |.type n=>some (.ty n)
 |_=>none
theorem aq.abs {x:V}{u:Value}(r:aq x u):Kv u=some x:=by
 cases x with
 |non=>cases r;rfl
 |bl _=>cases r;rfl
 |int _=>obtain ⟨t,rfl⟩:=r;rfl
 |str _=>obtain ⟨t,rfl⟩:=r;rfl
 |byt _=>obtain ⟨t,rfl⟩:=r;rfl
 |flt _=>obtain ⟨t,rfl⟩:=r;rfl
 |ref _=>cases r;rfl
 |ty _=>cases r;rfl
theorem aq.inj {x y:V}{u:Value}(r:aq x u) (q:aq y u):x=y:=Option.some.inj (r.abs.symm.trans q.abs)
theorem am.inj:∀ {xs ys:List V}{us:List Value},am xs us->am ys us->xs=ys
 |_,_,_,.nil,.nil=>rfl
 |_,_,_,.cons r t,.cons r' t'=>by rw [r.inj r',am.inj t t']
section
variable {X:Cx}{pins:List (Addr×Obj)}{U:St}{H:Hp}{s:Shared}{a:Addr}{xs ys:List V}
theorem SqL.of {K:PySem.W.Frag}(h:H a=some (.lst xs)):SqL K H a xs:=.inl (.inl h)
theorem SqT.of {K:PySem.W.Frag}(h:H a=some (.tup xs)):SqT K H a xs:=.inl (.inl h)
theorem Inv.list (I:Inv X pins U H s) (h:SqL X.K H a xs):∃ its:List Value,am xs its/\PlainL s.heap a its.toArray/\xs.length<=sizeLine:=by
 rcases h with h|⟨o,its,n,hk,hc,hd,hs,hz,r⟩
 ·obtain ⟨z,its,n,r,e⟩:=h.ok I.hok
  exact ⟨its,r,⟨_,n,e,rfl,rfl,rfl⟩,z⟩
 ·refine ⟨its.toList,r,⟨o,n,I.kIn a o hk,hc,hd,by simpa using hs⟩,?_⟩
  have e:=r.length
  simp only [Array.length_toList] at e
  omega
theorem Inv.tuple (I:Inv X pins U H s) (h:SqT X.K H a xs):∃ its:List Value,am xs its/\IsTup s.heap a its.toArray/\xs.length<=sizeLine:=by
 rcases h with h|⟨o,its,n,hk,hc,hs,hz,r⟩
 ·obtain ⟨z,its,r,p⟩:=h.ok I.hok
  exact ⟨its,r,p,z⟩
 ·refine ⟨its.toList,r,⟨o,I.kIn a o hk,hc,n,by simpa using hs⟩,?_⟩
  have e:=r.length
  simp only [Array.length_toList] at e
  omega
theorem Inv.list_inj (I:Inv X pins U H s) (h:SqL X.K H a xs) (h':SqL X.K H a ys):xs=ys:=by
 obtain ⟨its,r,⟨o,n,e,_,_,d⟩,_⟩:=I.list h
 obtain ⟨its',r',⟨o',n',e',_,_,d'⟩,_⟩:=I.list h'
 rw [e] at e';cases e'
 rw [d] at d'
 injection d' with d1 _
 have:its=its':=by simpa using congrArg Array.toList d1
 subst this
 exact r.inj r'
end
noncomputable abbrev Cx.wish (X:Cx) (E:Value->Shared->Prop):Cx:={ X with xe:=E }
noncomputable abbrev Cx.nox (X:Cx):Cx:=X.wish λ_ _=>False
theorem Cx.Ok.wish {X:Cx}(ok:X.Ok) (E:Value->Shared->Prop):(X.wish E).Ok :=
 ⟨ok.mod,ok.kind,ok.glob,ok.blt,ok.above,ok.inj,ok.has,ok.cab,ok.hd,ok.frames,ok.stk,ok.exf,ok.bs,ok.bsz,ok.noex,ok.exfs,ok.funs,ok.frf⟩
theorem Cx.Ok.unwish {X:Cx}{E:Value->Shared->Prop}(ok:(X.wish E).Ok):X.Ok :=
 ⟨ok.mod,ok.kind,ok.glob,ok.blt,ok.above,ok.inj,ok.has,ok.cab,ok.hd,ok.frames,ok.stk,ok.exf,ok.bs,ok.bsz,ok.noex,ok.exfs,ok.funs,ok.frf⟩
section
variable {X:Cx}{pins:List (Addr×Obj)}{U:St}{H:Hp}{s:Shared}{E:Value->Shared->Prop}
theorem Inv.wish (I:Inv X pins U H s) (E:Value->Shared->Prop):Inv (X.wish E) pins U H s:=⟨I.ok.wish E,I.os,I.bare,I.base,I.loc,I.cell,I.free,I.freeC,I.pin,I.hok,I.len⟩
theorem Inv.unwish (I:Inv (X.wish E) pins U H s):Inv X pins U H s:=⟨I.ok.unwish,I.os,I.bare,I.base,I.loc,I.cell,I.free,I.freeC,I.pin,I.hok,I.len⟩
theorem SP.unwish {D:Ends}{f:Flow}{s':Shared}(h:SP (X.wish E) pins D f s'):SP X pins D f s':=by
 cases f with
 |next=>obtain ⟨LO,H',I,q⟩:=h;exact ⟨LO,H',I.unwish,q⟩
 |brk=>obtain ⟨LO,H',I,q⟩:=h;exact ⟨LO,H',I.unwish,q⟩
 |cont=>obtain ⟨LO,H',I,q⟩:=h;exact ⟨LO,H',I.unwish,q⟩
 |ret u=>obtain ⟨v,LO,H',I,r,q⟩:=h;exact ⟨v,LO,H',I.unwish,r,q⟩
theorem PSs.nox {st:List Stmt}{t:TS}(h:PSs X.nox st t):PSs X st t:=λpins s U H D I hw =>
 wpAny_mono (h pins s U H D (I.wish _) hw) (λ_ _ q=>q.unwish) λ_ _ z=>False.elim z
end
section
variable {X:Cx}{st:Stmt}{rest:List Stmt}{t u:TS}{e:Expr}{te:TE}{pos:Pos}
def HX:TS:=λD U H=>D.nx U H
def Kw (t u:TS):TS:=λD U H=>t { D with nx:=u D } U H
theorem B':PSs X [] HX:=λ_ _ U H _ I h=>wpAny_execs_nil ⟨U,H,I,h⟩
theorem Az (h1:PS X st t) (h2:PSs X rest u):PSs X (st::rest) (Kw t u):=by
 intro pins s U H D I h
 refine wpAny_execs_cons (thn (h1 pins s U H { D with nx:=u D } I h) λf s1 q=>?_)
 cases f with
 |next =>
  obtain ⟨LO,H',I',q⟩:=q
  exact h2 pins s1 LO H' D I' q
 |ret v=>exact q
 |brk=>exact q
 |cont=>exact q
theorem Ca (h1:PS X st t):PSs X [st] t:=by
 intro pins s U H D I h
 refine wpAny_execs_cons (thn (h1 pins s U H D I h) λf s1 q=>?_)
 cases f with
 |next=>exact wpAny_execs_nil q
 |ret v=>exact q
 |brk=>exact q
 |cont=>exact q
theorem Inv.quiet {pins:List (Addr×Obj)}{U:St}{H:Hp}{s:Shared}(I:Inv X pins U H s):interactive X.env=false:=by simp [interactive,I.ok.kind]
def HY (te:TE):TS:=λD U H=>te U H λ_ H1=>D.nx U H1
theorem Cb (he:PE X e te) (hs:swapsWith e none pos.line X.env=pure false:=by rfl):PS X (.Expr e pos) (HY te):=by
 intro pins s U H D I h
 exact wpAny_Expr_any (thn (he pins s U H _ I h) λv s1 zz10=>by obtain ⟨x,H1,I1,r1,q1⟩:=zz10;exact ⟨U,H1,I1,q1⟩) I.quiet hs
def Kx (te:TE):TS:=λD U H=>te U H D.rt
theorem EY (he:PE X e te):PS X (.Return (some e) pos) (Kx te):=by
 intro pins s U H D I h
 exact wpAny_Return_some (thn (he pins s U H _ I h) λv s1 zz11=>by obtain ⟨x,H1,I1,r1,q1⟩:=zz11;exact ⟨x,U,H1,I1,r1,q1⟩)
def Kz (c:TT) (t u:TS):TS:=λD U H=>c U H λb H1=>if b=true then t D U H1 else u D U H1
theorem HZ {c:Expr}{a b:List Stmt}{tc:TT}(hc:PT X c tc) (ha:PSs X a t) (hb:PSs X b u):PS X (.If c a b pos) (Kz tc t u):=by
 intro pins s U H D I h
 refine wpAny_If (thn (hc pins s U H _ I h) λd s1 zz12=>?_)
 obtain ⟨H1,I1,q1⟩:=zz12
 cases d with
 |true=>exact ha pins s1 U H1 D I1 q1
 |false=>exact hb pins s1 U H1 D I1 q1
end
abbrev TG:=V->St->Hp->(St->Hp->Prop)->Prop
abbrev TGs:=List V->St->Hp->(St->Hp->Prop)->Prop
def PG (X:Cx) (LR:Expr) (t:TG):Prop :=
 ∀ (pins:List (Addr×Obj)) (s:Shared) (U:St) (H:Hp) (v:V) (u:Value) (Q:St->Hp->Prop),Inv X pins U H s->aq v u->t v U H Q ->
  wpAny (model X.prog X.w) X.A (assign LR X.env u) (λ_ s'=>∃ LO H',Inv X pins LO H' s'/\Q LO H') X.xe s
def PGs (X:Cx) (ts:List Expr) (t:TGs):Prop :=
 ∀ (pins:List (Addr×Obj)) (s:Shared) (U:St) (H:Hp) (vs:List V) (us:List Value) (Q:St->Hp->Prop),Inv X pins U H s->am vs us->t vs U H Q ->
  wpAny (model X.prog X.w) X.A (assignInOrder ((assignEach ts X.env).map (·.2)) us) (λ_ s'=>∃ LO H',Inv X pins LO H' s'/\Q LO H') X.xe s
abbrev kH:=V->V->V->Hp->(Hp->Prop)->Prop
def dn (X:Cx) (t:kH):Prop :=
 ∀ (pins:List (Addr×Obj)) (s:Shared) (U:St) (H:Hp) (o i v:V) (ov iv u:Value) (Q:Hp->Prop),Inv X pins U H s->aq o ov->aq i iv->aq v u->t o i v H Q ->
  wpAny (model X.prog X.w) X.A (setItem ov iv u) (λ_ s'=>∃ H',Inv X pins U H' s'/\Q H') X.xe s
section
variable {X:Cx}{pos:Pos}
def kf (i:Nat):TG:=λv U H Q=>Q (U.set i (some v)) H
theorem Cc {i:Nat}{x:Str}(hN:X.N.Nodup) (hi:X.N[i]?=some x) (hx:Loc X.env.scope x) (hf:X.fn x=true\/X.env.scope.names.lookup x=some .local:=by first|exact .inl rfl|exact .inr rfl|assumption):PG X (.Name x pos) (kf i):=by
 intro pins s U H v u Q I r h
 exact wpAny_assign_Name (mS I hN hi hx r (λs' I'=>⟨_,H,I',h⟩) hf)
def KA:TGs:=λvs U H Q=>vs=[]/\Q U H
def vI (t:TG) (u:TGs):TGs:=λvs U H Q=>∃ v r,vs=v::r/\t v U H λLO H'=>u r LO H' Q
theorem Cd:PGs X [] KA:=by
 intro pins s U H vs us Q I r h
 obtain ⟨e,h⟩:=h
 subst e
 cases r
 exact assignInOrder_nil ⟨U,H,I,h⟩
theorem dC {e:Expr}{es:List Expr}{t:TG}{u:TGs}(h1:PG X e t) (h2:PGs X es u)
  (hs:(assignEach (e::es) X.env).map (·.2)=assign e X.env::(assignEach es X.env).map (·.2):=by rfl):PGs X (e::es) (vI t u):=by
 intro pins s U H vs us Q I r h
 obtain ⟨v,vr,e1,h⟩:=h
 subst e1
 cases r with
 |cons r rr =>
  rw [hs]
  refine assignInOrder_cons (thn (h1 pins s U H _ _ _ I r h) λ_ s1 zz13=>?_)
  obtain ⟨σ1,H1,I1,q1⟩:=zz13
  exact h2 pins s1 σ1 H1 _ _ Q I1 rr q1
def pE (K:PySem.W.Frag) (n:Nat) (t:TGs):TG:=λv U H Q=>∃ a xs,v=.ref a/\SqT K H a xs/\xs.length=n/\t xs U H Q
theorem EZ {es:List Expr}{k:Nat}{t:TGs}{n:Nat}(hc:X.calm=true) (h:PGs X es t)
  (hn:(assignEach es X.env).length=n:=by rfl) (QM:(assignEach es X.env).findIdx? (·.1)=none:=by rfl):PG X (.Tuple es k pos) (pE X.K n t):=by
 intro pins s U H v u Q I r hw
 obtain ⟨a,xs,e1,hq,hl,hw⟩:=hw
 subst e1
 cases r
 obtain ⟨its,rv,ht,hz⟩:=I.tuple hq
 refine assign_Tuple_tuple (I.ok.hd hc) ht (by simp [hn,<- hl,rv.length]) QM λh' hx=>?_
 have I1:Inv X pins U H { s with heap:=h' }:=I.kept (t':=s.toks) λb o e=>hx b o (Nat.ne_of_lt (Heap.lt_size e)) e
 exact h pins _ U H xs _ Q I1 (by simpa using rv) hw
def e8 (to ti:TE) (t:kH):TG:=λv U H Q=>to U H λo H1=>ti U H1 λi H2=>t o i v H2 λH3=>Q U H3
theorem E1 {o i:Expr}{to ti:TE}{t:kH}(ho:PE X o to) (hi:PE X i ti) (hs:dn X t)
  (ha:∀ v,assign (.Subscript o i pos) X.env v=(do
   let ov <- holding [v] (eval o X.env)
   let iv <- holding [v,ov] (eval i X.env)
   standAt pos
   holding [v,ov,iv] (setItem ov iv v)
   release [v,ov,iv] []):=by intro _;rfl):PG X (.Subscript o i pos) (e8 to ti t):=by
 intro pins s U H v u Q I r h
 rw [ha]
 refine wpAny_bind (wpAny_holding (thn (ho pins s U H _ I h) λov s1 zz14=>?_))
 obtain ⟨x,H1,I1,r1,q1⟩:=zz14
 refine wpAny_bind (wpAny_holding (thn (hi pins s1 U H1 _ I1 q1) λiv s2 zz15=>?_))
 obtain ⟨y,H2,I2,r2,q2⟩:=zz15
 refine wpAny_bind (wpAny_standAt (wpAny_bind (wpAny_holding (thn (hs pins s2 U H2 x y v ov iv u _ I2 r1 r2 r q2) λ_ s3 zz16=>?_))))
 obtain ⟨H3,I3,q3⟩:=zz16
 exact wpAny_release ⟨U,H3,I3,q3⟩
def gx (te:TE) (g:TG):TS:=λD U H=>te U H λx H1=>g x U H1 D.nx
theorem E2 {tg e:Expr}{te:TE}{g:TG}(he:PE X e te) (hg:PG X tg g) (hs:swapsWithSole [tg] e pos.line X.env=pure false:=by rfl) (hw:swappedStores [tg] e X.env=pure none:=by rfl)
  (h1:(assignEach [tg] X.env).map (·.2)=[assign tg X.env]:=by rfl):PS X (.Assign [tg] e pos) (gx te g):=by
 intro pins s U H D I h
 refine wpAny_Assign_stores (thn (he pins s U H _ I h) λv s1 ⟨x,H1,I1,r1,q1⟩=>?_) hs hw
 rw [h1]
 exact thn (hg pins s1 U H1 x v _ I1 r1 q1) λ_ s2 q=>q
theorem E3 {i:Nat}{x:Str}{e:Expr}{te:TE}{MA:Pos}(hN:X.N.Nodup) (hi:X.N[i]?=some x) (hx:Loc X.env.scope x) (he:PE X e te) (hs:swapsWith e (some (.Name x MA)) pos.line X.env=pure false:=by rfl) (hf:X.fn x=true\/X.env.scope.names.lookup x=some .local:=by first|exact .inl rfl|exact .inr rfl|assumption) :
  PS X (.Assign [.Name x MA] e pos) (gx te (kf i)):=by
 intro pins s U H D I h
 refine wpAny_Assign_Name (thn (he pins s U H _ I h) λv s1 ⟨y,H1,I1,r1,q1⟩=>?_) hs
 exact mS I1 hN hi hx r1 (λs2 I2=>⟨_,H1,I2,q1⟩) hf
end
section
variable {X:Cx}{pos:Pos}
end
structure It where
 go:Nat->Hp->Prop
 yld:Nat->Hp->V->Hp->Prop
 stop:Nat->Hp->Prop
def cH (X:Cx) (pins:List (Addr×Obj)) (H:Hp) (b:Addr):Prop :=
 H b=none/\b≠X.env.locals/\b∉X.fs/\(b∈X.ex\/X.s₀.heap.objs.size<=b)/\(∀ x c,X.env.cells.lookup x=some c->c≠b)/\∀ p∈X.pn++pins,p.1≠b
theorem Inv.fpOk {X:Cx}{pins:List (Addr×Obj)}{U:St}{H H':Hp}{s:Shared}{b:Addr}(I:Inv X pins U H s) (hb:s.heap.objs.size<=b) (hn:H' b=none):cH X pins H' b:=by
 refine ⟨hn,Nat.ne_of_gt (Nat.lt_of_lt_of_le I.lt hb),I.nofs hb,.inr (Nat.le_trans I.sz hb),λx c e z=>?_,λp hp z=>?_⟩
 ·obtain ⟨v,q⟩:=I.cell x c e
  exact absurd (Nat.lt_of_lt_of_le q.lt (by rw [z];exact hb)) (Nat.lt_irrefl _)
 ·exact absurd (Nat.lt_of_lt_of_le (Heap.lt_size (I.pin p hp).1) (by rw [z];exact hb)) (Nat.lt_irrefl _)
structure Turn (P:Program) (w:World) (K:PySem.W.Frag) (tg:Expr) (J:It) (fp:List Addr) (it:Addr) (tn:Nat->Heap->Prop):Prop where
 mem:it∈fp
 obj:∀ i h,tn i h->∀ b∈fp,∃ o,h.get? b=some o/\∀ v,o.data≠.cell v
 keep:∀ i h h',tn i h->(∀ b∈fp,∀ o,h.get? b=some o->h'.get? b=some o)->tn i h'
 item:∀ (X:Cx),X.prog=P->X.w=w->X.K=K->X.calm=true->∀ (i:Nat) (pins:List (Addr×Obj)) (s:Shared) (U:St) (H:Hp) (E:Value->Shared->Prop),Inv X pins U H s->(∀ b∈fp,cH X pins H b)->tn i s.heap->J.go i H ->
  wpAny (model P w) X.A (pyNext (.ref it)) (λr s1=>∃ u,r=some u /\
   wpAny (model P w) X.A (letOwnedTupleGo tg (.ref it) u) (λ_ s2=>∃ x H',Inv X pins U H' s2/\aq x u/\J.yld i H x H'/\tn (i+1) s2.heap/\∀ b∈fp,H' b=none) E s1) E s
 done:∀ (X:Cx),X.prog=P->X.w=w->X.K=K->X.calm=true->∀ (i:Nat) (pins:List (Addr×Obj)) (s:Shared) (U:St) (H:Hp) (E:Value->Shared->Prop),Inv X pins U H s->(∀ b∈fp,cH X pins H b)->tn i s.heap->J.stop i H ->
  wpAny (model P w) X.A (pyNext (.ref it)) (λr s1=>r=none/\Inv X pins U H s1) E s
 self:∀ (A:Around) (i:Nat) (s:Shared) (Q:Value->Shared->Prop) (E:Value->Shared->Prop),tn i s.heap->Q (.ref it) s->wpAny (model P w) A (pyIter (.ref it)) Q E s
abbrev TI:=St->Hp->(It->Hp->Prop)->Prop
def PIE (X:Cx) (pins:List (Addr×Obj)) (U:St) (tg:Expr) (R:It->Hp->Prop) (itv:Value) (s2:Shared):Prop :=
 ∃ (it:Addr) (fp:List Addr) (tn:Nat->Heap->Prop) (J:It) (H':Hp),itv=.ref it/\Inv X pins U H' s2/\Turn X.prog X.w X.K tg J fp it tn/\tn 0 s2.heap/\(∀ b∈fp,cH X pins H' b)/\R J H'
def PI (X:Cx) (tg iter:Expr) (wi:TI):Prop :=
 ∀ (pins:List (Addr×Obj)) (s:Shared) (U:St) (H:Hp) (R:It->Hp->Prop),Inv X pins U H s->wi U H R ->
  wpAny (model X.prog X.w) X.A (eval iter X.env) (λv s1=>wpAny (model X.prog X.w) X.A (pyIter v) (PIE X pins U tg R) X.xe s1) X.xe s
theorem kg {M:Model}{A:Around}{E:Value->Shared->Prop}{s:Shared}{tg:Expr}{it:Addr}{u:Value}{o:Obj}{n:String}{vs:Array Value}{Q:Unit->Shared->Prop}(ho:s.heap.get? it=some o) (hc:o.cls=.type n) (hd:o.data=.fields vs)
  (hn:["enumerate","zip","dict_itemiterator","dict_reverseitemiterator","odict_iterator","itertools.zip_longest","itertools.pairwise"].contains n=false) (hQ:Q () s):wpAny M A (letOwnedTupleGo tg (.ref it) u) Q E s:=by
 unfold letOwnedTupleGo
 cases tg<;>first
  |exact wpAny_pure hQ
  |(cases u<;>first
    |exact wpAny_pure hQ
    |(refine wpAny_bind (wpAny_load ho ?_)
      rw [hc,hd]
      show wpAny M A (if (["enumerate","zip","dict_itemiterator","dict_reverseitemiterator","odict_iterator","itertools.zip_longest","itertools.pairwise"].contains n&&vs[0]?==some (rawInt _))=true then _ else _) Q E s
      rw [if_neg (by intro h;rw [hn,Bool.false_and] at h;cases h)]
      exact wpAny_pure hQ))
def Itl (K:PySem.W.Frag) (a:Addr):It :=
 ⟨λi H=>∃ xs x,SqL K H a xs/\xs[i]?=some x,λi H x H'=>H'=H/\∀ xs,SqL K H a xs->xs[i]?=some x,λi H=>∃ xs,SqL K H a xs/\xs.length<=i⟩
def Itr (lo:Int) (n:Nat):It:=⟨λi _=>i<n,λi H x H'=>H'=H/\x=.int (lo+i),λi _=>n<=i⟩
theorem zx {P:Program}{w:World}{K:PySem.W.Frag}{tg:Expr}(a it:Addr):Turn P w K tg (Itl K a) [it] it (λi h=>h.IsListIter it a i) where
 mem:=by simp
 obj:=λi h st b hb=>by
  have e:b=it:=by simpa using hb
  subst e
  obtain ⟨o,e,c,d⟩:=st
  exact ⟨o,e,λv z=>by rw [d] at z;cases z⟩
 keep:=λi h h' st k=>st.at λo e=>k it (by simp) o e
 item:=by
  intro X hP hw hK hc i pins s U H E I hf st hg
  subst hP hw hK
  obtain ⟨xs,x,hq,hx⟩:=hg
  obtain ⟨its,rv,p,hz⟩:=I.list hq
  obtain ⟨u,hu,ru⟩:=rv.get hx
  obtain ⟨f0,f1,f2,f3,f4,f5⟩:=hf it (by simp)
  refine wpAny_pyNext_list_item st p.isList (x:=u) (by simpa using hu) λh' P3 sb=>?_
  have I1:Inv X pins U H { s with heap:=h' }:=I.turned (t':=s.toks) (λb o hb e=>(sb.2 b hb).trans e) f0 f1 f3 f4 f5
  obtain ⟨o,e,c,d⟩:=id P3
  exact ⟨u,rfl,kg (s:={ s with heap:=h' }) e c d (by decide) ⟨x,H,I1,ru,⟨rfl,λys hy=>by rw [I.list_inj hy hq];exact hx⟩,P3,λb hb=>(hf b hb).1⟩⟩
 done:=by
  intro X hP hw hK hc i pins s U H E I hf st hg
  subst hP hw hK
  obtain ⟨xs,hq,hx⟩:=hg
  obtain ⟨its,rv,p,hz⟩:=I.list hq
  obtain ⟨f0,f1,f2,f3,f4,f5⟩:=hf it (by simp)
  have hl:=rv.length
  exact wpAny_pyNext_list_end (I.ok.hd hc) st p.isList (by simp;omega) λh' eb=>⟨rfl,I.turned (t':=s.toks) (λb o hb e=>eb b o hb e) f0 f1 f3 f4 f5⟩
 self:=λ_ _ _ _ _ st h=>wpAny_pyIter_listiter st h
theorem yW {P:Program}{w:World}{K:PySem.W.Frag}{tg:Expr}(it:Addr) (lo:Int) (n:Nat):Turn P w K tg (Itr lo n) [it] it (λi h=>IsRangeIter h it (lo+(i:Nat) * 1) ((n:Int) - (i:Nat)) 1) where
 mem:=by simp
 obj:=λi h st b hb=>by
  have e:b=it:=by simpa using hb
  subst e
  exact ⟨_,st,λv z=>by
   have z':Data.fields _=Data.cell v:=z
   cases z'⟩
 keep:=λi h h' st k=>k it (by simp) _ st
 item:=by
  intro X hP hw hK hc i pins s U H E I hf st hg
  subst hP hw hK
  obtain ⟨f0,f1,f2,f3,f4,f5⟩:=hf it (by simp)
  have W:=Walks.range (prog:=X.prog) (w:=X.w) (I.ok.hd hc) it lo 1 n
  refine W.item i s _ _ hg st λv h' tk hv P3 kk=>?_
  obtain ⟨t,rfl⟩:=hv
  have I1:Inv X pins U H { s with heap:=h',toks:=tk }:=I.turned (λb o hb e=>kk b o (by simpa using hb) e) f0 f1 f3 f4 f5
  refine ⟨_,rfl,kg (s:={ s with heap:=h',toks:=tk }) (n:="range_iterator") P3 rfl rfl (by decide) ⟨.int (lo+i),H,I1,⟨t,?_⟩,⟨rfl,rfl⟩,P3,λb hb=>(hf b hb).1⟩⟩
  rw [Int.mul_one]
 done:=by
  intro X hP hw hK hc i pins s U H E I hf st hg
  subst hP hw hK
  obtain ⟨f0,f1,f2,f3,f4,f5⟩:=hf it (by simp)
  exact wpAny_pyNext_range_end (I.ok.hd hc) st (by have:n<=i:=hg;omega) λh' eb=>⟨rfl,I.turned (t':=s.toks) (λb o hb e=>eb b o hb e) f0 f1 f3 f4 f5⟩
 self:=λ_ _ _ _ _ st h=>wpAny_pyIter_rangeiter st h
section
variable {X:Cx}{tg:Expr}
def H0 (K:PySem.W.Frag) (tl:TE):TI:=λU H R=>tl U H λx H1=>∃ a,x=.ref a/\(∃ xs,SqL K H1 a xs)/\R (Itl K a) H1
theorem Ce {l:Expr}{tl:TE}(hl:PE X l tl):PI X tg l (H0 X.K tl):=by
 intro pins s U H R I h
 refine thn (hl pins s U H _ I h) λv s1 zz17=>?_
 obtain ⟨x,H1,I1,r1,q1⟩:=zz17
 obtain ⟨a,e,⟨xs,hq⟩,q⟩:=q1
 subst e
 cases r1
 obtain ⟨its,rv,p,hz⟩:=I1.list hq
 refine wpAny_pyIter_list p.isList ?_
 refine ⟨s1.heap.objs.size,[s1.heap.objs.size],_,_,H1,rfl,I1.kept (t':=s1.toks) λb o e=>Heap.get?_push_of_some _ e,zx a _,⟨_,Heap.get?_push_size _ rfl,rfl,rfl⟩,λb hb=>?_,q⟩
 have e:b=s1.heap.objs.size:=by simpa using hb
 subst e
 exact I1.fpOk (Nat.le_refl _) (I1.hok.fresh (Nat.le_refl _))
theorem rF {pins:List (Addr×Obj)}{U:St}{H:Hp}{s:Shared}{R:It->Hp->Prop}{E:Value->Shared->Prop}{lo hi:Int}{t u v:Tok}{tk:Nat}(I:Inv X pins U H s) (h1:-(2 ^ 62)<=lo) (h2:lo<2 ^ 62) (h3:-(2 ^ 62)<=hi) (h4:hi<2 ^ 62)
  (q:R (Itr lo (hi - lo).toNat) H):wpAny (model X.prog X.w) X.A (pyIter (.ref s.heap.objs.size)) (PIE X pins U tg R) E { s with heap:=s.heap.push { cls:=.type "range",data:=.fields #[.int lo t,.int hi u,.int 1 v] },toks:=tk }:=by
 refine wpAny_pyIter_range (IsRange.new ..) (small_one h1 h2 h3 h4) ?_
 have I1:Inv X pins U H { s with heap:=s.heap.push { cls:=.type "range",data:=.fields #[.int lo t,.int hi u,.int 1 v] },toks:=tk }:=I.kept λb o e=>Heap.get?_push_of_some _ e
 refine ⟨(s.heap.push { cls:=.type "range",data:=.fields #[.int lo t,.int hi u,.int 1 v] }).objs.size,[(s.heap.push { cls:=.type "range",data:=.fields #[.int lo t,.int hi u,.int 1 v] }).objs.size],_,_,H,rfl,
  I1.kept (t':=tk) λb o e=>Heap.get?_push_of_some _ e,yW _ lo (hi - lo).toNat,?_,λb hb=>?_,q⟩
 ·have e1:lo+((0:Nat):Int) * 1=lo:=by simp
  have e2:(((hi - lo).toNat:Nat):Int) - ((0:Nat):Int)=Builtin.Range.rangeSize lo hi 1:=by rw [rangeSize_one];split<;>omega
  show IsRangeIter _ _ (lo+((0:Nat):Int) * 1) ((((hi - lo).toNat:Nat):Int) - ((0:Nat):Int)) 1
  rw [e1,e2]
  exact Heap.get?_push_size _ rfl
 ·have e:b=(s.heap.push { cls:=.type "range",data:=.fields #[.int lo t,.int hi u,.int 1 v] }).objs.size:=by simpa using hb
  subst e
  exact I1.fpOk (Nat.le_refl _) (I1.hok.fresh (Nat.le_refl _))
def Ia (ta:TA):TI:=λU H R=>ta U H λvs H1=>∃ j:Int,vs=[.int j] /\ -(2 ^ 62)<=j/\j<2 ^ 62/\R (Itr 0 j.toNat) H1
def Ib (ta:TA):TI:=λU H R=>ta U H λvs H1=>∃ i j:Int,vs=[.int i,.int j]/\(-(2 ^ 62)<=i/\i<2 ^ 62 /\ -(2 ^ 62)<=j/\j<2 ^ 62)/\R (Itr i (j - i).toNat) H1
theorem zy {a:Expr}{ta:TA}{p pos:Pos}(hg:Gl X "range") (hm:X.mg "range"=none) (ha:PA X [a] ta) (hs:starEach [a] X.env=[(false,eval a X.env)]:=by rfl):PI X tg (.Call (.Name "range" p) [a] [] pos) (Ia ta):=by
 intro pins s U H R I h
 refine Call_ (fM I hg hm boot_range (PyProof.Rows.callWith_type1 (thn (ha pos pins s U H _ I h) λus s1 ⟨vs,H1,I1,r1,q1⟩=>?_) hs rfl))
 obtain ⟨j,e,q1,q2,q⟩:=q1
 subst e
 cases r1 with
 |cons r rr =>
  cases rr
  obtain ⟨t,rfl⟩:=r
  exact call_range_1 (rF I1 (by omega) (by omega) q1 q2 (by simpa using q))
theorem zA {a b:Expr}{ta:TA}{p pos:Pos}(hg:Gl X "range") (hm:X.mg "range"=none) (ha:PA X [a,b] ta) (hs:starEach [a,b] X.env=[(false,eval a X.env),(false,eval b X.env)]:=by rfl) (Sq:starEach [b] X.env=[(false,eval b X.env)]:=by rfl) :
  PI X tg (.Call (.Name "range" p) [a,b] [] pos) (Ib ta):=by
 intro pins s U H R I h
 refine Call_ (fM I hg hm boot_range (PyProof.Rows.callWith_type1 (thn (ha pos pins s U H _ I h) λus s1 ⟨vs,H1,I1,r1,q1⟩=>?_) (by rw [hs,Sq]) (by rw [Sq];rfl)))
 obtain ⟨i,j,e,⟨q1,q2,q3,q4⟩,q⟩:=q1
 subst e
 cases r1 with
 |cons r rr =>
  cases rr with
  |cons r' rr =>
   cases rr
   obtain ⟨t,rfl⟩:=r
   obtain ⟨t',rfl⟩:=r'
   exact call_range_2 (rF I1 q1 q2 q3 q4 q)
def wG (wi:TI) (g:TG) (tb:TS):TS:=λD U H=>wi U H λJ H1=>∃ W:Nat->Nat->St->Hp->Prop,(∃ m,W 0 m U H1)/\∀ i m U H,W i m U H ->
 (J.stop i H/\D.nx U H)\/(J.go i H/\∃ N:St->Hp->Prop,(∀ LO H',N LO H'->∃ m',m'<m/\W (i+1) m' LO H')/\∀ x H',J.yld i H x H'->g x U H' λMz H2=>tb { D with nx:=N,ct:=N,bk:=D.nx } Mz H2)
noncomputable def gU (fp:List Addr) (h:Heap):List (Addr×Obj):=fp.filterMap λb=>(h.get? b).map λo=>(b,o)
theorem jf {fp:List Addr}{h:Heap}{b:Addr}{o:Obj}(hb:b∈fp) (e:h.get? b=some o):(b,o)∈gU fp h:=List.mem_filterMap.mpr ⟨b,hb,by rw [e];rfl⟩
theorem zB {fp:List Addr}{h:Heap}{p:Addr×Obj}(hp:p∈gU fp h):p.1∈fp/\h.get? p.1=some p.2:=by
 obtain ⟨b,hb,e⟩:=List.mem_filterMap.mp hp
 cases q:h.get? b with
 |none=>rw [q] at e;cases e
 |some o =>
  rw [q] at e
  have e':(b,o)=p:=Option.some.inj e
  subst e'
  exact ⟨hb,q⟩
theorem Inv.pinned {pins:List (Addr×Obj)}{U:St}{H:Hp}{s:Shared}{fp:List Addr}(I:Inv X pins U H s) (hf:∀ b∈fp,cH X pins H b) (ho:∀ b∈fp,∃ o,s.heap.get? b=some o/\∀ v,o.data≠.cell v):Inv X (pins++gU fp s.heap) U H s :=
 I.pins_of λp hp=>(List.mem_append.mp hp).elim (λz=>I.pin p (List.mem_append_right _ z)) λz=>by
  obtain ⟨hb,e⟩:=zB z
  obtain ⟨f0,f1,f2,_⟩:=hf p.1 hb
  obtain ⟨o,e',d⟩:=ho p.1 hb
  rw [e] at e';cases e'
  exact ⟨e,f0,f1,f2,d⟩
theorem Inv.unpinned {pins pl:List (Addr×Obj)}{U:St}{H:Hp}{s:Shared}(I:Inv X (pins++pl) U H s):Inv X pins U H s:=I.pins_of λp hp=>I.pin p (List.mem_append_right _ (List.mem_append_left _ hp))
theorem E4 {iter:Expr}{body:List Stmt}{wi:TI}{g:TG}{tb:TS}{pos:Pos}(hp:PassesOwn (model X.prog X.w) X.A X.env X.xe) (hc:X.calm=true) (hi:PI X tg iter wi) (hg:PG X tg g) (hb:PSs X body tb)
  (hs:∀ x,foldedSetIterable iter X.env x=pure x:=by intro _;rfl):PS X (.For tg iter body [] pos) (wG wi g tb):=by
 intro pins s U H D I h
 refine wpAny_For (thn (hi pins s U H _ I h) λv s1 h1=>thn h1 λitv s2 h2=>?_) hs
 obtain ⟨it,fp,tn,J,H2,e,I2,T,st2,f2,W,⟨m0,w0⟩,turn⟩:=h2
 subst e
 -- what stays true of the Sr objects through the loop
 have stat:∀ {H':Hp},(∀ b∈fp,H' b=none)->∀ b∈fp,cH X pins H' b:=λhn b hb=>⟨hn b hb,(f2 b hb).2⟩
 refine codeAny_forLoop_any (λn s'=>∃ i LO H',Inv X pins LO H' s'/\tn i s'.heap/\(∀ b∈fp,H' b=none)/\W i n LO H') ?_ m0 ⟨0,U,H2,I2,st2,λb hb=>(f2 b hb).1,w0⟩
 rintro n s3 ⟨i,RH,H3,I3,st3,fr3,w3⟩
 rcases turn i n RH H3 w3 with ⟨stop,qn⟩|⟨go,N,hN,step⟩
 ·refine wpAny_passesOwn hp (thn (T.done X rfl rfl rfl hc i pins s3 RH H3 X.xe I3 (stat fr3) st3 stop) λr s4 ⟨hr,I4⟩=>?_)
  subst hr
  exact wpAny_execs_nil ⟨RH,H3,I4,qn⟩
 ·refine wpAny_passesOwn hp (thn (T.item X rfl rfl rfl hc i pins s3 RH H3 X.xe I3 (stat fr3) st3 go) λr s4 ⟨u,hr,h4⟩=>?_)
  subst hr
  refine wpAny_passesOwn hp (thn h4 λ_ s5 zz18=>?_)
  obtain ⟨x,H5,I5,r5,y5,Ss,fr5⟩:=zz18
  have I5':=I5.pinned (stat fr5) (T.obj _ _ Ss)
  refine wpAny_passesOwn hp (thn (hg _ s5 RH H5 x u _ I5' r5 (step x H5 y5)) λ_ s6 zz19=>?_)
  obtain ⟨RM,H6,I6,q6⟩:=zz19
  refine wpAny_passesOwn hp (thn (hb _ s6 RM H6 _ I6 q6) λf s7 q7=>?_)
  have again:∀ {Q7:St}{H7:Hp},Inv X (pins++gU fp s5.heap) Q7 H7 s7->N Q7 H7->∃ m,m<n/\∃ i LO H',Inv X pins LO H' s7/\tn i s7.heap/\(∀ b∈fp,H' b=none)/\W i m LO H':=fun {Q7 H7} I7 n7=>by
   obtain ⟨m',hm,w7⟩:=hN Q7 H7 n7
   refine ⟨m',hm,i+1,Q7,H7,I7.unpinned,T.keep _ _ _ Ss λb hb o e=>(I7.pin (b,o) (List.mem_append_right _ (List.mem_append_right _ (jf hb e)))).1,λb hb=>?_,w7⟩
   obtain ⟨o,e,d⟩:=T.obj _ _ Ss b hb
   exact (I7.pin (b,o) (List.mem_append_right _ (List.mem_append_right _ (jf hb e)))).2.1
  cases f with
  |next=>obtain ⟨Q7,H7,I7,n7⟩:=q7;exact again I7 n7
  |cont=>obtain ⟨Q7,H7,I7,n7⟩:=q7;exact again I7 n7
  |brk=>obtain ⟨Q7,H7,I7,q7⟩:=q7;exact ⟨Q7,H7,I7.unpinned,q7⟩
  |ret v=>obtain ⟨x7,Q7,H7,I7,r7,q7⟩:=q7;exact ⟨x7,Q7,H7,I7.unpinned,r7,q7⟩
end
abbrev R2:=V->V->Hp->VK->Prop
def OpR (X:Cx) (f:Value->Value->Sem Value) (r:R2):Prop :=
 ∀ (pins:List (Addr×Obj)) (s:Shared) (U:St) (H:Hp) (x y:V) (v u:Value) (Q:VK),Inv X pins U H s->aq x v->aq y u->r x y H Q ->
  wpAny (model X.prog X.w) X.A (f v u) (EP X pins U Q) X.xe s
def UnR (X:Cx) (f:Value->Sem Value) (r:V->Hp->VK->Prop):Prop :=
 ∀ (pins:List (Addr×Obj)) (s:Shared) (U:St) (H:Hp) (x:V) (v:Value) (Q:VK),Inv X pins U H s->aq x v->r x H Q ->
  wpAny (model X.prog X.w) X.A (f v) (EP X pins U Q) X.xe s
def bf (X:Cx) (f:Value) (r:List V->Hp->VK->Prop):Prop :=
 ∀ (pins:List (Addr×Obj)) (s:Shared) (U:St) (H:Hp) (xs:List V) (us:List Value) (Q:VK),Inv X pins U H s->am xs us->r xs H Q ->
  wpAny (model X.prog X.w) X.A (call f us) (EP X pins U Q) X.xe s
def KB (X:Cx) (r:V->Hp->(Bool->Hp->Prop)->Prop):Prop :=
 ∀ (pins:List (Addr×Obj)) (s:Shared) (U:St) (H:Hp) (x:V) (v:Value) (Q:Bool->Hp->Prop),Inv X pins U H s->aq x v->r x H Q ->
  wpAny (model X.prog X.w) X.A (truthy v) (TP X pins U Q) X.xe s
def tOp (r:R2) (ta tb:TE):TE:=λU H Q=>ta U H λx H1=>tb U H1 λy H2=>r x y H2 Q
def tUn (r:V->Hp->VK->Prop) (ta:TE):TE:=λU H Q=>ta U H λx H1=>r x H1 Q
def rI (C:Int->Int->Prop) (g:Int->Int->V):R2:=λx y H Q=>∃ i j,x=.int i/\y=.int j/\C i j/\Q (g i j) H
def rI0 (g:Int->Int->V):R2:=λx y H Q=>∃ i j,x=.int i/\y=.int j/\Q (g i j) H
def rU (g:Int->V):V->Hp->VK->Prop:=λx H Q=>∃ i,x=.int i/\Q (g i) H
section
variable {X:Cx}{a b c:Expr}{ta tb tc:TE}{pos:Pos}
theorem pF (ha:PE X a ta) (hb:PE X b tb){pins:List (Addr×Obj)}{s:Shared}{U:St}{H:Hp}{R:V->V->Hp->Prop}(I:Inv X pins U H s)
  (h:ta U H λx H1=>tb U H1 λy H2=>R x y H2){Q:Value->Shared->Prop}{f:Value->Value->Sem Value}
  (hf:∀ v u s2 x y H2,Inv X pins U H2 s2->aq x v->aq y u->R x y H2->wpAny (model X.prog X.w) X.A (f v u) Q X.xe s2) :
  wpAny (model X.prog X.w) X.A (eval a X.env) (λv LU=>wpAny (model X.prog X.w) X.A (eval b X.env) (λu Pq=>wpAny (model X.prog X.w) X.A (f v u) Q X.xe Pq) X.xe LU) X.xe s:=by
 refine thn (ha pins s U H _ I h) λv s1 zz20=>?_
 obtain ⟨x,H1,I1,r1,q1⟩:=zz20
 refine thn (hb pins s1 U H1 _ I1 q1) λu s2 zz21=>?_
 obtain ⟨y,H2,I2,r2,q2⟩:=zz21
 exact hf v u s2 x y H2 I2 r1 r2 q2
theorem Ic {op:Operator}{r:R2}(ho:OpR X (binaryOp op) r) (ha:PE X a ta) (hb:PE X b tb):PE X (.BinOp a op b pos) (tOp r ta tb):=by
 intro pins s U H Q I h
 exact wpAny_BinOp (pF ha hb I h λv u s2 x y H2 I2 rx ry q=>ho pins s2 U H2 x y v u Q I2 rx ry q)
theorem Ie {op:UnaryOp}{r:V->Hp->VK->Prop}(ho:UnR X (unaryOp op) r) (ha:PE X a ta):PE X (.UnaryOp op a pos) (tUn r ta):=by
 intro pins s U H Q I h
 exact UnaryOp_ (thn (ha pins s U H _ I h) λv s1 zz22=>by obtain ⟨x,H1,I1,r1,q1⟩:=zz22;exact ho pins s1 U H1 x v Q I1 r1 q1)
theorem opI {f:Value->Value->Sem Value}{C:Int->Int->Prop}{g:Int->Int->Int}
  (rule:∀ (i j:Int) (t u:Tok) (s:Shared) (Q:Value->Shared->Prop) (E:Value->Shared->Prop),C i j->Q (.int (g i j) s.toks) { s with toks:=s.toks+1 }->wpAny (model X.prog X.w) X.A (f (.int i t) (.int j u)) Q E s) :
  OpR X f (rI C λi j=>.int (g i j)):=by
 intro pins s U H x y v u Q I rx ry h
 obtain ⟨i,j,rfl,rfl,hc,q⟩:=h
 obtain ⟨t,rfl⟩:=rx
 obtain ⟨t',rfl⟩:=ry
 exact rule i j t t' s _ _ hc ⟨.int (g i j),H,I.tok _,⟨_,rfl⟩,q⟩
theorem wH {f:Value->Value->Sem Value}{g:Int->Int->Int}
  (rule:∀ (i j:Int) (t u:Tok) (s:Shared) (Q:Value->Shared->Prop) (E:Value->Shared->Prop),Q (.int (g i j) s.toks) { s with toks:=s.toks+1 }->wpAny (model X.prog X.w) X.A (f (.int i t) (.int j u)) Q E s) :
  OpR X f (rI0 λi j=>.int (g i j)):=by
 intro pins s U H x y v u Q I rx ry h
 obtain ⟨i,j,rfl,rfl,q⟩:=h
 obtain ⟨t,rfl⟩:=rx
 obtain ⟨t',rfl⟩:=ry
 exact rule i j t t' s _ _ ⟨.int (g i j),H,I.tok _,⟨_,rfl⟩,q⟩
theorem kI {f:Value->Value->Sem Value}{g:Int->Int->Bool}
  (rule:∀ (i j:Int) (t u:Tok) (s:Shared) (Q:Value->Shared->Prop) (E:Value->Shared->Prop),Q (.bool (g i j)) s->wpAny (model X.prog X.w) X.A (f (.int i t) (.int j u)) Q E s) :
  OpR X f (rI0 λi j=>.bl (g i j)):=by
 intro pins s U H x y v u Q I rx ry h
 obtain ⟨i,j,rfl,rfl,q⟩:=h
 obtain ⟨t,rfl⟩:=rx
 obtain ⟨t',rfl⟩:=ry
 exact rule i j t t' s _ _ ⟨.bl (g i j),H,I,rfl,q⟩
def wI (i j:Int):Prop:=0<=j/\j<=1000000/\i.natAbs<2 ^ 64
def iI (i j:Int):Prop:=(-(2 ^ 64)<i/\i<2 ^ 64)\/(-(2 ^ 64)<j/\j<2 ^ 64)
theorem iI.ok {i j:Int}(h:iI i j):IntMulOk i j:=by
 rcases h with ⟨h1,h2⟩|⟨h1,h2⟩
 ·exact .of_left (intBits_le_64 h1 h2)
 ·exact .of_right (intBits_le_64 h1 h2)
theorem yX (k:Nat):(0:Int)<=2 ^ k:=by
 rw [two_pow_cast]
 exact Int.natCast_nonneg _
theorem E5:OpR X (binaryOp .Add) (rI0 λi j=>.int (i+j)):=wH λ_ _ _ _ _ _ _ q=>add_int q
theorem E6:OpR X (binaryOp .Sub) (rI0 λi j=>.int (i - j)):=wH λ_ _ _ _ _ _ _ q=>sub_int q
theorem E7:OpR X (binaryOp .Mult) (rI iI λi j=>.int (i * j)):=opI λ_ _ _ _ _ _ _ hc q=>mul_int q hc.ok
theorem E8:OpR X (binaryOp .Mod) (rI (λ_ j=>0<j) λi j=>.int (i % j)):=opI λi j _ _ _ _ _ hc q=>by
 have h1:(0:Int)<j:=hc
 exact mod_int' (by omega) (by rw [Int.fmod_eq_emod_of_nonneg i (by omega)];exact q)
theorem E9:OpR X (binaryOp .Pow) (rI wI λi j=>.int (i ^ j.toNat)):=opI λ_ _ _ _ _ _ _ hc q=>pow_int_small hc.1 hc.2.1 hc.2.2 q
theorem Fa:OpR X (binaryOp .RShift) (rI (λ_ j=>0<=j) λi j=>.int (i / 2 ^ j.toNat)):=opI λi j _ _ _ _ _ hc q =>
 rshift_int hc (by rw [Int.fdiv_eq_ediv_of_nonneg i (yX _)];exact q)
theorem unI {f:Value->Sem Value}{g:Int->Int}
  (rule:∀ (i:Int) (t:Tok) (s:Shared) (Q:Value->Shared->Prop) (E:Value->Shared->Prop),Q (.int (g i) s.toks) { s with toks:=s.toks+1 }->wpAny (model X.prog X.w) X.A (f (.int i t)) Q E s) :
  UnR X f (rU λi=>.int (g i)):=by
 intro pins s U H x v Q I rx h
 obtain ⟨i,rfl,q⟩:=h
 obtain ⟨t,rfl⟩:=rx
 exact rule i t s _ _ ⟨.int (g i),H,I.tok _,⟨_,rfl⟩,q⟩
theorem Fc:UnR X (unaryOp .USub) (rU λi=>.int (-i)):=unI λ_ _ _ _ _ q=>neg_int q
end
noncomputable def wJ:V->V->Bool
 |.non,.non=>true|.non,.int _=>true|.int _,.non=>true|.non,.bl _=>true|.bl _,.non=>true|.non,.str _=>true|.str _,.non=>true
 |.int _,.int _=>true|.bl _,.bl _=>true|.str _,.str _=>true|.byt _,.byt _=>true
 |.int _,.str _=>true|.str _,.int _=>true|.bl _,.str _=>true|.str _,.bl _=>true
 |_,_=>false
def rEq:R2:=λx y H Q=>wJ x y=true/\Q (.bl (decide (x=y))) H
def rNe:R2:=λx y H Q=>wJ x y=true/\Q (.bl (!decide (x=y))) H
theorem sy {i j:Int}:decide (V.int i=V.int j)=(i==j):=by
 rw [Bool.eq_iff_iff]
 simp
theorem ue {i j:Bool}:decide (V.bl i=V.bl j)=(i==j):=by
 rw [Bool.eq_iff_iff]
 simp
theorem sA {i j:Str}:decide (V.str i=V.str j)=(i==j):=by
 rw [Bool.eq_iff_iff]
 simp
theorem sB {i j:Array UInt8}:decide (V.byt i=V.byt j)=(i.toList==j.toList):=by
 rw [Bool.eq_iff_iff]
 cases i
 cases j
 simp
section
variable {X:Cx}{a b c:Expr}{ta tb tc:TE}{pos:Pos}
theorem aQ {pins:List (Addr×Obj)}{U:St}{H:Hp}{s:Shared}{Q:VK}{k k':Bool}(I:Inv X pins U H s) (q:Q (.bl k) H) (e:k=k'):EP X pins U Q (.bool k') s:=by
 subst e
 exact ⟨.bl k,H,I,rfl,q⟩
theorem oW:OpR X (compareOp .Eq) rEq:=by
 intro pins s U H x y v u Q I rx ry h
 obtain ⟨hs,q⟩:=h
 cases x with
 |non =>
  cases rx
  cases y with
  |non=>cases ry;exact PySem.EqNone.eq_none_none (aQ I q (by simp))
  |bl j=>cases ry;exact PySem.EqNone.eq_none_bool (aQ I q (by simp))
  |int j=>obtain ⟨t',rfl⟩:=ry;exact PySem.EqNone.eq_none_int (aQ I q (by simp))
  |str j=>obtain ⟨t',rfl⟩:=ry;exact PySem.EqNone.eq_none_str (aQ I q (by simp))
  |_=>exact absurd (show false=true from hs) Bool.false_ne_true
 |bl i =>
  cases rx
  cases y with
  |non=>cases ry;exact PySem.EqNone.eq_bool_none (aQ I q (by simp))
  |bl j=>cases ry;exact eq_bool (aQ I q ue)
  |str j=>obtain ⟨t',rfl⟩:=ry;exact PySem.EqMixed.eq_bool_str (aQ I q (by simp))
  |_=>exact absurd (show false=true from hs) Bool.false_ne_true
 |int i =>
  obtain ⟨t,rfl⟩:=rx
  cases y with
  |non=>cases ry;exact PySem.EqNone.eq_int_none (aQ I q (by simp))
  |int j=>obtain ⟨t',rfl⟩:=ry;exact eq_int (aQ I q sy)
  |str j=>obtain ⟨t',rfl⟩:=ry;exact PySem.EqMixed.eq_int_str (aQ I q (by simp))
  |_=>exact absurd (show false=true from hs) Bool.false_ne_true
 |str i =>
  obtain ⟨t,rfl⟩:=rx
  cases y with
  |non=>cases ry;exact PySem.EqNone.eq_str_none (aQ I q (by simp))
  |bl j=>cases ry;exact PySem.EqMixed.eq_str_bool (aQ I q (by simp))
  |int j=>obtain ⟨t',rfl⟩:=ry;exact PySem.EqMixed.eq_str_int (aQ I q (by simp))
  |str j=>obtain ⟨t',rfl⟩:=ry;exact eq_str (aQ I q sA)
  |_=>exact absurd (show false=true from hs) Bool.false_ne_true
 |byt i =>
  obtain ⟨t,rfl⟩:=rx
  cases y with
  |byt j=>obtain ⟨t',rfl⟩:=ry;exact PySem.W.eq_bytes (aQ I q sB)
  |_=>exact absurd (show false=true from hs) Bool.false_ne_true
 |_=>cases y<;>exact absurd (show false=true from hs) Bool.false_ne_true
theorem oX:OpR X (compareOp .NotEq) rNe:=by
 intro pins s U H x y v u Q I rx ry h
 obtain ⟨hs,q⟩:=h
 cases x with
 |non =>
  cases rx
  cases y with
  |non=>cases ry;exact PySem.EqNone.ne_none_none (aQ I q (by simp))
  |bl j=>cases ry;exact PySem.EqNone.ne_none_bool (aQ I q (by simp))
  |int j=>obtain ⟨t',rfl⟩:=ry;exact PySem.EqNone.ne_none_int (aQ I q (by simp))
  |str j=>obtain ⟨t',rfl⟩:=ry;exact PySem.EqNone.ne_none_str (aQ I q (by simp))
  |_=>exact absurd (show false=true from hs) Bool.false_ne_true
 |bl i =>
  cases rx
  cases y with
  |non=>cases ry;exact PySem.EqNone.ne_bool_none (aQ I q (by simp))
  |bl j=>cases ry;exact ne_bool (aQ I q (congrArg not ue))
  |str j=>obtain ⟨t',rfl⟩:=ry;exact PySem.EqMixed.ne_bool_str (aQ I q (by simp))
  |_=>exact absurd (show false=true from hs) Bool.false_ne_true
 |int i =>
  obtain ⟨t,rfl⟩:=rx
  cases y with
  |non=>cases ry;exact PySem.EqNone.ne_int_none (aQ I q (by simp))
  |int j=>obtain ⟨t',rfl⟩:=ry;exact ne_int (aQ I q (congrArg not sy))
  |str j=>obtain ⟨t',rfl⟩:=ry;exact PySem.EqMixed.ne_int_str (aQ I q (by simp))
  |_=>exact absurd (show false=true from hs) Bool.false_ne_true
 |str i =>
  obtain ⟨t,rfl⟩:=rx
  cases y with
  |non=>cases ry;exact PySem.EqNone.ne_str_none (aQ I q (by simp))
  |bl j=>cases ry;exact PySem.EqMixed.ne_str_bool (aQ I q (by simp))
  |int j=>obtain ⟨t',rfl⟩:=ry;exact PySem.EqMixed.ne_str_int (aQ I q (by simp))
  |str j=>obtain ⟨t',rfl⟩:=ry;exact ne_str (aQ I q (congrArg not sA))
  |_=>exact absurd (show false=true from hs) Bool.false_ne_true
 |byt i =>
  obtain ⟨t,rfl⟩:=rx
  cases y with
  |byt j=>obtain ⟨t',rfl⟩:=ry;exact PySem.W.ne_bytes (aQ I q (congrArg not sB))
  |_=>exact absurd (show false=true from hs) Bool.false_ne_true
 |_=>cases y<;>exact absurd (show false=true from hs) Bool.false_ne_true
theorem Ig:OpR X (compareOp .Lt) (rI0 λi j=>.bl (decide (i<j))):=kI λ_ _ _ _ _ _ _ q=>lt_int q
theorem Ih:OpR X (compareOp .LtE) (rI0 λi j=>.bl (decide (i<=j))):=kI λ_ _ _ _ _ _ _ q=>le_int q
theorem Ii:OpR X (compareOp .Gt) (rI0 λi j=>.bl (decide (j<i))):=kI λ_ _ _ _ _ _ _ q=>gt_int q
theorem Ij:OpR X (compareOp .GtE) (rI0 λi j=>.bl (decide (j<=i))):=kI λ_ _ _ _ _ _ _ q=>ge_int q
theorem zC:OpR X (compareOp .Lt) (λx y H Q=>∃ i j,x=.str i/\y=.str j/\Q (.bl (decide (i.cps.toList<j.cps.toList))) H):=by
 intro pins s U H x y v u Q I rx ry h
 obtain ⟨i,j,rfl,rfl,q⟩:=h
 obtain ⟨t,rfl⟩:=rx
 obtain ⟨t',rfl⟩:=ry
 exact lt_str (aQ I q rfl)
theorem zD:OpR X (compareOp .In) (λx y H Q=>∃ i j,x=.str i/\y=.str j/\Q (.bl (!(Builtin.Str.occurrences j i 0 j.length 1).isEmpty)) H):=by
 intro pins s U H x y v u Q I rx ry h
 obtain ⟨i,j,rfl,rfl,q⟩:=h
 obtain ⟨t,rfl⟩:=rx
 obtain ⟨t',rfl⟩:=ry
 exact in_str (aQ I q rfl)
theorem Fd:OpR X (compareOp .Is) (λx y H Q=>y=.non/\Q (.bl (decide (x=.non))) H):=by
 intro pins s U H x y v u Q I rx ry h
 obtain ⟨rfl,q⟩:=h
 cases ry
 refine is_none_gen (aQ I q ?_)
 cases x<;>first
  |(cases rx;rfl)
  |(obtain ⟨t,rfl⟩:=rx;rfl)
theorem ye:OpR X (compareOp .NotIn) (λx y H Q=>∃ i j,x=.str i/\y=.str j/\Q (.bl (!(!(Builtin.Str.occurrences j i 0 j.length 1).isEmpty))) H):=by
 intro pins s U H x y v u Q I rx ry h
 obtain ⟨i,j,rfl,rfl,q⟩:=h
 obtain ⟨t,rfl⟩:=rx
 obtain ⟨t',rfl⟩:=ry
 exact notIn_str (aQ I q rfl)
theorem nW (b:Expr){op:CmpOp}(h:op≠.In:=by decide) (h2:op≠.NotIn:=by decide):behindInMarks op b=false:=by
 have e1:(op==CmpOp.In)=false:=by cases op<;>first|rfl|exact absurd rfl h
 have e2:(op==CmpOp.NotIn)=false:=by cases op<;>first|rfl|exact absurd rfl h2
 cases b<;>simp [behindInMarks,e1,e2]
theorem Cf {op:CmpOp}{r:R2}(ho:OpR X (compareOp op) r) (ha:PE X a ta) (hb:PE X b tb) (hm:behindInMarks op b=false):PE X (.Compare a [op] [b] pos) (tOp r ta tb):=by
 intro pins s U H Q I h
 exact wpAny_Compare1 (pF ha hb I h λv u s2 x y H2 I2 rx ry q=>ho pins s2 U H2 x y v u Q I2 rx ry q) hm
def oY (t:TE):TT:=λU H Q=>t U H λx H'=>∃ k,x=.bl k/\Q k H'
theorem Cg {op:CmpOp}{r:R2}(ho:OpR X (compareOp op) r) (ha:PE X a ta) (hb:PE X b tb) (hm:behindInMarks op b=false):PT X (.Compare a [op] [b] pos) (oY (tOp r ta tb)):=by
 intro pins s U H Q I h
 refine wpAny_isTrue_Compare1 (thn (ha pins s U H _ I h) λv s1 ⟨x,H1,I1,r1,q1⟩=>thn (hb pins s1 U H1 _ I1 q1) λu s2 ⟨y,H2,I2,r2,q2⟩ =>
  thn (ho pins s2 U H2 x y v u _ I2 r1 r2 q2) λc s3 ⟨z,H3,I3,r3,k,e,q3⟩=>?_) hm
 subst e
 cases r3
 exact wpAny_truthy_bool ⟨H3,I3,q3⟩
def nX (r r':R2) (ta tb tc:TE):TE:=λU H Q=>ta U H λx H1=>tb U H1 λy H2=>r x y H2 λz H3=>∃ k,z=.bl k /\
 (if k=true then tc U H3 λw' H4=>r' y w' H4 Q else Q (.bl false) H3)
theorem AA {op Ql:CmpOp}{r r':R2}(ho:OpR X (compareOp op) r) (P1:OpR X (compareOp Ql) r') (ha:PE X a ta) (hb:PE X b tb) (hc:PE X c tc)
  (hm:lastMarks [op,Ql] [b,c]=false:=by with_unfolding_all rfl):PE X (.Compare a [op,Ql] [b,c] pos) (nX r r' ta tb tc):=by
 intro pins s U H Q I h
 refine Compare_chain (thn (ha pins s U H _ I h) λv s1 ⟨x,H1,I1,r1,q1⟩=>chain_link (thn (hb pins s1 U H1 _ I1 q1) λu s2 ⟨y,H2,I2,r2,q2⟩ =>
  thn (ho pins s2 U H2 x y v u _ I2 r1 r2 q2) λd s3 ⟨z,H3,I3,r3,k,e,q3⟩=>?_)) hm
 subst e
 cases r3
 refine wpAny_truthy_bool ?_
 cases k with
 |false=>exact ite_ff ⟨.bl false,H3,I3,rfl,q3⟩
 |true=>exact ite_tt (chain_last (thn (hc pins s3 U H3 _ I3 q3) λw' s4 ⟨z',H4,I4,r4,q4⟩=>P1 pins s4 U H4 y z' u w' Q I4 r2 r4 q4))
theorem AB {op Ql:CmpOp}{r r':R2}(ho:OpR X (compareOp op) r) (P1:OpR X (compareOp Ql) r') (ha:PE X a ta) (hb:PE X b tb) (hc:PE X c tc)
  (hm:lastMarks [op,Ql] [b,c]=false:=by with_unfolding_all rfl):PT X (.Compare a [op,Ql] [b,c] pos) (oY (nX r r' ta tb tc)):=by
 intro pins s U H Q I h
 refine isTrue_chain (thn (ha pins s U H _ I h) λv s1 ⟨x,H1,I1,r1,q1⟩=>test_link (thn (hb pins s1 U H1 _ I1 q1) λu s2 ⟨y,H2,I2,r2,q2⟩ =>
  thn (ho pins s2 U H2 x y v u _ I2 r1 r2 q2) λd s3 ⟨z,H3,I3,r3,k,e,q3⟩=>?_)) hm
 subst e
 cases r3
 refine wpAny_truthy_bool ?_
 cases k with
 |false =>
  obtain ⟨k',e',q'⟩:=q3
  cases e'
  exact ite_ff ⟨H3,I3,q'⟩
 |true =>
  refine ite_tt (test_last (thn (hc pins s3 U H3 _ I3 q3) λw' s4 zz23=>?_))
  obtain ⟨z',H4,I4,r4,q4⟩:=zz23
  refine thn (P1 pins s4 U H4 y z' u w' _ I4 r2 r4 q4) λd' s5 zz24=>?_
  obtain ⟨z2,H5,I5,r5,k2,e2,q5⟩:=zz24
  subst e2
  cases r5
  exact wpAny_truthy_bool ⟨H5,I5,q5⟩
def wK (K:PySem.W.Frag) (x:V) (H:Hp) (k:Bool):Prop :=
 match x with
 |.non=>k=false
 |.bl b=>k=b
 |.int i=>k=(i != 0)
 |.str y=>y.length<=sizeLine/\k=((y.length:Int) != 0)
 |.byt y=>y.size<=sizeLine/\k=((y.size:Int) != 0)
 |.ref p=>(∃ xs,SqL K H p xs/\k=!xs.isEmpty)\/(∃ xs,SqT K H p xs/\k=!xs.isEmpty)\/∃ kvs,H p=some (.dK kvs)/\k=!kvs.isEmpty
 |_=>False
theorem yY {κ:Type}{kvs:List (κ×V)}{vs:List (κ×Value)}(r:KV kvs vs):(!vs.isEmpty)=!kvs.isEmpty:=by
 cases r<;>rfl
theorem qr {xs:List V}{its:List Value}(r:am xs its):(!its.toArray.isEmpty)=!xs.isEmpty:=by
 cases r<;>simp
theorem eQ:(sizeLine:Nat)<2 ^ 63:=by rw [sizeLine_eq];decide
theorem Fe:KB X (λx H Q=>∃ k,wK X.K x H k/\Q k H):=by
 intro pins s U H x v Q I rx h
 obtain ⟨k,e,q⟩:=h
 have hl:=eQ
 have hs:sizeLine=16777216:=sizeLine_eq
 cases x with
 |non =>
  cases rx
  have e':k=false:=e
  subst e'
  exact truthy_none ⟨H,I,q⟩
 |bl b =>
  cases rx
  have e':k=b:=e
  subst e'
  exact wpAny_truthy_bool ⟨H,I,q⟩
 |int i =>
  obtain ⟨t,rfl⟩:=rx
  have e':k=(i != 0):=e
  subst e'
  exact PySem.P.truthy_int ⟨H,I,q⟩
 |str y =>
  obtain ⟨t,rfl⟩:=rx
  obtain ⟨hy,e'⟩:y.length<=sizeLine/\k=((y.length:Int) != 0):=e
  subst e'
  exact PySem.P.truthy_str (by omega) ⟨H,I.tok _,q⟩
 |byt y =>
  obtain ⟨t,rfl⟩:=rx
  obtain ⟨hy,e'⟩:y.size<=sizeLine/\k=((y.size:Int) != 0):=e
  subst e'
  exact PySem.W.truthy_bytes (by omega) ⟨H,I.tok _,q⟩
 |ref p =>
  cases rx
  have e':(∃ xs,SqL X.K H p xs/\k=!xs.isEmpty)\/(∃ xs,SqT X.K H p xs/\k=!xs.isEmpty)\/∃ kvs,H p=some (.dK kvs)/\k=!kvs.isEmpty:=e
  rcases e' with ⟨xs,hx,e'⟩|⟨xs,hx,e'⟩|⟨kvs,hx,e'⟩
  ·subst e'
   obtain ⟨its,r,pl,hz⟩:=I.list hx
   have Mr:=r.length
   exact wpAny_truthy_list pl.isList (by simp only [List.size_toArray];omega) ⟨H,I.tok _,by rw [qr r];exact q⟩
  ·subst e'
   obtain ⟨its,r,pl,hz⟩:=I.tuple hx
   have Mr:=r.length
   exact truthy_tuple pl (by simp only [List.size_toArray];omega) ⟨H,I.tok _,by rw [qr r];exact q⟩
  ·subst e'
   obtain ⟨hz,hS,vs,r,m⟩:kvs.length<=sizeLine/\(p==sysModules)=false/\∃ vs,KV kvs vs/\s.heap.DictOf (aV X.prog X.w) p vs:=I.hok p _ hx
   have Mr:kvs.length=vs.length:=Paired.length r
   exact wpAny_truthy_dict hS m (by omega) ⟨H,I.tok _,by rw [yY r];exact q⟩
 |_=>exact (show False from e).elim
theorem AC (ha:PE X a ta) (he:∀ whole,isTrue a X.env whole=(do let v <- whole;standAt a.pos;holding [v] (truthy v))) :
  PT X a (λU H Q=>ta U H λx H'=>∃ k,wK X.K x H' k/\Q k H'):=by
 intro pins s U H Q I h
 exact isTrue_plain (thn (ha pins s U H _ I h) λv s1 zz25=>by obtain ⟨x,H1,I1,r1,q1⟩:=zz25;exact Fe pins s1 U H1 x v Q I1 r1 q1) (he _)
theorem yZ:OpR X (binaryOp .Add) (λx y H Q=>∃ i j,x=.str i/\y=.str j/\i.length+j.length<=sizeLine/\Q (.str (i++j)) H):=by
 intro pins s U H x y v u Q I rx ry h
 obtain ⟨i,j,rfl,rfl,hz,q⟩:=h
 obtain ⟨t,rfl⟩:=rx
 obtain ⟨t',rfl⟩:=ry
 exact add_str (λt' tk=>⟨.str (i++j),H,I.tok _,⟨_,rfl⟩,q⟩) hz
theorem yC:OpR X (inplaceOp .Add) (λx y H Q=>∃ i j,x=.str i/\y=.str j/\i.length+j.length<=sizeLine/\Q (.str (i++j)) H):=by
 intro pins s U H x y v u Q I rx ry h
 obtain ⟨i,j,rfl,rfl,hz,q⟩:=h
 obtain ⟨t,rfl⟩:=rx
 obtain ⟨t',rfl⟩:=ry
 exact iadd_str (λt' tk=>⟨.str (i++j),H,I.tok _,⟨_,rfl⟩,q⟩) hz
theorem bV {x:V}{us:List Value}(r:am [x] us):∃ u,us=[u]/\aq x u:=by
 cases r with
 |cons r1 r2=>cases r2;exact ⟨_,rfl,r1⟩
theorem ia {x y:V}{us:List Value}(r:am [x,y] us):∃ u w',us=[u,w']/\aq x u/\aq y w':=by
 cases r with
 |cons r1 r2 =>
  cases r2 with
  |cons r3 r4=>cases r4;exact ⟨_,_,rfl,r1,r3⟩
theorem zE (hc:X.calm=true):bf X (.builtin "min") (λxs H Q=>∃ i j,xs=[.int i,.int j]/\Q (.int (if j<i then j else i)) H):=by
 intro pins s U H xs us Q I r h
 obtain ⟨i,j,rfl,q⟩:=h
 obtain ⟨u,w',rfl,⟨t,rfl⟩,⟨t',rfl⟩⟩:=ia r
 refine min_two_ints (I.ok.hd hc) λh' tk k=>⟨_,H,I.kept k,?_,q⟩
 by_cases hj:j<i
 ·rw [if_pos hj,if_pos hj];exact ⟨_,rfl⟩
 ·rw [if_neg hj,if_neg hj];exact ⟨_,rfl⟩
theorem qE:bf X (.type "int") (λxs H Q=>(∃ i,xs=[.int i]/\Q (.int i) H)\/∃ k,xs=[.bl k]/\Q (.int (if k then 1 else 0)) H):=by
 intro pins s U H xs us Q I r h
 rcases h with ⟨i,rfl,q⟩|⟨k,rfl,q⟩
 ·obtain ⟨u,rfl,t,rfl⟩:=bV r
  exact call_int_int ⟨.int i,H,I,⟨_,rfl⟩,q⟩
 ·obtain ⟨u,rfl,r1⟩:=bV r
  cases r1
  exact call_int_bool ⟨.int (if k then 1 else 0),H,I.tok _,⟨_,rfl⟩,q⟩
end
structure ObjM (h:Heap) (x dx C:Addr) (mA:Str->Option Value):Prop where
 obj:h.get? x=some (PySem.W.instObj C dx)
 ns:h.Ns1 dx mA
 ne:dx≠x
theorem zF {h:Heap}{dx:Addr}{mA:Str->Option Value}(n:h.Ns1 dx mA):∃ od,h.get? dx=some od/\∀ name,PySem.W.lookIn name od=some (mA name):=by
 obtain ⟨o,es,ep,ho,hd,hk,_,hm⟩:=n
 refine ⟨o,ho,λname=>?_⟩
 have e:=hm name
 unfold nsFind findBy at e
 rw [<- Array.find?_toList] at e
 unfold PySem.W.lookIn
 rw [hd]
 dsimp only
 split
 ·rename_i y q
  rw [q] at e
  exact congrArg some e
 ·rename_i q
  rw [q] at e
  have a:es.toList.any (·.refKey)=false:=by
   rw [List.any_eq_false]
   intro y hy
   obtain ⟨z,t,Q8⟩:=hk y (Array.mem_toList_iff.mp hy)
   simp [DictEntry.refKey,Q8]
  have a':¬ es.toList.any (·.refKey)=true:=by rw [a];exact Bool.false_ne_true
  rw [if_neg a']
  exact congrArg some e
theorem ObjM.look {h:Heap}{x dx C:Addr}{mA:Str->Option Value}(I:ObjM h x dx C mA):∃ od,PySem.W.InstAt h x (PySem.W.instObj C dx) C (some od)/\∀ name,PySem.W.lookIn name od=some (mA name) :=
 let ⟨od,ho,hl⟩:=zF I.ns
 ⟨od,⟨I.obj,rfl,rfl,ho⟩,hl⟩
section
variable {prog:Program}{w:World}{A:Around}{E:Value->Shared->Prop}{s:Shared}{K:PySem.W.Frag}{x dx C f:Addr}{mA:Str->Option Value}{name:Str}{v:Value}
theorem Ch {expr:Bool}{Q:Value->Shared->Prop}(X:K.In s.heap) (I:ObjM s.heap x dx C mA) (hg:PySem.W.plainGet K C name=true) (hh:PySem.W.hasDictIn K C=true)
  (ha:PySem.W.findIn K (.ref C) name=some none) (hv:mA name=some v) (QN:PySem.W.handedIn v=true) (h:Q v { s with toks:=s.toks+1 }) :
  wpAny (model prog w) A (getAttr (.ref x) name expr) Q E s:=by
 obtain ⟨od,J,hl⟩:=I.look
 exact PySem.W.get_value X J (PySem.W.plainGet_of hg).1 (PySem.W.findObj_own hh ha rfl (by rw [hl,hv])) QN h
theorem AD {pl:Sem Bool}{Q:Value×List Value->Shared->Prop}(X:K.In s.heap) (I:ObjM s.heap x dx C mA) (hg:PySem.W.plainGet K C name=true)
  (hf:PySem.W.findIn K (.ref C) name=some (some (.ref f))) (ht:PySem.W.isFn K (.ref f)=true) (hv:mA name=none) (h:Q (.ref f,[.ref x]) s) :
  wpAny (model prog w) A (getMethod (.ref x) name pl) Q E s:=by
 obtain ⟨od,J,hl⟩:=I.look
 exact PySem.W.method_fn X J (PySem.W.plainGet_of hg).1 (PySem.W.plainGet_of hg).2 hf (beq_iff_eq.mp ht) (by show (PySem.W.lookIn name od).map (·.isSome)=some false;rw [hl,hv];rfl) h
theorem Ci {ns:List Str}{Q:Unit->Shared->Prop}(X:K.In s.heap) (I:ObjM s.heap x dx C mA)
  (hs:PySem.W.findIn K (.ref C) "__setattr__"=some (some (.builtin "object.__setattr__"))) (hp:PySem.W.plainOver K C=true) (ht:PySem.W.takerIn K C name=some none) (hh:PySem.W.hasDictIn K C=true)
  (hw:PySem.Within mA ns) (hsz:ns.length<=sizeLine)
  (h:∀ h',ObjM h' x dx C (λy=>if y=name then some v else mA y)->Heap.SameBut dx s.heap h'->Q () { s with heap:=h',toks:=s.toks+2 }) :
  wpAny (model prog w) A (setAttr (.ref x) name v) Q E s:=by
 obtain ⟨od,J,hl⟩:=I.look
 refine PySem.W.set_plain X J hs (PySem.W.osa_open (s:={ s with toks:=s.toks+1 }) (r:=none) X J hp ht λb=>?_)
 obtain ⟨cd,hc,hd'⟩:=PySem.W.any_some hh
 have hx:s.heap.get? x=some ⟨.ref C,some dx,.plain,#[]⟩:=I.obj
 refine wpAny_bind (wpAny_pure (wpAny_bind (wpAny_bind (wpAny_loadPart hx (wpAny_bind (PySem.W.Looks.here (s:={ s with toks:=s.toks+1 }) (PySem.W.looks_clsIn X hc) ?_))))))
 rw [hd']
 refine wpAny_pure (a:=some dx) (wpAny_bind (wpAny_pure (wpAny_bind ?_)))
 refine wpAny_nsSet1 (s:={ s with toks:=s.toks+1 }) I.ns λh' Su Sq=>?_
 obtain ⟨oD,esD,epD,hoD,hdD,hcD⟩:=Su.count (PySem.Within.cons name v hw)
 refine wpAny_bind (wpAny_lookBehind hoD (by rw [hdD];exact pastItsLine_dict (Nat.le_trans hcD (by rw [List.length_cons];omega))) ?_)
 exact wpAny_pure (h _ ⟨(Sq.2 _ (Ne.symm I.ne)).trans I.obj,Su,I.ne⟩ Sq)
theorem AE {R:Result->Shared->Prop}{vs:List Value}{kw:List (Str×Value)}(X:K.In s.heap) (hm:PySem.W.makesIn K C=true)
  (hi:PySem.W.findIn K (.ref C) "__init__"=some (some (.ref f))) (hf:PySem.W.typeIn K (.ref f)=some (.type "function"))
  (h:codeAny (model prog w) (A.under (.builtin "type.__call__" ⟨.ref C::vs,kw⟩)) (.call (.ref f) ⟨.ref (s.heap.objs.size+1)::vs,kw⟩) (PySem.W.InitBack (s.heap.objs.size+1) R)
   { s with heap:=(s.heap.push PySem.W.emptyDict).push (PySem.W.instObj C s.heap.objs.size) }) :
  codeAny (model prog w) A (.call (.ref C) ⟨vs,kw⟩) R s:=by
 obtain ⟨hh,g,d,t,os⟩:=s
 exact PySem.W.make_core (PySem.W.makes_of X hm) (PySem.W.looks_findIn X hi) (λself=>PySem.W.bind_fn X self hf) (.inl rfl) h
end
noncomputable def bw (f:Str) (v:V):List (Str×V)->List (Str×V)
 |[]=>[(f,v)]
 |(g,x)::r=>if g=f then (g,v)::r else (g,x)::bw f v r
theorem qh (f g:Str) (v:V):∀ fs:List (Str×V),(bw f v fs).lookup g=if g=f then some v else fs.lookup g
 |[]=>by
  show List.lookup g [(f,v)]=_
  by_cases h:g=f
  ·have hb:(g==f)=true:=beq_iff_eq.mpr h
   simp only [List.lookup,hb,if_pos h]
  ·have hb:(g==f)=false:=beq_eq_false_iff_ne.mpr h
   simp only [List.lookup,hb,if_neg h]
 |(k,x)::r=>by
  have ih:=qh f g v r
  rw [show bw f v ((k,x)::r)=(if k=f then (k,v)::r else (k,x)::bw f v r) from rfl]
  by_cases hk:k=f
  ·rw [if_pos hk]
   by_cases h:g=k
   ·have hb:(g==k)=true:=beq_iff_eq.mpr h
    simp only [List.lookup,hb,if_pos (h.trans hk)]
   ·have hb:(g==k)=false:=beq_eq_false_iff_ne.mpr h
    simp only [List.lookup,hb,if_neg (λe:g=f=>h (e.trans hk.symm))]
  ·rw [if_neg hk]
   by_cases h:g=k
   ·have hb:(g==k)=true:=beq_iff_eq.mpr h
    simp only [List.lookup,hb,if_neg (λe:g=f=>hk (h.symm.trans e))]
   ·have hb:(g==k)=false:=beq_eq_false_iff_ne.mpr h
    simp only [List.lookup,hb]
    exact ih
theorem mK (f:Str) (v:V):∀ fs:List (Str×V),f∈(bw f v fs).map (·.1)/\∀ g,g∈fs.map (·.1)->g∈(bw f v fs).map (·.1)
 |[]=>⟨by simp [bw],λg h=>by simp at h⟩
 |(k,x)::r=>by
  obtain ⟨i1,i2⟩:=mK f v r
  rw [show bw f v ((k,x)::r)=(if k=f then (k,v)::r else (k,x)::bw f v r) from rfl]
  by_cases hk:k=f
  ·rw [if_pos hk]
   subst hk
   exact ⟨by simp,λg h=>by simpa using h⟩
  ·rw [if_neg hk]
   refine ⟨?_,λg h=>?_⟩
   ·rw [List.map_cons]
    exact List.mem_cons_of_mem _ i1
   ·rw [List.map_cons] at h ⊢
    rcases List.mem_cons.mp h with e|e
    ·exact List.mem_cons.mpr (.inl e)
    ·exact List.mem_cons_of_mem _ (i2 g e)
theorem qi (f:Str) (v:V):∀ fs:List (Str×V),(bw f v fs).length<=fs.length+1
 |[]=>by simp [bw]
 |(k,x)::r=>by
  have ih:=qi f v r
  rw [show bw f v ((k,x)::r)=(if k=f then (k,v)::r else (k,x)::bw f v r) from rfl]
  by_cases hk:k=f
  ·rw [if_pos hk,List.length_cons,List.length_cons];omega
  ·rw [if_neg hk,List.length_cons,List.length_cons];omega
theorem bB.some_of {v:V}{o:Option Value}(r:bB (some v) o):∃ u,o=some u/\aq v u:=by
 cases o with
 |none=>exact (show False from r).elim
 |some u=>exact ⟨u,rfl,r⟩
theorem bB.none_of {o:Option Value}(r:bB none o):o=none:=by
 cases o with
 |none=>rfl
 |some u=>exact (show False from r).elim
theorem zG {v:V}{u:Value}(r:aq v u):PySem.W.handedIn u=true:=by
 cases v with
 |non=>cases (show u=Value.none from r);rfl
 |bl b=>cases (show u=Value.bool b from r);rfl
 |int i=>obtain ⟨t,e⟩:=(show ∃ t,u=Value.int i t from r);cases e;rfl
 |str x=>obtain ⟨t,e⟩:=(show ∃ t,u=Value.str x t from r);cases e;rfl
 |byt b=>obtain ⟨t,e⟩:=(show ∃ t,u=Value.bytes b t from r);cases e;rfl
 |flt b=>obtain ⟨t,e⟩:=(show ∃ t,u=Value.float b t from r);cases e;rfl
 |ref a=>cases (show u=Value.ref a from r);rfl
 |ty n=>cases (show u=Value.type n from r);rfl
section
variable {P:Program}{w:World}{H H':Hp}{h h':Heap}{a C dx:Addr}{fs M7:List (Str×V)}
theorem gN (hok:HOk P w H h) (e:H a=some (.ins C dx fs)):∃ mA,ObjM h a dx C mA/\(∀ f,bB (fs.lookup f) (mA f))/\PySem.Within mA (fs.map (·.1))/\fs.length<=1000/\H dx=some (.own a):=by
 obtain ⟨d,z,ne,ob,mA,n,r,q⟩:=(show aS P w H h a (.ins C dx fs) from hok a _ e)
 exact ⟨mA,⟨ob,n,ne⟩,r,q,z,d⟩
end
structure Cls (K:PySem.W.Frag) (C:Addr):Prop where
 pg:PySem.W.plainGet K C Str.empty=true
 hd:PySem.W.hasDictIn K C=true
 po:PySem.W.plainOver K C=true
 sa:PySem.W.findIn K (.ref C) "__setattr__"=some (some (.builtin "object.__setattr__"))
theorem Cls.get {K:PySem.W.Frag}{C:Addr}(c:Cls K C) (f:Str):PySem.W.plainGet K C f=true:=c.pg
def aN (K:PySem.W.Frag) (C:Addr) (f:Str):Prop:=PySem.W.findIn K (.ref C) f=some none
theorem aN.taker {K:PySem.W.Frag}{C:Addr}{f:Str}(n:aN K C f):PySem.W.takerIn K C f=some none:=by
 unfold PySem.W.takerIn
 rw [show PySem.W.findIn K (.ref C) f=some none from n]
 rfl
structure Con (K:PySem.W.Frag) (C:Addr) (f:Str) (v:V) (u:Value):Prop where
 at_:PySem.W.findIn K (.ref C) f=some (some u)
 rel:aq v u
 get:PySem.W.specialIn K u "__get__"=some none
 cp:PySem.W.copiedNames.contains f=false
structure Meth (K:PySem.W.Frag) (C:Addr) (m:Str) (f:Addr):Prop where
 at_:PySem.W.findIn K (.ref C) m=some (some (.ref f))
 fn:PySem.W.isFn K (.ref f)=true
 kp:PySem.W.keepIn K (.ref f)=true
section
variable {X:Cx}{pins:List (Addr×Obj)}{U:St}{H:Hp}{s:Shared}{a C dx:Addr}{fs:List (Str×V)}{f:Str}{v:V}{A:Around}{E:Value->Shared->Prop}
theorem qt {b:Bool}{Q:Value->Shared->Prop}(I:Inv X pins U H s) (e:H a=some (.ins C dx fs)) (c:Cls X.K C) (n:aN X.K C f) (l:fs.lookup f=some v)
  (h:∀ u s',Inv X pins U H s'->aq v u->Q u s'):wpAny (model X.prog X.w) A (getAttr (.ref a) f b) Q E s:=by
 obtain ⟨mA,O,r,_,_,_⟩:=gN I.hok e
 obtain ⟨u,hu,ru⟩:=bB.some_of (v:=v) (o:=mA f) (by rw [<- l];exact r f)
 exact Ch I.kIn O (c.get f) c.hd n hu (zG ru) (h u _ (I.tok _) ru)
theorem jg {m:Str}{g:Addr}{pl:Sem Bool}{Q:Value×List Value->Shared->Prop}(I:Inv X pins U H s) (e:H a=some (.ins C dx fs)) (c:Cls X.K C) (k:Meth X.K C m g) (l:fs.lookup m=none)
  (h:Q (.ref g,[.ref a]) s):wpAny (model X.prog X.w) A (getMethod (.ref a) m pl) Q E s:=by
 obtain ⟨mA,O,r,_,_,_⟩:=gN I.hok e
 have hn:mA m=none:=bB.none_of (by rw [<- l];exact r m)
 exact AD I.kIn O (c.get m) k.at_ k.fn hn h
theorem qv {y:V}{u:Value}{Q:Unit->Shared->Prop}(I:Inv X pins U H s) (e:H a=some (.ins C dx fs)) (c:Cls X.K C) (n:aN X.K C f) (hl:fs.length<1000) (ry:aq y u)
  (h:∀ s',Inv X pins U (upd H a (.ins C dx (bw f y fs))) s'->Q () s'):wpAny (model X.prog X.w) A (setAttr (.ref a) f u) Q E s:=by
 obtain ⟨mA,O,r,wi,_,ho⟩:=gN I.hok e
 have hz:(fs.map (·.1)).length<=sizeLine:=by rw [List.length_map,sizeLine_eq];omega
 refine Ci I.kIn O c.sa c.po n.taker c.hd wi hz λh' O' sb=>h _ ?_
 have hd:∃ o,h'.get? dx=some o:=let ⟨o,_,_,e',_⟩:=O'.ns;⟨o,e'⟩
 refine I.write (x:=a) (e:=dx) (by rw [e];exact True.intro) (.inr ho) (λb q hb z=>(sb.2 b hb).trans z) hd ?_
 refine ⟨by rw [aG O.ne];exact ho,?_,O.ne,O'.obj,_,O'.ns,λg=>?_,λg hg=>?_⟩
 ·have:=qi f y fs;omega
 ·show bB ((bw f y fs).lookup g) (if g=f then some u else mA g)
  rw [qh]
  by_cases q:g=f
  ·rw [if_pos q,if_pos q];exact ry
  ·rw [if_neg q,if_neg q];exact r g
 ·by_cases q:g=f
  ·rw [q];exact (mK f y fs).1
  ·refine (mK f y fs).2 g (wi g λz=>hg ?_)
   show (if g=f then some u else mA g)=none
   rw [if_neg q];exact z
theorem Inv.made (I:Inv X pins U H s):Inv X pins U (upd (upd H s.heap.objs.size (.own (s.heap.objs.size+1))) (s.heap.objs.size+1) (.ins C s.heap.objs.size []))
  { s with heap:=(s.heap.push PySem.W.emptyDict).push (PySem.W.instObj C s.heap.objs.size) }:=by
 have e1:(s.heap.push PySem.W.emptyDict).get? s.heap.objs.size=some PySem.W.emptyDict:=Heap.get?_push_size s.heap rfl
 have e2:((s.heap.push PySem.W.emptyDict).push (PySem.W.instObj C s.heap.objs.size)).get? (s.heap.objs.size+1)=some (PySem.W.instObj C s.heap.objs.size):=by
  have:=Heap.get?_push_size (s.heap.push PySem.W.emptyDict) (o:=PySem.W.instObj C s.heap.objs.size) rfl
  rwa [Heap.size_push] at this
 have e3:(s.heap.push PySem.W.emptyDict).Ns s.heap.objs.size (λ_=>none):=⟨PySem.W.emptyDict,#[],_,e1,rfl,(λe he=>absurd he (by simp)),λ_=>rfl⟩
 have I1:=I.laid (a:=s.heap.objs.size) (o:=.own (s.heap.objs.size+1)) (h':=s.heap.push PySem.W.emptyDict) (t':=s.toks) (λb u q=>Heap.get?_push_of_some _ q) (Nat.le_refl _) ⟨_,e1⟩
 refine I1.laid (a:=s.heap.objs.size+1) (o:=.ins C s.heap.objs.size []) (t':=s.toks) (λb u q=>Heap.get?_push_of_some _ q) (Nat.le_of_eq (Heap.size_push _ _)) ?_
 have ne:s.heap.objs.size≠s.heap.objs.size+1:=Nat.ne_of_lt (Nat.lt_succ_self _)
 refine ⟨by rw [aG ne,aK],Nat.zero_le _,ne,e2,λ_=>none,(Heap.Ns1.of_empty e3).at λo q=>Heap.get?_push_of_some _ q,λ_=>True.intro,λy hy=>absurd rfl hy⟩
theorem Cj {prog:Program}{w:World}{env:Env}{e:Expr}{f:Str}{pos:Pos}{s:Shared}{Q:Value->Shared->Prop}(hb:attributeBase e f env (eval e env)=eval e env)
  (h:wpAny (model prog w) A (eval e env) (λo LU=>wpAny (model prog w) A (getAttr o f true) Q E LU) E s):wpAny (model prog w) A (eval (.Attribute e f pos) env) Q E s :=
 Attribute_any_ h (by rw [arm_eval_Attribute,hb])
end
def KC (K:PySem.W.Frag) (ta:TE) (f:Str):TE:=λU H Q=>ta U H λx H1=>∃ a C dx fs v,x=.ref a/\H1 a=some (.ins C dx fs)/\Cls K C/\aN K C f/\fs.lookup f=some v/\Q v H1
def KD (K:PySem.W.Frag) (ta tv:TE) (f:Str):TS:=λD U H=>tv U H λy H1=>ta U H1 λx H2=>∃ a C dx fs,x=.ref a/\H2 a=some (.ins C dx fs)/\Cls K C/\aN K C f/\fs.length<1000 /\
 D.nx U (upd H2 a (.ins C dx (bw f y fs)))
def pG (X:Cx) (op:Operator) (rd:V->V->Hp->VK->Prop):Prop :=
 ∀ (pins:List (Addr×Obj)) (s:Shared) (U:St) (H:Hp) (x y:V) (u v:Value) (Q:VK),Inv X pins U H s->aq x u->aq y v->rd x y H Q->wpAny (model X.prog X.w) X.A (inplaceOp op u v) (EP X pins U Q) X.xe s
def Ck (K:PySem.W.Frag) (ta tv:TE) (rd:V->V->Hp->VK->Prop) (f:Str):TS:=λD U H=>ta U H λx H1=>∃ a C dx fs v,x=.ref a/\H1 a=some (.ins C dx fs)/\Cls K C/\aN K C f/\fs.lookup f=some v /\
 tv U H1 λy H2=>rd v y H2 λz H3=>∃ dx' M7,H3 a=some (.ins C dx' M7)/\M7.length<1000/\D.nx U (upd H3 a (.ins C dx' (bw f z M7)))
section
variable {X:Cx}{o e value:Expr}{f:Str}{pos MA NP:Pos}{ta tv:TE}
theorem Ff (he:PE X e ta) (hb:attributeBase e f X.env (eval e X.env)=eval e X.env):PE X (.Attribute e f pos) (KC X.K ta f):=by
 intro pins s U H Q I h
 refine Cj hb (thn (he pins s U H _ I h) λu s1 zz26=>?_)
 obtain ⟨x,H1,I1,rx,a,C,dx,fs,v,ex,ea,c,n,l,q⟩:=zz26
 subst ex
 obtain rfl:u=Value.ref a:=rx
 exact qt I1 ea c n l λu' s2 I2 ru=>⟨v,H1,I2,ru,q⟩
theorem Fh (ha:PE X o ta) (hv:PE X value tv) (hs:swapsWith value (some (.Attribute o f MA)) pos.line X.env=pure false):PS X (.Assign [.Attribute o f MA] value pos) (KD X.K ta tv f):=by
 intro pins s U H D I h
 refine plainObj_wpAny_Assign_Attribute (thn (hv pins s U H _ I h) λu s1 ⟨y,H1,I1,ry,q⟩=>thn (ha pins s1 U H1 _ I1 q) λov s2 ⟨x,H2,I2,rx,a,C,dx,fs,ex,ea,c,n,l,q2⟩=>?_) hs
 subst ex
 obtain rfl:ov=Value.ref a:=rx
 exact qv I2 ea c n l ry λs3 I3=>⟨U,_,I3,q2⟩
theorem qF {op:Operator}{rd:V->V->Hp->VK->Prop}(ha:PE X o ta) (hv:PE X value tv) (hop:pG X op rd):PS X (.AugAssign (.Attribute o f NP) op value pos) (Ck X.K ta tv rd f):=by
 intro pins s U H D I h
 refine wpAny_AugAssign_AttributeAny (thn (ha pins s U H _ I h) λov s1 zz27=>?_)
 obtain ⟨x,H1,I1,rx,a,C,dx,fs,v,ex,ea,c,n,l,q⟩:=zz27
 subst ex
 obtain rfl:ov=Value.ref a:=rx
 refine qt I1 ea c n l λu s2 I2 ru=>thn (hv pins s2 U H1 _ I2 q) λw3 s3 zz28=>?_
 obtain ⟨y,H2,I3,ry,q3⟩:=zz28
 refine thn (hop pins s3 U H2 v y u w3 _ I3 ru ry q3) λw4 s4 zz29=>?_
 obtain ⟨z,H3,I4,rz,dx',M7,ea',l',q4⟩:=zz29
 exact qv I4 ea' c n l' rz λs5 I5=>⟨U,_,I5,q4⟩
def KF:V->V->Hp->VK->Prop:=λx y H Q=>∃ i j,x=.int i/\y=.int j/\Q (.int (i+j)) H
theorem Fi:pG X .Add KF:=by
 rintro pins s U H x y u v Q I rx ry ⟨i,j,rfl,rfl,q⟩
 obtain ⟨t,rfl⟩:=(show ∃ t,u=Value.int i t from rx)
 obtain ⟨t',rfl⟩:=(show ∃ t',v=Value.int j t' from ry)
 exact PyProof.Rows.iadd_int ⟨.int (i+j),H,I.tok _,⟨_,rfl⟩,q⟩
end
section
variable {X:Cx}{pins:List (Addr×Obj)}{U:St}{H:Hp}{s:Shared}{A:Around}{E:Value->Shared->Prop}{Q:Value->Shared->Prop}{c:Value}{b:Bool}
inductive TyOf (K:PySem.W.Frag) (H:Hp):V->Value->Prop where
 |non:TyOf K H .non (.type "NoneType")
 |bl (x:Bool):TyOf K H (.bl x) (.type "bool")
 |int (i:Int):TyOf K H (.int i) (.type "int")
 |str (x:Str):TyOf K H (.str x) (.type "str")
 |flt (x:UInt64):TyOf K H (.flt x) (.type "float")
 |lst {a:Addr}{xs:List V}(e:H a=some (.lst xs)):TyOf K H (.ref a) (.type "list")
 |frz {a:Addr}{o:Obj}{xs:List V}(e:H a=some (.frz o (.lst xs))):TyOf K H (.ref a) (.type "list")
 |tup {a:Addr}{xs:List V}(e:H a=some (.tup xs)):TyOf K H (.ref a) (.type "tuple")
 |dK {a:Addr}{kvs:List (Key×V)}(e:H a=some (.dK kvs)):TyOf K H (.ref a) (.type "dict")
 |dT {a:Addr}{kvs:List (List Key×V)}(e:H a=some (.dT kvs)):TyOf K H (.ref a) (.type "dict")
 |ins {a C dx:Addr}{fs:List (Str×V)}(e:H a=some (.ins C dx fs)) (cl:Cls K C) (ha:PySem.W.findIn K (.ref C) "__class__"=some (some (.builtin "object.__class__")))
   (hn:PySem.W.specialIn K (.builtin "object.__class__") "__get__"=some (some (.builtin "getset_descriptor.__get__"))) (htk:PySem.W.takesIn K (.builtin "object.__class__")=some true)
   (hm:PySem.W.mroIn K C (.type "object")=some true):TyOf K H (.ref a) (.ref C)
theorem zH {x:V}{u t:Value}(I:Inv X pins U H s) (rx:aq x u) (ty:TyOf X.K H x t) (e:PySem.W.kitOne X.K t c=some b) (h:∀ tk,Q (.bool b) { s with toks:=tk }) :
  wpAny (model X.prog X.w) A (call (.builtin "isinstance") [u,c]) Q E s:=by
 cases ty with
 |non=>cases (show u=Value.none from rx);exact PySem.W.kia_one PySem.W.kitx_none I.kIn True.intro e (λz=>nomatch z) h
 |bl y=>cases (show u=Value.bool y from rx);exact PySem.W.kia_one PySem.W.kitx_bool I.kIn True.intro e (λz=>nomatch z) h
 |int i=>obtain ⟨t,q⟩:=(show ∃ t,u=Value.int i t from rx);cases q;exact PySem.W.kia_one PySem.W.kitx_int I.kIn True.intro e (λz=>nomatch z) h
 |str y=>obtain ⟨t,q⟩:=(show ∃ t,u=Value.str y t from rx);cases q;exact PySem.W.kia_one PySem.W.kitx_str I.kIn True.intro e (λz=>nomatch z) h
 |flt y=>obtain ⟨t,q⟩:=(show ∃ t,u=Value.float y t from rx);cases q;exact PySem.W.kia_one PySem.W.kitx_float I.kIn True.intro e (λz=>nomatch z) h
 |@lst a xs ea =>
  cases (show u=Value.ref a from rx)
  obtain ⟨_,_,n,_,h1⟩:=(show aS X.prog X.w H s.heap a (.lst xs) from I.hok a _ ea)
  exact PySem.W.kia_one PySem.W.kitx_list I.kIn ⟨_,h1,rfl⟩ e (λz=>nomatch z) h
 |@frz a ob xs ea =>
  cases (show u=Value.ref a from rx)
  obtain ⟨_,_,_,n,_,h1⟩:=(show aS X.prog X.w H s.heap a (.frz ob (.lst xs)) from I.hok a _ ea)
  exact PySem.W.kia_one PySem.W.kitx_list I.kIn ⟨_,h1,rfl⟩ e (λz=>nomatch z) h
 |@tup a xs ea =>
  cases (show u=Value.ref a from rx)
  obtain ⟨_,_,_,p⟩:=(show aS X.prog X.w H s.heap a (.tup xs) from I.hok a _ ea)
  obtain ⟨o,h1,h2,_⟩:=p
  exact PySem.W.kia_one PySem.W.kitx_tuple I.kIn ⟨o,h1,h2⟩ e (λz=>nomatch z) h
 |@dK a kvs ea =>
  cases (show u=Value.ref a from rx)
  obtain ⟨_,_,vs,_,p⟩:=(show aS X.prog X.w H s.heap a (.dK kvs) from I.hok a _ ea)
  obtain ⟨o,es,ep,h1,h2,_⟩:=p
  exact PySem.W.kia_one PySem.W.kitx_dict I.kIn ⟨o,h1,h2.1⟩ e (λz=>nomatch z) h
 |@dT a kvs ea =>
  cases (show u=Value.ref a from rx)
  obtain ⟨_,_,xs,_,o,es,ep,h1,h2,_⟩:=(show aS X.prog X.w H s.heap a (.dT kvs) from I.hok a _ ea)
  exact PySem.W.kia_one PySem.W.kitx_dict I.kIn ⟨o,h1,h2.1⟩ e (λz=>nomatch z) h
 |@ins a C dx fs ea cl ha hn htk hm =>
  cases (show u=Value.ref a from rx)
  obtain ⟨mA,O,_⟩:=gN I.hok ea
  obtain ⟨od,J,_⟩:=O.look
  exact PySem.W.kia_one (PySem.W.kitx_own (cl.get _) cl.hd ha hn htk hm) I.kIn J e (λz=>nomatch z) h
end
structure Room (k:Nat) (A:Around):Prop where
 hd:A.handled=none
 dp:A.depth+3 * k+5<recursionLimit
 un:A.units+16 * k+200<cLine
 gd:A.guards=some []
theorem Room.mono {j k:Nat}{A:Around}(r:Room k A) (h:j<=k):Room j A:=⟨r.hd,by have:=r.dp;omega,by have:=r.un;omega,r.gd⟩
theorem Room.m {j k:Nat} {A:Around} (r:Room k A) (h:j<=k:=by decide):Room j A:=r.mono h
theorem Room.deeper {k:Nat}{A:Around}(r:Room (k+1) A) (env:Env):Room k (A.deeper env) :=
 ⟨r.hd,by have:=r.dp;show A.depth+1+3 * k+5<_;omega,by have:=r.un;show A.units+3+16 * k+200<_;omega,r.gd⟩
theorem Room.in1 {k:Nat}{A:Around}(r:Room (k+1) A):Room k A.in1 :=
 ⟨r.hd,by have:=r.dp;show A.depth+3 * k+5<_;omega,by have:=r.un;show A.units+1+16 * k+200<_;omega,r.gd⟩
theorem y3 {A:Around}{C:Addr}{us:List Value}{kw:List (Str×Value)}:(A.under (.builtin "type.__call__" ⟨.ref C::us,kw⟩)).depth=A.depth+1:=by
 first|rfl|simp [Around.under,Code.weight,Code.isCreation,Code.isGuard,Code.isCaller,Code.frames,Code.isFrame,guardIds]
theorem y4 {A:Around}{C:Addr}{us:List Value}{kw:List (Str×Value)}:(A.under (.builtin "type.__call__" ⟨.ref C::us,kw⟩)).units=A.units+1:=by
 first|rfl|simp [Around.under,Code.cUnits,Code.frames,Code.isFrame]
theorem yD {A:Around}{C:Addr}{us:List Value}{kw:List (Str×Value)}:(A.under (.builtin "type.__call__" ⟨.ref C::us,kw⟩)).guards=A.guards:=by
 first|rfl|simp [Around.under,Code.isGuard,guardIds]
theorem Room.make {k:Nat}{A:Around}(r:Room (k+1) A) (C:Addr) (us:List Value) (kw:List (Str×Value)):Room k (A.under (.builtin "type.__call__" ⟨.ref C::us,kw⟩)) :=
 ⟨r.hd,by have:=r.dp;rw [y3];omega,by have:=r.un;rw [y4];omega,by rw [yD];exact r.gd⟩
theorem Room.depth {k:Nat}{A:Around}(r:Room k A):A.depth<recursionLimit:=by have:=r.dp;omega
theorem Room.units {k:Nat}{A:Around}(r:Room k A):A.units+64<cLine:=by have:=r.un;omega
def dO:TA:=λ_ H Q=>Q [] H
def oZ (ta:TE) (tr:TA):TA:=λU H Q=>ta U H λx H1=>tr U H1 λxs H2=>Q (x::xs) H2
section
variable {X:Cx}{e:Expr}{es:List Expr}{te:TE}{t:TA}{pos:Pos}
theorem nY:PA X [] dO:=λ_ _ _ _ H Q I h=>Calls.spliced_nil ⟨[],H,I,.nil,h⟩
theorem jx (ha:PE X e te) (hr:PA X es t) (hs:starEach (e::es) X.env=(false,eval e X.env)::starEach es X.env:=by rfl):PA X (e::es) (oZ te t):=by
 intro pos pins s U H Q I h
 rw [hs]
 show wpAny _ _ (spliced ((false,eval e X.env)::backTo pos (starEach es X.env))) _ _ s
 refine Calls.spliced_cons (thn (ha pins s U H _ I h) λu s1 zz30=>?_)
 obtain ⟨x,H1,I1,r1,q1⟩:=zz30
 exact thn (hr pos pins s1 U H1 _ I1 q1) λus s2 zz31=>by obtain ⟨xs,H2,I2,r2,q2⟩:=zz31;exact ⟨x::xs,H2,I2,.cons r1 r2,q2⟩
def KG (t:TA):TE:=λU H Q=>t U H λxs H1=>xs.length<=sizeLine/\∀ p,H1 p=none->Q (.ref p) (upd H1 p (.tup xs))
def KH (t:TA):TE:=λU H Q=>t U H λxs H1=>xs.length<=sizeLine/\∀ p,H1 p=none->Q (.ref p) (upd H1 p (.lst xs))
theorem Fj {x1}(h:PA X es t):PE X (.Tuple es x1 pos) (KG t):=by
 intro pins s U H Q I hq
 refine wpAny_Tuple_spliced (thn (h pos pins s U H _ I hq) λus s1 ⟨xs,H1,I1,r,z,q⟩=>⟨by rw [<- r.length];exact z,?_⟩)
 have hf:H1 s1.heap.objs.size=none:=I1.hok.fresh (Nat.le_refl _)
 refine ⟨.ref s1.heap.objs.size,upd H1 s1.heap.objs.size (.tup xs),I1.laid (t':=s1.toks) (λb u e=>Heap.get?_push_of_some _ e) (Nat.le_refl _) ?_,rfl,q _ hf⟩
 exact ⟨z,us,r,⟨_,Heap.get?_push_size _ rfl,rfl,_,rfl⟩⟩
theorem uf (h:PA X es t):PE X (.List es pos) (KH t):=by
 intro pins s U H Q I hq
 refine wpAny_List_spliced (thn (h pos pins s U H _ I hq) λus s1 ⟨xs,H1,I1,r,z,q⟩=>⟨by rw [<- r.length];exact z,?_⟩)
 have hf:H1 s1.heap.objs.size=none:=I1.hok.fresh (Nat.le_refl _)
 refine ⟨.ref s1.heap.objs.size,upd H1 s1.heap.objs.size (.lst xs),I1.laid (t':=s1.toks) (λb u e=>Heap.get?_push_of_some _ e) (Nat.le_refl _) ?_,rfl,q _ hf⟩
 exact ⟨z,us,0,r,Heap.get?_push_size _ rfl⟩
end
abbrev Sp:=List V->Hp->VK->XK->Prop
abbrev CXT:=List Env->Hp->Shared->XK->Value->Shared->Prop
structure Env0 (P:Program) (w:World) (K:PySem.W.Frag) (mg:Str->Option Value) (base:Heap) (A:Around) (outer:List Env) (s:Shared) (H:Hp):Prop where
 frames:A.frames=some outer
 mod:Mod K mg base
 bs:∀ b o,base.get? b=some o->s.heap.get? b=some o/\H b=none
 bsz:base.objs.size<=s.heap.objs.size
 funs:s.heap.FunFrames base outer
 frf:∀ b∈frs outer,H b=none
 hok:HOk P w H s.heap
 bare:AllBare s.gens
def CE (outer:List Env) (P:Program) (w:World) (H:Hp) (s:Shared) (Q:VK) (u:Value) (s':Shared):Prop :=
 ∃ v H',s'.os=s.os/\AllBare s'.gens/\Un (frs outer) [] H H' s.heap s'.heap/\HOk P w H' s'.heap/\aq v u/\Q v H'
def CR (CX:CXT) (outer:List Env) (P:Program) (w:World) (H:Hp) (s:Shared) (Q:VK) (E:XK) (r:Result) (s':Shared):Prop :=
 match r with
 |.ok (.ret u)=>CE outer P w H s Q u s'
 |.ok _=>False
 |.error e=>CX outer H s E e s'
structure FnOk (P:Program) (w:World) (K:PySem.W.Frag) (mg:Str->Option Value) (base:Heap) (CX:CXT) (k:Nat) (f:Addr) (fd:FuncData) (ps:List Str) (sp:Sp):Prop where
 len:∀ vs H Q E,sp vs H Q E->vs.length=ps.length
 run:∀ (A:Around) (outer:List Env) (s:Shared) (H:Hp) (args:Args) (us:List Value) (vs:List V) (Q:VK) (E:XK),Room k A->Env0 P w K mg base A outer s H->BindsTo s fd args (ps.zip us)->am vs us->sp vs H Q E ->
  codeAny (model P w) A (.call (.ref f) args) (CR CX outer P w H s Q E) s
theorem FnOk.mono {P:Program}{w:World}{K:PySem.W.Frag}{mg:Str->Option Value}{base:Heap}{CX:CXT}{j k:Nat}{f:Addr}{fd:FuncData}{ps:List Str}{sp:Sp}(F:FnOk P w K mg base CX j f fd ps sp) (h:j<=k) :
  FnOk P w K mg base CX k f fd ps sp:=⟨F.len,λA outer s H args us vs Q E hr=>F.run A outer s H args us vs Q E (hr.mono h)⟩
theorem FnOk.imp {P:Program}{w:World}{K:PySem.W.Frag}{mg:Str->Option Value}{base:Heap}{CX:CXT}{k:Nat}{f:Addr}{fd:FuncData}{ps:List Str}{sp sp':Sp}(F:FnOk P w K mg base CX k f fd ps sp)
  (h:∀ vs H Q E,sp' vs H Q E->sp vs H Q E):FnOk P w K mg base CX k f fd ps sp' :=
 ⟨λvs H Q E q=>F.len vs H Q E (h _ _ _ _ q),λA outer s H args us vs Q E hr he hb hv hs=>F.run A outer s H args us vs Q E hr he hb hv (h _ _ _ _ hs)⟩
theorem Env0.make {P:Program}{w:World}{K:PySem.W.Frag}{mg:Str->Option Value}{base:Heap}{A:Around}{outer:List Env}{s:Shared}{H:Hp}(e:Env0 P w K mg base A outer s H) (C:Addr) (us:List Value) (kw:List (Str×Value)) :
  Env0 P w K mg base (A.under (.builtin "type.__call__" ⟨.ref C::us,kw⟩)) outer s H:=⟨by first|exact e.frames|(simpa [Around.under,Code.envs,Code.isFrame,pushEnvs] using e.frames),e.mod,e.bs,e.bsz,e.funs,e.frf,e.hok,e.bare⟩
theorem Env0.in1 {P:Program}{w:World}{K:PySem.W.Frag}{mg:Str->Option Value}{base:Heap}{A:Around}{outer:List Env}{s:Shared}{H:Hp}(e:Env0 P w K mg base A outer s H) :
  Env0 P w K mg base A.in1 outer s H:=⟨e.frames,e.mod,e.bs,e.bsz,e.funs,e.frf,e.hok,e.bare⟩
section
variable {X:Cx}{pins:List (Addr×Obj)}{U:St}{H:Hp}{s s':Shared}
theorem Inv.env0 (I:Inv X pins U H s):Env0 X.prog X.w X.K X.mg X.base X.A X.stack s H :=
 ⟨I.ok.frames,I.ok.mod,I.bs,Nat.le_trans I.ok.bsz I.sz,I.stack,I.stkFree,I.hok,I.bare⟩
theorem Inv.after {Q:VK}{u:Value}(I:Inv X pins U H s) (h:CE X.stack X.prog X.w H s Q u s'):EP X pins U Q u s':=by
 obtain ⟨v,H',os,bare,un,hok,r,q⟩:=h
 obtain ⟨hh,g,d,t,os'⟩:=s'
 obtain rfl:os'=s.os:=os
 exact ⟨v,H',I.call (h':=hh) (g':=g) (d':=d) (t':=t) (ch:=[]) un hok bare (λb z=>absurd z (by simp)),r,q⟩
end
def o5 (sp:Sp) (dvs:List V) (E:XK) (t:TA):TE:=λU H Q=>t U H λvs H1=>sp (vs++dvs) H1 Q E
def kh (C:Addr) (sp:Sp) (dvs:List V) (E:XK) (t:TA):TE:=λU H Q=>t U H λvs H1=>∀ x dx,H1 x=none->H1 dx=none->dx≠x ->
 sp (.ref x::(vs++dvs)) (upd (upd H1 dx (.own x)) x (.ins C dx [])) (λv H2=>v=.non/\Q (.ref x) H2) E
def aw (K:PySem.W.Frag) (fd:FuncData) (ps:List Str) (ds:List Value):Prop :=
 ∀ (s:Shared) (us:List Value),K.In s.heap->(us++ds).length=ps.length->BindsTo s fd ⟨us,[]⟩ (ps.zip (us++ds))
theorem aw.all {K:PySem.W.Frag}{fd:FuncData}{ps:List Str}(h:∀ us:List Value,us.length=ps.length->bindArgs fd ⟨us,[]⟩=pure (ps.zip us)):aw K fd ps []:=λs us _ hl=>by
 rw [List.append_nil] at hl ⊢
 exact .of_eq (h us hl)
def dY (CX:CXT) (X:Cx) (E:XK):Prop:=∀ (pins:List (Addr×Obj)) (U:St) (H:Hp) (s:Shared) (e:Value) (s':Shared),Inv X pins U H s->CX X.stack H s E e s'->X.xe e s'
section
variable {X:Cx}{CX:CXT}{k:Nat}{f C:Addr}{fd:FuncData}{ps:List Str}{sp:Sp}{dvs:List V}{ds:List Value}{E:XK}{x m:Str}{p pos apos:Pos}{e o:Expr}{es:List Expr}{ta:TE}{t:TA}
theorem nZ {pins:List (Addr×Obj)}{U:St}{H:Hp}{s:Shared}{Q:VK}{us:List Value}{vs:List V}(F:FnOk X.prog X.w X.K X.mg X.base CX k f fd ps sp) (hr:Room k X.A) (hb:aw X.K fd ps ds) (hd:am dvs ds) (hx:dY CX X E)
  (I:Inv X pins U H s) (r:am vs us) (h:sp (vs++dvs) H Q E):wpAny (model X.prog X.w) X.A (call (.ref f) us) (EP X pins U Q) X.xe s:=by
 have r2:am (vs++dvs) (us++ds):=r.append hd
 have hl:(us++ds).length=ps.length:=by rw [<- r2.length];exact F.len _ _ _ _ h
 refine wpAny_call (codeAny_mono (F.run X.A X.stack s H ⟨us,[]⟩ (us++ds) (vs++dvs) Q E hr I.env0 (hb s us I.kIn hl) r2 h) λr s' hq=>?_)
 cases r with
 |error e=>exact hx pins U H s e s' I hq
 |ok fl =>
  cases fl with
  |ret u=>exact I.after hq
  |next=>exact False.elim hq
  |brk=>exact False.elim hq
  |cont=>exact False.elim hq
theorem Co (F:FnOk X.prog X.w X.K X.mg X.base CX k f fd ps sp) (hr:Room k X.A) (hg:Gl X x) (hm:X.mg x=some (.ref f)) (hk:PySem.W.keepIn X.K (.ref f)=true) (hb:aw X.K fd ps ds) (hd:am dvs ds) (hx:dY CX X E)
  (ha:PA X (e::es) t) (MQ:(x==("__debug__":Str))=false:=by decide) (he:starEach (e::es) X.env=(false,eval e X.env)::starEach es X.env:=by rfl) (M6:(backTo pos (starEach es X.env)).any (·.1)=false:=by rfl) :
  PE X (.Call (.Name x p) (e::es) [] pos) (o5 sp dvs E t):=by
 intro pins s U H Q I h
 refine wpAny_Call_Name_kw (dW I hg hm ?_ MQ)
 refine PySem.W.callWith_K (h₀:=X.base) I.ok.mod.kin hk (thn (ha pos pins s U H _ I h) λus s1 ⟨vs,H1,I1,r,q⟩=>⟨I1.kIn,?_⟩) he M6
 exact nZ F hr hb hd hx I1 r q
structure Mk (K:PySem.W.Frag) (C f:Addr):Prop where
 makes:PySem.W.makesIn K C=true
 init:PySem.W.findIn K (.ref C) "__init__"=some (some (.ref f))
 fn:PySem.W.isFn K (.ref f)=true
 kp:PySem.W.keepIn K (.ref C)=true
theorem rG {pins:List (Addr×Obj)}{U:St}{H:Hp}{s:Shared}{Q:VK}{us:List Value}{vs:List V}(M:Mk X.K C f) (F:FnOk X.prog X.w X.K X.mg X.base CX k f fd ps sp) (hr:Room (k+1) X.A) (hb:aw X.K fd ps ds) (hd:am dvs ds)
  (hx:dY CX X E) (I:Inv X pins U H s) (r:am vs us)
  (h:∀ x dx,H x=none->H dx=none->dx≠x->sp (.ref x::(vs++dvs)) (upd (upd H dx (.own x)) x (.ins C dx [])) (λv H2=>v=.non/\Q (.ref x) H2) E) :
  wpAny (model X.prog X.w) X.A (call (.ref C) us) (EP X pins U Q) X.xe s:=by
 have hq:=h (s.heap.objs.size+1) s.heap.objs.size (I.hok.fresh (Nat.le_succ _)) (I.hok.fresh (Nat.le_refl _)) (Nat.ne_of_lt (Nat.lt_succ_self _))
 have I2:=Inv.made (C:=C) I
 have r2:am (V.ref (s.heap.objs.size+1)::(vs++dvs)) (Value.ref (s.heap.objs.size+1)::(us++ds)):=.cons rfl (r.append hd)
 have hl:(Value.ref (s.heap.objs.size+1)::us++ds).length=ps.length:=by
  have e:=r2.length
  rw [F.len _ _ _ _ hq] at e
  exact e.symm
 refine wpAny_call (AE (f:=f) I.kIn M.makes M.init (beq_iff_eq.mp M.fn) (codeAny_mono (F.run _ X.stack _ _ ⟨Value.ref (s.heap.objs.size+1)::us,[]⟩ (Value.ref (s.heap.objs.size+1)::(us++ds)) _ _ E (hr.make C us [])
  (I2.env0.make C us []) (hb _ (Value.ref (s.heap.objs.size+1)::us) I2.kIn hl) r2 hq) λr s' hq'=>?_))
 cases r with
 |error e=>exact hx pins U _ _ e s' I2 hq'
 |ok fl =>
  cases fl with
  |ret u =>
   obtain ⟨v,H',I3,rv,ev,q3⟩:=I2.after hq'
   subst ev
   exact ⟨rv,⟨V.ref (s.heap.objs.size+1),H',I3,rfl,q3⟩⟩
  |next=>exact False.elim hq'
  |brk=>exact False.elim hq'
  |cont=>exact False.elim hq'
theorem Cq (M:Mk X.K C f) (F:FnOk X.prog X.w X.K X.mg X.base CX k f fd ps sp) (hr:Room (k+1) X.A) (hg:Gl X x) (hm:X.mg x=some (.ref C)) (hb:aw X.K fd ps ds) (hd:am dvs ds) (hx:dY CX X E)
  (ha:PA X (e::es) t) (MQ:(x==("__debug__":Str))=false:=by decide) (he:starEach (e::es) X.env=(false,eval e X.env)::starEach es X.env:=by rfl) (M6:(backTo pos (starEach es X.env)).any (·.1)=false:=by rfl) :
  PE X (.Call (.Name x p) (e::es) [] pos) (kh C sp dvs E t):=by
 intro pins s U H Q I h
 refine wpAny_Call_Name_kw (dW I hg hm ?_ MQ)
 refine PySem.W.callWith_K (h₀:=X.base) I.ok.mod.kin M.kp (thn (ha pos pins s U H _ I h) λus s1 ⟨vs,H1,I1,r,q⟩=>⟨I1.kIn,?_⟩) he M6
 exact rG M F hr hb hd hx I1 r q
theorem AF (M:Mk X.K C f) (F:FnOk X.prog X.w X.K X.mg X.base CX k f fd ps sp) (hr:Room (k+1) X.A) (hg:Gl X x) (hm:X.mg x=some (.ref C)) (hb:aw X.K fd ps ds) (hd:am dvs ds) (hx:dY CX X E)
  (MQ:(x==("__debug__":Str))=false:=by decide):PE X (.Call (.Name x p) [] [] pos) (kh C sp dvs E dO):=by
 intro pins s U H Q I h
 refine wpAny_Call_Name_kw (dW I hg hm ?_ MQ)
 exact PySem.W.callWith_K0 I.kIn M.kp (rG (us:=[]) M F hr hb hd hx I .nil h)
end
def PK (X:Cx) (Q9:List Keyword) (t:TA):Prop :=
 ∀ (pos:Pos) (pins:List (Addr×Obj)) (s:Shared) (U:St) (H:Hp) (Q:List V->Hp->Prop),Inv X pins U H s->t U H Q->wpAny (model X.prog X.w) X.A (evalAll ((backToKw pos (keywordEach Q9 X.env)).map (·.2))) (AP X pins U Q) X.xe s
section
variable {X:Cx}{CX:CXT}{k:Nat}{f C:Addr}{fd:FuncData}{ps ks:List Str}{sp:Sp}{E:XK}{x m:Str}{p pos apos QP:Pos}{e o:Expr}{es:List Expr}{Q9:List Keyword}{te ta:TE}{t tk:TA}{nm:Option Str}
theorem Fk:PK X [] dO:=λ_ _ _ _ H Q I h=>wpAny_evalAll_nil ⟨[],H,I,.nil,h⟩
theorem Cr (ha:PE X e te) (hr:PK X Q9 t):PK X (⟨nm,e,QP⟩::Q9) (oZ te t):=by
 intro pos pins s U H Q I h
 show wpAny _ _ (evalAll ((do let v <- eval e X.env;standAt pos;pure v)::(backToKw pos (keywordEach Q9 X.env)).map (·.2))) _ _ s
 refine wpAny_evalAll_cons (wpAny_bind (thn (ha pins s U H _ I h) λu s1 zz32=>?_))
 obtain ⟨x,H1,I1,r1,q1⟩:=zz32
 refine wpAny_bind (wpAny_standAt (wpAny_pure ?_))
 exact thn (hr pos pins s1 U H1 _ I1 q1) λus s2 zz33=>by obtain ⟨xs,H2,I2,r2,q2⟩:=zz33;exact ⟨x::xs,H2,I2,.cons r1 r2,q2⟩
structure KBinds (K:PySem.W.Frag) (fd:FuncData) (ps ks:List Str) (g:List Value->List Value->List Value) (gV:List V->List V->List V):Prop where
 to:∀ (s:Shared) (us ws:List Value),K.In s.heap->(g us ws).length=ps.length->BindsTo s fd ⟨us,ks.zip ws⟩ (ps.zip (g us ws))
 rel:∀ {vs:List V}{us:List Value}{zs:List V}{ws:List Value},am vs us->am zs ws->am (gV vs zs) (g us ws)
variable {g:List Value->List Value->List Value}{gV:List V->List V->List V}
end
structure FnScope (N P:List Str) (sc:Scope):Prop where
 kind:sc.kind=.function
 co:sc.isCoroutine=false
 gen:sc.isGenerator=false
 nd:N.Nodup
 pre:N.take P.length=P
 par:∀ x∈P,sc.names.lookup x=some .local\/sc.names.lookup x=some .cell
 nofree:∀ y∈sc.names,y.2≠.free
theorem qG {kindOf:Str->Option NameKind}{x:Str}:∀ {binds:List (Str×Value)}{m:Str->Option Value},(∀ v,(x,v)∉binds)->bindL kindOf binds m x=m x
 |[],_,_=>rfl
 |(n,v)::r,m,h=>by
  unfold bindL
  rw [qG λw hw=>h w (List.mem_cons_of_mem _ hw)]
  split
  ·have:x≠n:=by rintro rfl;exact h v List.mem_cons_self
   simp [this]
  ·rfl
theorem qH {kindOf:Str->Option NameKind}{x:Str}:∀ {binds:List (Str×Value)}{m:Str->Option Value},(∀ v,(x,v)∉binds)->bindC kindOf binds m x=m x
 |[],_,_=>rfl
 |(n,v)::r,m,h=>by
  unfold bindC
  rw [qH λw hw=>h w (List.mem_cons_of_mem _ hw)]
  split
  ·rfl
  ·have:x≠n:=by rintro rfl;exact h v List.mem_cons_self
   simp [this]
theorem qI {kindOf:Str->Option NameKind}{x:Str}{v:Value}:∀ {P:List Str}{vs:List Value}{i:Nat}{m:Str->Option Value},P.Nodup->P[i]?=some x->vs[i]?=some v->kindOf x=some .local ->
  bindL kindOf (P.zip vs) m x=some v
 |[],_,_,_,_,h,_,_=>by simp at h
 |_::_,[],_,_,_,_,h,_=>by simp at h
 |p::P,w::vs,0,m,nd,h1,h2,hk=>by
  simp at h1 h2;subst h1;subst h2
  show bindL kindOf ((p,w)::P.zip vs) m p=_
  unfold bindL
  rw [qG λv hv=>(List.nodup_cons.mp nd).1 (List.of_mem_zip hv).1,if_pos hk]
  simp
 |p::P,w::vs,i+1,m,nd,h1,h2,hk=>by
  show bindL kindOf ((p,w)::P.zip vs) m x=_
  unfold bindL
  exact qI (i:=i) (List.nodup_cons.mp nd).2 (by simpa using h1) (by simpa using h2) hk
theorem qJ {kindOf:Str->Option NameKind}{x:Str}{v:Value}:∀ {P:List Str}{vs:List Value}{i:Nat}{m:Str->Option Value},P.Nodup->P[i]?=some x->vs[i]?=some v->kindOf x≠some .local ->
  bindC kindOf (P.zip vs) m x=some v
 |[],_,_,_,_,h,_,_=>by simp at h
 |_::_,[],_,_,_,_,h,_=>by simp at h
 |p::P,w::vs,0,m,nd,h1,h2,hk=>by
  simp at h1 h2;subst h1;subst h2
  show bindC kindOf ((p,w)::P.zip vs) m p=_
  unfold bindC
  rw [qH λv hv=>(List.nodup_cons.mp nd).1 (List.of_mem_zip hv).1,if_neg hk]
  simp
 |p::P,w::vs,i+1,m,nd,h1,h2,hk=>by
  show bindC kindOf ((p,w)::P.zip vs) m x=_
  unfold bindC
  exact qJ (i:=i) (List.nodup_cons.mp nd).2 (by simpa using h1) (by simpa using h2) hk
noncomputable def ca (N:List Str) (vs:List V):St:=vs.map some++List.replicate (N.length - vs.length) none
noncomputable def c3 (CX:CXT) (P:Program) (w:World) (K:PySem.W.Frag) (mg:Str->Option Value) (base:Heap) (N:List Str) (qual:Str) (scope:Scope) (f:Addr) (cd:Value) (A:Around) (outer:List Env) (s:Shared) (H:Hp) (E:XK):Cx where
 prog:=P
 w:=w
 K:=K
 mg:=mg
 base:=base
 A:=A.deeper (envOfC qual scope s.heap.objs.size f cd)
 N:=N
 s₀:=s
 H₀:=H
 env:=envOfC qual scope s.heap.objs.size f cd
 outer:=outer
 stack:=envOfC qual scope s.heap.objs.size f cd::outer
 ex:=[]
 calm:=true
 fn:=λ_=>true
 pn:=[]
 xe:=λe s'=>wpAny (model P w) (A.deeper (envOfC qual scope s.heap.objs.size f cd)) (leaving (envOfC qual scope s.heap.objs.size f cd) e) (λ_ s''=>CX outer H s E e s'') (λe' s''=>CX outer H s E e' s'') s'
theorem rH {sc:Scope}{n:Nat}{x:Str}(h:sc.names.lookup x=some .cell):∃ c,(cellsFrom n sc.names []).lookup x=some c:=by
 have q:=PySem.W.cellsFrom_some sc.names n [] (.inl h)
 exact Option.isSome_iff_exists.mp q
theorem zI {CX:CXT}{P:Program}{w:World}{K:PySem.W.Frag}{mg:Str->Option Value}{base:Heap}{N ps:List Str}{qual:Str}{scope:Scope}{f:Addr}{cd:Value}{A:Around}{outer:List Env}{s s1:Shared}{H:Hp}{E:XK}{us:List Value}{vs:List V}
  (S:FnScope N ps scope) (hd:A.handled=none) (e0:Env0 P w K mg base A outer s H) (hl:vs.length=ps.length) (r:am vs us)
  (x:InCallC s s.heap.objs.size (bindL (envOfC qual scope s.heap.objs.size f cd).kindOf (ps.zip us) λ_=>none) (cellsFrom (s.heap.objs.size+1) scope.names []) (bindC (envOfC qual scope s.heap.objs.size f cd).kindOf (ps.zip us) λ_=>none) s1) :
  Inv (c3 CX P w K mg base N qual scope f cd A outer s H E) [] (ca N vs) H s1:=by
 have M6:ps.length<=N.length:=by have:=congrArg List.length S.pre;rw [List.length_take] at this;omega
 obtain ⟨h1,tk,rfl,hk⟩:=x.done
 have noA:∀ b:Addr,b∉(c3 CX P w K mg base N qual scope f cd A outer s H E).ex:=λb z=>absurd (show b∈([]:List Addr) from z) (by simp)
 refine ⟨⟨e0.mod,S.kind,rfl,rfl,Nat.le_refl _,λy z c h1 h2=>?_,λy hy=>?_,λy c _ h=>?_,λ_=>hd,Around.frames_deeper e0.frames,.inr ⟨rfl,rfl⟩,λb z=>absurd z (noA b),e0.bs,e0.bsz,λb _ _=>noA b,λb z=>absurd z (noA b),e0.funs,e0.frf⟩,
  rfl,e0.bare,Un.kept hk,⟨_,x.toInCall.ns,λi y v h1 h2 h3=>?_⟩,λy c h=>⟨_,x.cell y c h⟩,e0.hok.fresh (Nat.le_refl _),λy c h=>?_,λp hp=>absurd (show p∈([]:List (Addr×Obj)) from hp) (by simp),e0.hok.kept hk,?_⟩
 ·exact name_of_addr x.apart (PySem.mem_of_lookup h1) (PySem.mem_of_lookup h2)
 ·have hy:scope.names.lookup y=some .cell\/scope.names.lookup y=some .free:=hy
  rcases hy with hy|hy
  ·exact rH hy
  ·exact absurd rfl (S.nofree _ (PySem.mem_of_lookup hy))
 ·exact Nat.le_of_lt (x.above y c (PySem.mem_of_lookup h))
 ·have hi:i<vs.length:=by
   unfold ca at h2
   by_cases hi:i<vs.length
   ·exact hi
   ·rw [List.getElem?_append_right (by simpa using hi)] at h2
    rw [List.getElem?_replicate] at h2
    split at h2<;>cases h2
  have ha:vs[i]?=some v:=by
   unfold ca at h2
   rw [List.getElem?_append_left (by simpa using hi),List.getElem?_map] at h2
   cases e:vs[i]? with
   |none=>rw [e] at h2;cases h2
   |some a=>rw [e] at h2;cases h2;rfl
  obtain ⟨u,hu,rv⟩:=r.get ha
  have hp:ps[i]?=some y:=by
   rw [<- S.pre,List.getElem?_take_of_lt (by omega)];exact h1
  have ndP:ps.Nodup:=by rw [<- S.pre];exact S.nd.sublist (List.take_sublist _ _)
  refine ⟨u,rv,?_⟩
  rcases S.par y (List.mem_of_getElem? hp) with k|k
  ·exact .inl ⟨k,qI ndP hp hu k⟩
  ·obtain ⟨c,e⟩:=rH (n:=s.heap.objs.size+1) k
   refine .inr ⟨.inl k,c,e,?_⟩
   have q:=x.cell y c e
   rw [qJ ndP hp hu (by show scope.names.lookup y≠_;rw [k];decide)] at q
   exact q
 ·exact e0.hok.fresh (Nat.le_of_lt (x.above y c (PySem.mem_of_lookup h)))
 ·unfold ca
  show _=N.length
  rw [List.length_append,List.length_map,List.length_replicate]
  omega
theorem o6 {CX:CXT}{P:Program}{w:World}{K:PySem.W.Frag}{mg:Str->Option Value}{base:Heap}{k:Nat}{f:Addr}{name qual:Str}{params:Arguments}{body:List Stmt}{scope:Scope}{dV kV doc pm cdv ct oc:Value}{an od:Option Addr}
  {osl:Array (Option Value)}{N ps:List Str}{sp:Sp}(lk:K.lookup f=some ⟨oc,od,.func (PySem.W.fnOf name qual params body scope dV kV doc pm an cdv ct),osl⟩) (P2:PySem.W.codeIn K cdv qual=true) (S:FnScope N ps scope)
  (len:∀ vs H Q E,sp vs H Q E->vs.length=ps.length)
  (Nr:∀ (A:Around) (outer:List Env) (s:Shared) (H:Hp) (vs:List V) (Q:VK) (E:XK),Room k (A.deeper (envOfC qual scope s.heap.objs.size f cdv))->sp vs H Q E ->
   ∃ t,PSs (c3 CX P w K mg base N qual scope f cdv A outer s H E) body t/\t { nx:=λ_ H'=>Q .non H',rt:=Q } (ca N vs) H) :
  FnOk P w K mg base CX (k+1) f (PySem.W.fnOf name qual params body scope dV kV doc pm an cdv ct) ps sp:=by
 refine ⟨len,λA outer s H args us vs Q E hr e0 hb r RI=>?_⟩
 have hl:=len _ _ _ _ RI
 have KX:K.In s.heap:=e0.mod.kin.keeps λb o e=>(e0.bs b o e).1
 have lim:s.heap.NoLimit:=e0.mod.nolimit.keeps λb o e=>(e0.bs b o e).1
 have hkind:∀ y∈ps.zip us,scope.names.lookup y.1=some .local\/(scope.names.lookup y.1=some .cell/\((cellsFrom (s.heap.objs.size+1) scope.names []).lookup y.1).isSome=true):=λzz34 hy=>by
  obtain ⟨n,v⟩:=zz34
  rcases S.par n (List.of_mem_zip hy).1 with q|q
  ·exact .inl q
  ·exact .inr ⟨q,PySem.W.cellsFrom_some _ _ _ (.inl q)⟩
 refine codeAny_call_function hr.depth (KX _ _ lk) rfl S.co S.gen rfl (PySem.W.codeRec_of KX P2) (hb _ _ _ _ ?_)
 refine wpAny_newFunctionEnv_cells S.kind hkind λenv he s1 x=>?_
 subst he
 refine ⟨lim.keeps x.toInCall.keep,codeAny_func ?_⟩
 obtain ⟨t,ht,hq⟩:=Nr A outer s H vs Q E (hr.deeper _) RI
 have I:Inv (c3 CX P w K mg base N qual scope f cdv A outer s H E) [] (ca N vs) H s1:=zI S hr.hd e0 hl r x
 refine wpAny_mono (ht [] s1 (ca N vs) H _ I hq) (λfl s' hs=>?_) λe s' hs=>hs
 have fin:∀ {LO:St}{H':Hp}{v:V}{u:Value},Inv (c3 CX P w K mg base N qual scope f cdv A outer s H E) [] LO H' s'->aq v u->Q v H'->CE outer P w H s Q u s' :=
  fun {LO H' v u} J rv q=>⟨v,H',J.os,J.bare,J.base,J.hok,rv,q⟩
 cases fl with
 |ret u =>
  obtain ⟨v,LO,H',J,rv,q⟩:=hs
  exact fin J rv q
 |next =>
  obtain ⟨LO,H',J,q⟩:=hs
  exact fin (v:=V.non) (u:=Value.none) J rfl q
 |brk =>
  obtain ⟨_,_,_,q⟩:=hs
  exact False.elim q
 |cont =>
  obtain ⟨_,_,_,q⟩:=hs
  exact False.elim q
section
variable {X:Cx}{x:Str}{p pos:Pos}{e:Expr}{es:List Expr}{t:TA}{id T:String}{r:List V->Hp->VK->Prop}
def tCB (r:List V->Hp->VK->Prop) (t:TA):TE:=λU H Q=>t U H λvs H1=>r vs H1 Q
theorem AG (hc:bf X (.builtin id) r) (hg:Gl X x) (hm:X.mg x=none) (hv:bootBuiltins x=some (.builtin id)) (ha:PA X (e::es) t) (hn:x ≠ "__name__":=by decide) (MQ:(x==("__debug__":Str))=false:=by decide)
  (he:starEach (e::es) X.env=(false,eval e X.env)::starEach es X.env:=by rfl) (M6:(backTo pos (starEach es X.env)).any (·.1)=false:=by rfl):PE X (.Call (.Name x p) (e::es) [] pos) (tCB r t):=by
 intro pins s U H Q I h
 refine wpAny_Call_Name_kw (fM I hg hm hv ?_ hn MQ)
 exact PyProof.Rows.callWith_builtin1 (thn (ha pos pins s U H _ I h) λus s1 zz35=>by obtain ⟨vs,H1,I1,r1,q1⟩:=zz35;exact hc pins s1 U H1 vs us Q I1 r1 q1) he M6
theorem zJ (hc:bf X (.type T) r) (hg:Gl X x) (hm:X.mg x=none) (hv:bootBuiltins x=some (.type T)) (ha:PA X (e::es) t) (hn:x ≠ "__name__":=by decide) (MQ:(x==("__debug__":Str))=false:=by decide)
  (he:starEach (e::es) X.env=(false,eval e X.env)::starEach es X.env:=by rfl) (M6:(backTo pos (starEach es X.env)).any (·.1)=false:=by rfl):PE X (.Call (.Name x p) (e::es) [] pos) (tCB r t):=by
 intro pins s U H Q I h
 refine wpAny_Call_Name_kw (fM I hg hm hv ?_ hn MQ)
 exact PyProof.Rows.callWith_type1 (thn (ha pos pins s U H _ I h) λus s1 zz36=>by obtain ⟨vs,H1,I1,r1,q1⟩:=zz36;exact hc pins s1 U H1 vs us Q I1 r1 q1) he M6
end
end L2
namespace HT
open PySem PyProof.Rows
section
open PySem.SeqAt
open PySem.AutoSeq1 (wpAny_loadPart')
open PySem.MeetsSeq PySem.MeetsSeq2 PySem.MeetsSeq3
end
section
variable {prog:Program}{w:World}{A:Around}{E:Value->Shared->Prop}{s:Shared}
noncomputable def sIx (n d:Nat):Option Int->Nat
 |none=>d
 |some v=>if v<0 then (v+(n:Int)).toNat else min v.toNat n
theorem sIx_none (n d:Nat):sIx n d none=d:=rfl
theorem sIx_nat (n d k:Nat):sIx n d (some (k:Int))=min k n:=by
 show (if (k:Int)<0 then ((k:Int)+(n:Int)).toNat else min (k:Int).toNat n)=min k n
 rw [if_neg (by omega),Int.toNat_natCast]
end
end HT
namespace L2
open PySem PySem.Spec PyProof.Rows
abbrev TO:=St->Hp->(Option Int->Hp->Prop)->Prop
def PO (X:Cx) (e:Option Expr) (t:TO):Prop :=
 ∀ (pins:List (Addr×Obj)) (s:Shared) (U:St) (H:Hp) (Q:Option Int->Hp->Prop),Inv X pins U H s->t U H Q ->
  wpAny (model X.prog X.w) X.A (evalPart e X.env) (λu s'=>∃ o H',Inv X pins U H' s'/\IsPart u o/\Q o H') X.xe s
def Ct:TO:=λ_ H Q=>Q none H
def Ik (t:TE):TO:=λU H Q=>t U H λx H1=>∃ i,x=.int i/\Q (some i) H1
section
variable {X:Cx}{e:Expr}{te:TE}{lo hi:Option Expr}{tl th:TO}{pos p2:Pos}
theorem Cu:PO X none Ct:=by
 intro pins s U H Q I h
 rw [evalPart_none]
 exact wpAny_pure ⟨none,H,I,.none,h⟩
theorem Cv (h:PE X e te):PO X (some e) (Ik te):=by
 intro pins s U H Q I hw
 rw [evalPart_some]
 refine thn (h pins s U H _ I hw) λu s1 zz37=>?_
 obtain ⟨x,H1,I1,r1,q1⟩:=zz37
 obtain ⟨i,rfl,q⟩:=q1
 obtain ⟨t,rfl⟩:=r1
 exact ⟨some i,H1,I1,.int i t,q⟩
def SlR (X:Cx) (r:V->Option Int->Option Int->Hp->VK->Prop):Prop :=
 ∀ (pins:List (Addr×Obj)) (s:Shared) (U:St) (H:Hp) (x:V) (v vl vu:Value) (lo hi:Option Int) (sl:Addr) (Q:VK),Inv X pins U H s->aq x v->s.heap.IsSliceOf sl vl vu .none->IsPart vl lo->IsPart vu hi->r x lo hi H Q ->
  ∃ T id,typeLookup (.type T) "__getitem__"=pure (some (.builtin id))/\s.TypeIs v T/\wpAny (model X.prog X.w) X.A (getItem v (.ref sl)) (EP X pins U Q) X.xe s
def tSl (r:V->Option Int->Option Int->Hp->VK->Prop) (te:TE) (tl th:TO):TE:=λU H Q=>te U H λx H1=>tl U H1 λl H2=>th U H2 λu H3=>r x l u H3 Q
theorem AH {r:V->Option Int->Option Int->Hp->VK->Prop}(hr:SlR X r) (he:PE X e te) (hl:PO X lo tl) (hu:PO X hi th):PE X (.Subscript e (.Slice lo hi none p2) pos) (tSl r te tl th):=by
 intro pins s U H Q I h
 refine Subscript_ (thn (he pins s U H _ I h) λv s1 zz38=>?_)
 obtain ⟨x,H1,I1,r1,q1⟩:=zz38
 refine wpAny_Slice (thn (hl pins s1 U H1 _ I1 q1) λvl s2 zz39=>?_)
 obtain ⟨l,H2,I2,pl,q2⟩:=zz39
 refine thn (hu pins s2 U H2 _ I2 q2) λvu s3 zz40=>?_
 obtain ⟨u,H3,I3,pu,q3⟩:=zz40
 rw [evalPart_none]
 refine wpAny_pure ?_
 have I4:Inv X pins U H3 { s3 with heap:=s3.heap.push { cls:=.type "slice",data:=.fields #[vl,vu,.none] } }:=I3.kept (t':=s3.toks) λb ob q=>Heap.get?_push_of_some _ q
 obtain ⟨T,id,hT,ht,hg⟩:=hr pins { s3 with heap:=s3.heap.push { cls:=.type "slice",data:=.fields #[vl,vu,.none] } } U H3 x v vl vu l u s3.heap.objs.size Q I4 r1 (Heap.IsSliceOf.new ..) pl pu q3
 show wpAny (model X.prog X.w) X.A (subscriptTail e (.Slice lo hi none p2) v (.ref s3.heap.objs.size)) (EP X pins U Q) X.xe { s3 with heap:=s3.heap.push { cls:=.type "slice",data:=.fields #[vl,vu,.none] } }
 exact tail_any (ops:=[.ref s3.heap.objs.size,v]) ht hT hg (by with_unfolding_all rfl)
def gz (xs:List V) (lo hi:Option Int):List V:=(xs.drop (HT.sIx xs.length 0 lo)).take (HT.sIx xs.length xs.length hi - HT.sIx xs.length 0 lo)
theorem yE (xs:List V) (lo hi:Option Int):(gz xs lo hi).length<=xs.length:=by
 unfold gz
 rw [List.length_take,List.length_drop]
 omega
end
noncomputable def ixN (n:Nat) (i:Int):Option Nat:=if 0<=i then (if i<n then some i.toNat else none) else if -(n:Int)<=i then some (i+n).toNat else none
def atI {α:Type}(xs:List α) (i:Int):Option α:=(ixN xs.length i).bind λj=>xs[j]?
theorem sC {n:Nat}{i:Int}{j:Nat}(h:ixN n i=some j):seqIndex? i n=some j/\j<n /\ -(n:Int)<=i/\i<n:=by
 unfold ixN at h
 by_cases h0:0<=i
 ·rw [if_pos h0] at h
  by_cases h1:i<n
  ·rw [if_pos h1] at h
   have e:i.toNat=j:=Option.some.inj h
   exact ⟨by rw [seqIndex_of h0 h1,e],by omega,by omega,h1⟩
  ·rw [if_neg h1] at h;cases h
 ·rw [if_neg h0] at h
  by_cases h1:-(n:Int)<=i
  ·rw [if_pos h1] at h
   have e:(i+n).toNat=j:=Option.some.inj h
   exact ⟨by rw [seqIndex_neg (by omega) h1,e],by omega,h1,by omega⟩
  ·rw [if_neg h1] at h;cases h
theorem nr {α:Type}{xs:List α}{i:Int}{v:α}(h:atI xs i=some v):∃ j,seqIndex? i xs.length=some j/\xs[j]?=some v/\j<xs.length /\ -(xs.length:Int)<=i/\i<xs.length:=by
 unfold atI at h
 cases e:ixN xs.length i with
 |none=>rw [e] at h;cases h
 |some j =>
  rw [e] at h
  obtain ⟨h1,h2,h3,h4⟩:=sC e
  exact ⟨j,h1,h,h2,h3,h4⟩
theorem fH {α:Type}{xs:List α}{j:Nat}{v:α}(h:xs[j]?=some v):atI xs (j:Int)=some v:=by
 have hj:j<xs.length:=(List.getElem?_eq_some_iff.mp h).1
 have e:ixN xs.length (j:Int)=some j:=by
  unfold ixN
  rw [if_pos (by omega),if_pos (by omega)];simp
 unfold atI;rw [e];exact h
def ny (b:Expr):Prop:=∀ o i,subscripted b false o i=operate [o,i] (getItem o i)
def IxR (X:Cx) (r:R2):Prop :=
 ∀ (value slice:Expr) (pins:List (Addr×Obj)) (s:Shared) (U:St) (H:Hp) (x y:V) (v u:Value) (Q:VK),Inv X pins U H s->aq x v->aq y u->r x y H Q ->
  subscripted slice false v u=operate [v,u] (getItem v u)->wpAny (model X.prog X.w) X.A (subscriptTail value slice v u) (EP X pins U Q) X.xe s
def MtR (X:Cx) (id:String) (r:V->List V->Hp->VK->Prop):Prop :=
 ∀ (pins:List (Addr×Obj)) (s:Shared) (U:St) (H:Hp) (x:V) (xs:List V) (v:Value) (us:List Value) (Q:VK),Inv X pins U H s->aq x v->am xs us->r x xs H Q ->
  wpAny (model X.prog X.w) X.A (call (.builtin id) (v::us)) (EP X pins U Q) X.xe s
section
variable {X:Cx}{a b:Expr}{ta tb:TE}{pos:Pos}
theorem Il {r:R2}(hr:IxR X r) (ha:PE X a ta) (hb:PE X b tb) (hs:ny b):PE X (.Subscript a b pos) (tOp r ta tb):=by
 intro pins s U H Q I h
 exact Subscript_ (pF ha hb I h λv u s2 x y H2 I2 rx ry q=>hr a b pins s2 U H2 x y v u Q I2 rx ry q (hs _ _))
def KI (K:PySem.W.Frag):R2:=λx y H Q=>∃ p xs i v,x=.ref p/\y=.int i/\SqL K H p xs/\atI xs i=some v/\Q v H
def KJ (K:PySem.W.Frag):R2:=λx y H Q=>∃ p xs i v,x=.ref p/\y=.int i/\SqT K H p xs/\atI xs i=some v/\Q v H
def KL:R2:=λx y H Q=>∃ z i c,x=.str z/\y=.int i/\z.length<=sizeLine/\atI z.cps.toList i=some c/\Q (.str ⟨#[c]⟩) H
theorem Cw:IxR X (KI X.K):=by
 intro value slice pins s U H x y v u Q I rx ry h hs
 obtain ⟨p,xs,i,z,rfl,rfl,hq,he,q⟩:=h
 cases rx
 obtain ⟨t,rfl⟩:=ry
 obtain ⟨its,r,pl,hz⟩:=I.list hq
 obtain ⟨j,h1,h2,h3,h4,h5⟩:=nr he
 obtain ⟨w,ew,OW⟩:=r.get h2
 have hl:=r.length
 have hn:=eQ
 have fin:EP X pins U Q w s:=⟨z,H,I,OW,q⟩
 by_cases h0:0<=i
 ·have hj:i.toNat=j:=by
   rw [seqIndex_of h0 h5] at h1
   exact Option.some.inj h1
  exact item_listR pl.isList h0 (by omega) (by rw [hj];simpa using ew) fin hs
 ·have hj:(i+(its.toArray.size:Int)).toNat=j:=by
   rw [seqIndex_neg (by omega) h4] at h1
   rw [List.size_toArray,<- hl]
   exact Option.some.inj h1
  exact subscriptTail_builtinR (x:=w) pl.isList.typeIs slot_list_getitem.lookup
   (wpAny_getItem_list_neg (Q:=λr s'=>r=w/\EP X pins U Q r s') pl.isList (by omega) (by rw [List.size_toArray]<;>omega) (by omega) (by rw [hj];simpa using ew) ⟨rfl,fin⟩) hs
theorem Fl:IxR X (KJ X.K):=by
 intro value slice pins s U H x y v u Q I rx ry h hs
 obtain ⟨p,xs,i,z,rfl,rfl,hq,he,q⟩:=h
 cases rx
 obtain ⟨t,rfl⟩:=ry
 obtain ⟨its,r,pl,hz⟩:=I.tuple hq
 obtain ⟨j,h1,h2,h3,h4,h5⟩:=nr he
 obtain ⟨w,ew,OW⟩:=r.get h2
 have hl:=r.length
 have hn:=eQ
 have fin:EP X pins U Q w s:=⟨z,H,I,OW,q⟩
 exact subscriptTail_builtinR (x:=w) pl.typeIs slot_tuple_getitem.lookup
  (getItem_tuple (j:=j) (Q:=λr s'=>r=w/\EP X pins U Q r s') pl (by omega) (by omega) (by rw [List.size_toArray,<- hl];exact h1) (by simpa using ew) ⟨rfl,fin⟩) hs
theorem Fm:IxR X KL:=by
 intro value slice pins s U H x y v u Q I rx ry h hs
 obtain ⟨z,i,c,rfl,rfl,hz,he,q⟩:=h
 obtain ⟨t,rfl⟩:=rx
 obtain ⟨t',rfl⟩:=ry
 obtain ⟨j,h1,h2,h3,h4,h5⟩:=nr he
 have hl:z.cps.toList.length=z.length:=by simp [Str.length]
 rw [hl] at h1 h4 h5
 have hn:=eQ
 exact tail_any (typeIs_str s z t) slot_str_getitem.lookup (getItem_str (c:=c) (by
  have e1:decide (i < -(2 ^ 63:Int))=false:=decide_eq_false (by omega)
  have e2:decide (i≥2 ^ 63)=false:=decide_eq_false (by omega)
  rw [e1,e2,Bool.or_false]) (by rw [h1];simpa using h2) ⟨.str ⟨#[c]⟩,H,I.tok _,⟨_,rfl⟩,q⟩) hs
theorem y6 (its:List Value) (n j:Nat) (u:Value):Obj.mapSeq (·.setIfInBounds j u) { cls:=.type "list",data:=.seq its.toArray n }={ cls:=.type "list",data:=.seq (its.set j u).toArray n }:=by
 simp [Obj.mapSeq]
theorem Inv.lst {pins:List (Addr×Obj)}{U:St}{H:Hp}{s:Shared}{p:Addr}{xs:List V}(I:Inv X pins U H s) (h:H p=some (.lst xs)) :
  ∃ (its:List Value) (n:Nat),am xs its/\s.heap.get? p=some { cls:=.type "list",data:=.seq its.toArray n }/\xs.length<=sizeLine:=by
 obtain ⟨z,its,n,r,e⟩:=I.hok p _ h
 exact ⟨its,n,r,e,z⟩
theorem Inv.lstUpd {pins:List (Addr×Obj)}{U:St}{H:Hp}{s:Shared}{p:Addr}{xs ys:List V}{its its':List Value}{n n':Nat}{f:Obj->Obj}(I:Inv X pins U H s) (h:H p=some (.lst xs))
  (ho:s.heap.get? p=some { cls:=.type "list",data:=.seq its.toArray n }) (hf:f { cls:=.type "list",data:=.seq its.toArray n }={ cls:=.type "list",data:=.seq its'.toArray n' }) (r:am ys its') (hz:ys.length<=sizeLine) (t:Nat) :
  Inv X pins U (upd H p (.lst ys)) { s with heap:=s.heap.update p f,toks:=t }:=by
 have e:(s.heap.update p f).get? p=some { cls:=.type "list",data:=.seq its'.toArray n' }:=by
  rw [Heap.get?_update_self f ho (by rw [hf]<;>rfl),hf]
 refine I.write (x:=p) (e:=p) (by rw [h];trivial) (.inl rfl) (λb u hb q=>(Heap.get?_update_other _ _ (Ne.symm hb)).trans q) ⟨_,e⟩ ?_
 exact ⟨hz,its',n',r,e⟩
def Io:V->V->V->Hp->(Hp->Prop)->Prop:=λo i v H Q=>∃ p xs k j,o=.ref p/\i=.int k/\H p=some (.lst xs)/\ixN xs.length k=some j/\Q (upd H p (.lst (xs.set j v)))
theorem AI:dn X Io:=by
 intro pins s U H o i v ov iv u Q I ro ri rv h
 obtain ⟨p,xs,k,j,rfl,rfl,hp,hj,q⟩:=h
 cases ro
 obtain ⟨t,rfl⟩:=ri
 obtain ⟨its,n,r,ho,hz⟩:=I.lst hp
 obtain ⟨h1,h2,h3,h4⟩:=sC hj
 have hl:=r.length
 have hn:=eQ
 have I':Inv X pins U (upd H p (.lst (xs.set j v))) { s with heap:=s.heap.update p (Obj.mapSeq (·.setIfInBounds j u)) } :=
  I.lstUpd hp ho (y6 its n j u) (r.set rv j) (by rw [List.length_set];exact hz) s.toks
 by_cases h0:0<=k
 ·have hk:k.toNat=j:=by
   rw [seqIndex_of h0 h4] at h1
   exact Option.some.inj h1
  exact PySem.W.ki_setAt ho h0 (by omega) (by rw [List.size_toArray,<- hl];exact h4) (by rw [hk];exact ⟨_,I',q⟩)
 ·have hk:(k+(its.toArray.size:Int)).toNat=j:=by
   rw [seqIndex_neg (by omega) h3] at h1
   rw [List.size_toArray,<- hl]
   exact Option.some.inj h1
  exact PySem.W.ki_setBack ho (by omega) (by rw [List.size_toArray,<- hl];exact h3) (by omega) (by rw [hk];exact ⟨_,I',q⟩)
theorem yf (lo hi:Option Int) (n:Nat):(sliceBounds lo hi none n).1=((HT.sIx n 0 lo:Nat):Int)/\(sliceBounds lo hi none n).2.1=((HT.sIx n n hi:Nat):Int)/\(sliceBounds lo hi none n).2.2=1:=by
 refine ⟨?_,?_,rfl⟩
 ·cases lo with
  |none=>simp [sliceBounds,HT.sIx]
  |some i =>
   simp only [sliceBounds,HT.sIx,Option.getD_none,show (1:Int)>0 by decide,if_true]
   by_cases h:i<0
   ·simp only [h,if_true]<;>omega
   ·simp only [h,if_false]<;>omega
 ·cases hi with
  |none=>simp [sliceBounds,HT.sIx]
  |some i =>
   simp only [sliceBounds,HT.sIx,Option.getD_none,show (1:Int)>0 by decide,if_true]
   by_cases h:i<0
   ·simp only [h,if_true]<;>omega
   ·simp only [h,if_false]<;>omega
theorem xY (its:List Value) (lo hi:Option Int):slicePick its.toArray lo hi none=((its.drop (HT.sIx its.length 0 lo)).take (HT.sIx its.length its.length hi - HT.sIx its.length 0 lo)).toArray:=by
 obtain ⟨h1,h2,h3⟩:=yf lo hi its.toArray.size
 unfold slicePick
 rw [h1,h2,h3]
 simp only [sliceRange_one,pick_run,List.size_toArray]<;>rfl
def wL (K:PySem.W.Frag):V->Option Int->Option Int->Hp->VK->Prop:=λx lo hi H Q=>∃ a xs,x=.ref a/\SqL K H a xs/\∀ p,H p=none->Q (.ref p) (upd H p (.lst (gz xs lo hi)))
theorem Cy:SlR X (wL X.K):=by
 intro pins s U H x v vl vu lo hi sl Q I rx hs pl pu h
 obtain ⟨a,xs,rfl,hx,q⟩:=h
 cases rx
 obtain ⟨its,r,ht,hz⟩:=I.list hx
 have Mr:=r.length
 refine ⟨"list",_,slot_list_getitem.lookup,ht.isList.typeIs,?_⟩
 refine wpAny_getItem_list_slice ht.isList hs pl pu .none (by simp) ?_ (by rw [List.size_toArray]<;>omega)
 rw [xY,<- Mr]
 refine ⟨.ref s.heap.objs.size,_,I.laid (t':=s.toks) (o:=.lst (gz xs lo hi)) (λb ob q=>Heap.get?_push_of_some _ q) (Nat.le_refl _) ?_,rfl,q _ (I.hok.fresh (Nat.le_refl _))⟩
 exact ⟨Nat.le_trans (yE xs lo hi) hz,_,0,(r.drop (HT.sIx xs.length 0 lo)).take (HT.sIx xs.length xs.length hi - HT.sIx xs.length 0 lo),Heap.get?_push_size _ rfl⟩
noncomputable def dh:V->Bool
 |.non=>true
 |.bl _=>true
 |.int _=>true
 |.str _=>true
 |_=>false
noncomputable def eqV:V->V->Bool
 |.non,.non=>true
 |.bl a,.bl b=>a==b
 |.bl a,.int b=>(if a then 1 else 0)==b
 |.int a,.bl b=>a==(if b then 1 else 0)
 |.int a,.int b=>a==b
 |.str a,.str b=>a==b
 |_,_=>false
theorem Fn {A:Around}{s:Shared}{y x:V}{u v:Value}(ry:aq y u) (rx:aq x v) (fy:dh y=true) (fx:dh x=true):SeqAt.EqAt A s u v (eqV y x):=by
 cases y with
 |non =>
  cases ry
  cases x with
  |non=>cases rx;exact SeqAt.EqAt.same _
  |bl b=>cases rx;exact SeqAt.EqAt.none_bool b
  |int b=>obtain ⟨t,rfl⟩:=rx;exact SeqAt.EqAt.none_int b t
  |str b=>obtain ⟨t,rfl⟩:=rx;exact SeqAt.EqAt.none_str b t
  |_=>exact absurd (show false=true from fx) Bool.false_ne_true
 |bl a =>
  cases ry
  cases x with
  |non=>cases rx;exact SeqAt.EqAt.bool_none a
  |bl b=>cases rx;exact SeqAt.EqAt.bool_bool a b
  |int b=>obtain ⟨t,rfl⟩:=rx;exact SeqAt.EqAt.bool_int a b t
  |str b=>obtain ⟨t,rfl⟩:=rx;exact SeqAt.EqAt.bool_str a b t
  |_=>exact absurd (show false=true from fx) Bool.false_ne_true
 |int a =>
  obtain ⟨t',rfl⟩:=ry
  cases x with
  |non=>cases rx;exact SeqAt.EqAt.int_none a t'
  |bl b=>cases rx;exact SeqAt.EqAt.int_bool a t' b
  |int b=>obtain ⟨t,rfl⟩:=rx;exact SeqAt.EqAt.int_int a t' b t
  |str b=>obtain ⟨t,rfl⟩:=rx;exact SeqAt.EqAt.int_str a t' b t
  |_=>exact absurd (show false=true from fx) Bool.false_ne_true
 |str a =>
  obtain ⟨t',rfl⟩:=ry
  cases x with
  |non=>cases rx;exact SeqAt.EqAt.str_none a t'
  |bl b=>cases rx;exact SeqAt.EqAt.str_bool a t' b
  |int b=>obtain ⟨t,rfl⟩:=rx;exact SeqAt.EqAt.str_int a t' b t
  |str b=>obtain ⟨t,rfl⟩:=rx;exact SeqAt.EqAt.str_str a t' b t
  |_=>exact absurd (show false=true from fx) Bool.false_ne_true
 |_=>exact absurd (show false=true from fy) Bool.false_ne_true
noncomputable def eqU (x:V) (u:Value):Bool:=match u with
 |.none=>eqV .non x
 |.bool b=>eqV (.bl b) x
 |.int i _=>eqV (.int i) x
 |.str z _=>eqV (.str z) x
 |_=>false
theorem ug {x y:V}{u:Value}(r:aq y u) (f:dh y=true):eqU x u=eqV y x:=by
 cases y with
 |non=>cases r;rfl
 |bl b=>cases r;rfl
 |int i=>obtain ⟨t,rfl⟩:=r;rfl
 |str z=>obtain ⟨t,rfl⟩:=r;rfl
 |_=>exact absurd (show false=true from f) Bool.false_ne_true
theorem gO {x:V}:∀ {xs:List V}{us:List Value},am xs us->xs.all dh=true->us.any (eqU x)=xs.any λy=>eqV y x
 |_,_,.nil,_=>rfl
 |y::xs,u::us,.cons r t,f=>by
  rw [List.all_cons,Bool.and_eq_true] at f
  rw [List.any_cons,List.any_cons,ug r f.1,gO t f.2]
theorem gJ {A:Around}{s:Shared}{x:V}{v:Value}(rx:aq x v) (fx:dh x=true):∀ {xs:List V}{us:List Value},am xs us->xs.all dh=true->∀ u∈us,SeqAt.EqAt A s u v (eqU x u)
 |_,_,.nil,_=>λu hu=>by cases hu
 |y::xs,u::us,.cons r t,f=>λu' hu=>by
  rw [List.all_cons,Bool.and_eq_true] at f
  rcases List.mem_cons.mp hu with rfl|hu
  ·rw [ug r f.1];exact Fn r rx f.1 fx
  ·exact gJ rx fx t f.2 u' hu
def inV (x:V) (xs:List V):Bool:=xs.any λy=>eqV y x
def rIn (K:PySem.W.Frag) (neg:Bool):R2:=λx y H Q=>∃ p xs,y=.ref p/\(SqL K H p xs\/SqT K H p xs)/\dh x=true/\xs.all dh=true/\Q (.bl (if neg then !inV x xs else inV x xs)) H
theorem qK:OpR X (compareOp .In) (rIn X.K false):=by
 intro pins s U H x y v u Q I rx ry h
 obtain ⟨p,xs,rfl,hq,fx,fs,q⟩:=h
 cases ry
 rcases hq with hq|hq
 ·obtain ⟨its,r,pl,hz⟩:=I.list hq
  refine SeqAt.in_listAt (eqU x) pl.isList (λw hw=>gJ rx fx r fs w (by simpa using hw)) ⟨.bl _,H,I,rfl,?_⟩
  rw [show its.toArray.any (eqU x)=its.any (eqU x) by simp,gO r fs]
  exact q
 ·obtain ⟨its,r,pl,hz⟩:=I.tuple hq
  refine SeqAt.in_tupleAt (eqU x) pl (λw hw=>gJ rx fx r fs w (by simpa using hw)) ⟨.bl _,H,I,rfl,?_⟩
  rw [show its.toArray.any (eqU x)=its.any (eqU x) by simp,gO r fs]
  exact q
theorem qb:OpR X (compareOp .NotIn) (rIn X.K true):=by
 intro pins s U H x y v u Q I rx ry h
 obtain ⟨p,xs,rfl,hq,fx,fs,q⟩:=h
 cases ry
 rcases hq with hq|hq
 ·obtain ⟨its,r,pl,hz⟩:=I.list hq
  refine SeqAt.notIn_listAt (eqU x) pl.isList (λw hw=>gJ rx fx r fs w (by simpa using hw)) ⟨.bl _,H,I,rfl,?_⟩
  rw [show its.toArray.any (eqU x)=its.any (eqU x) by simp,gO r fs]
  exact q
 ·obtain ⟨its,r,pl,hz⟩:=I.tuple hq
  refine SeqAt.notIn_tupleAt (eqU x) pl (λw hw=>gJ rx fx r fs w (by simpa using hw)) ⟨.bl _,H,I,rfl,?_⟩
  rw [show its.toArray.any (eqU x)=its.any (eqU x) by simp,gO r fs]
  exact q
theorem qc:bf X (.builtin "len") (λxs H Q=>∃ p ys,xs=[.ref p]/\(SqL X.K H p ys\/SqT X.K H p ys)/\Q (.int ys.length) H):=by
 intro pins s U H xs us Q I r h
 obtain ⟨p,ys,rfl,hq,q⟩:=h
 obtain ⟨u,rfl,rx⟩:=bV r
 cases rx
 have hn:=eQ
 rcases hq with hq|hq
 ·obtain ⟨its,r',pl,hz⟩:=I.list hq
  have Mr:=r'.length
  exact Calls.call_len_list pl.isList (by simp only [List.size_toArray]<;>omega) ⟨.int ys.length,H,I.tok _,⟨s.toks+1,by rw [List.size_toArray,Mr]⟩,q⟩
 ·obtain ⟨its,r',pl,hz⟩:=I.tuple hq
  have Mr:=r'.length
  exact len_tuple pl (by simp only [List.size_toArray]<;>omega) ⟨.int ys.length,H,I.tok _,⟨s.toks+1,by rw [List.size_toArray,Mr]⟩,q⟩
theorem yg:bf X (.builtin "len") (λxs H Q=>∃ z,xs=[.str z]/\z.length<=sizeLine/\Q (.int z.length) H):=by
 intro pins s U H xs us Q I r h
 obtain ⟨z,rfl,hz,q⟩:=h
 obtain ⟨u,rfl,t,rfl⟩:=bV r
 have hn:=eQ
 exact len_str (by omega) ⟨.int z.length,H,I.tok _,⟨_,rfl⟩,q⟩
theorem qd:bf X (.type "list") (λxs H Q=>∃ p ys,xs=[.ref p]/\(SqL X.K H p ys\/SqT X.K H p ys)/\∀ l,H l=none->Q (.ref l) (upd H l (.lst ys))):=by
 intro pins s U H xs us Q I r h
 obtain ⟨p,ys,rfl,hq,q⟩:=h
 obtain ⟨u,rfl,rx⟩:=bV r
 cases rx
 have fin:∀ (its:List Value),am ys its->ys.length<=sizeLine->∀ (h':Heap) (c':Nat),(∀ b o',s.heap.get? b=some o'->h'.get? b=some o') ->
   h'.get? s.heap.objs.size=some { cls:=.type "list",dict:=none,data:=.seq its.toArray c',slots:=#[] }->EP X pins U Q (.ref s.heap.objs.size) { s with heap:=h' }:=λits r' hz h' c' kp e =>
  ⟨.ref s.heap.objs.size,_,I.laid (t':=s.toks) kp (Nat.le_refl _) (show aS X.prog X.w _ h' _ (.lst ys) from ⟨hz,its,c',r',e⟩),rfl,q _ (I.hok.fresh (Nat.le_refl _))⟩
 rcases hq with hq|hq
 ·obtain ⟨its,r',pl,hz⟩:=I.list hq
  have Mr:=r'.length
  obtain ⟨o,ho,hc,n,hd⟩:=pl.isList
  exact call_list_seq p (.inl rfl) ho hc hd (λh' c' kp e=>fin its r' hz h' c' kp e) (by simp only [List.size_toArray]<;>omega)
 ·obtain ⟨its,r',pl,hz⟩:=I.tuple hq
  have Mr:=r'.length
  obtain ⟨o,ho,hc,n,hd⟩:=pl
  exact call_list_seq p (.inr rfl) ho hc hd (λh' c' kp e=>fin its r' hz h' c' kp e) (by simp only [List.size_toArray]<;>omega)
def tyV (K:PySem.W.Frag) (T:String) (x:V) (H:Hp):Prop:=match x with
 |.str _=>T="str"
 |.int _=>T="int"
 |.ref p=>(T="list" /\ ∃ xs,SqL K H p xs)\/(T="tuple" /\ ∃ o,K.lookup p=some o/\o.cls=.type "tuple" /\ o.dict=none) \/
   (T="dict" /\ ((∃ kvs,H p=some (.dK kvs))\/∃ kvs,H p=some (.dT kvs)))\/(T="set" /\ ∃ S n,H p=some (.set S n))
 |_=>False
theorem uh {pins:List (Addr×Obj)}{U:St}{H:Hp}{s:Shared}{T:String}{x:V}{v:Value}(I:Inv X pins U H s) (r:aq x v) (ty:tyV X.K T x H) :
  s.TypeIs v T/\∀ a,v=.ref a->∃ ob,s.heap.get? a=some ob/\ob.dict=none:=by
 cases x with
 |str z =>
  obtain ⟨t,rfl⟩:=r
  cases (show T="str" from ty)
  exact ⟨typeIs_str s z t,λ_ e=>nomatch e⟩
 |int i =>
  obtain ⟨t,rfl⟩:=r
  cases (show T="int" from ty)
  exact ⟨typeIs_int s i t,λ_ e=>nomatch e⟩
 |ref p =>
  cases r
  rcases ty with ⟨rfl,xs,hq⟩|⟨rfl,o,hk,hc,hd⟩|⟨rfl,hk⟩|⟨rfl,S,n,hk⟩
  ·obtain ⟨its,_,pl,_⟩:=I.list hq
   refine ⟨pl.isList.typeIs,λa e=>?_⟩
   cases e
   obtain ⟨o,n,e,c,hd,_⟩:=pl
   exact ⟨o,e,hd⟩
  ·refine ⟨⟨o,I.kIn p o hk,hc⟩,λa e=>?_⟩
   cases e
   exact ⟨o,I.kIn _ o hk,hd⟩
  ·have z:∃ o,s.heap.get? p=some o/\o.ExactDict:=by
    rcases hk with ⟨kvs,hk⟩|⟨kvs,hk⟩
    ·obtain ⟨_,_,_,_,o,_,_,e,ex,_⟩:=I.hok p _ hk
     exact ⟨o,e,ex⟩
    ·obtain ⟨_,_,_,_,o,_,_,e,ex,_⟩:=I.hok p _ hk
     exact ⟨o,e,ex⟩
   obtain ⟨o,e,ex⟩:=z
   refine ⟨⟨o,e,ex.1⟩,λa e2=>?_⟩
   cases e2
   exact ⟨o,e,ex.2.1⟩
  ·obtain ⟨o,_,_,_,e,ex,_⟩:=I.hok p _ hk
   refine ⟨⟨o,e,ex.1⟩,λa e2=>?_⟩
   cases e2
   exact ⟨o,e,ex.2.1⟩
 |_=>exact False.elim ty
def KM (K:PySem.W.Frag) (T:String) (r:V->List V->Hp->VK->Prop) (to:TE):TE:=λU H Q=>to U H λx H1=>tyV K T x H1/\r x [] H1 Q
def tBM (K:PySem.W.Frag) (T:String) (r:V->List V->Hp->VK->Prop) (to:TE) (t:TA):TE:=λU H Q=>to U H λx H1=>tyV K T x H1/\t U H1 λxs H2=>r x xs H2 Q
variable {o e:Expr}{es:List Expr}{to:TE}{t:TA}{name:Str}{apos cpos:Pos}{T id:String}{r:V->List V->Hp->VK->Prop}
theorem Fo (pa:PlainAttrs T) (slot:Slot T name id) (Q4:typeOf (.builtin id)=pure (.type "method_descriptor")) (hm:MtR X id r) (ho:PE X o to)
  (Nt:attributeBase o name X.env (eval o X.env)=eval o X.env:=by rfl) (NQ:(apos.endLine==cpos.line)=true:=by rfl):PE X (.Call (.Attribute o name apos) [] [] cpos) (KM X.K T r to):=by
 intro pins s U H Q I h
 refine wpAny_Call_method0_late Nt NQ (thn (ho pins s U H _ I h) λv s1 zz41=>?_)
 obtain ⟨x,H1,I1,r1,ty,q1⟩:=zz41
 obtain ⟨h1,h2⟩:=uh I1 r1 ty
 exact ⟨T,id,pa,slot,Q4,h1,h2,Calls.callWith_builtin rfl (PySem.evalArgs_none (hm pins s1 U H1 x [] v [] Q I1 r1 .nil q1))⟩
theorem Ip (pa:PlainAttrs T) (slot:Slot T name id) (Q4:typeOf (.builtin id)=pure (.type "method_descriptor")) (hm:MtR X id r) (ho:PE X o to) (ha:PA X (e::es) t)
  (Nt:attributeBase o name X.env (eval o X.env)=eval o X.env:=by rfl)
  (Sv:((backTo cpos (starEach (e::es) X.env)).all (λx=>!x.1)&&(backToKw cpos (keywordEach [] X.env)).all (λx=>x.1.isSome)
   && decide ((e::es).length+([]:List Keyword).length+(if ([]:List Keyword).isEmpty then 0 else 1)<30))=true:=by rfl)
  (NQ:(apos.endLine==cpos.line)=true:=by rfl) (hs:starEach (e::es) X.env=(false,eval e X.env)::starEach es X.env:=by rfl) (NI:(backTo cpos (starEach es X.env)).any (·.1)=false:=by rfl) :
  PE X (.Call (.Attribute o name apos) (e::es) [] cpos) (tBM X.K T r to t):=by
 intro pins s U H Q I h
 refine wpAny_Call_method_late Nt Sv NQ rfl (thn (ho pins s U H _ I h) λv s1 zz42=>?_)
 obtain ⟨x,H1,I1,r1,ty,q1⟩:=zz42
 obtain ⟨h1,h2⟩:=uh I1 r1 ty
 refine ⟨T,id,pa,slot,Q4,h1,h2,?_⟩
 have hA:=ha cpos pins s1 U H1 _ I1 q1
 rw [hs] at hA ⊢
 refine Calls.callWith_builtin (by show (false || (backTo cpos (starEach es X.env)).any (·.1))=false;rw [NI]<;>rfl) (Calls.evalArgs_plain ?_)
 exact thn hA λus s2 zz43=>by obtain ⟨vs,H2,I2,r2,q2⟩:=zz43;exact hm pins s2 U H2 x vs v us Q I2 r1 r2 q2
end
def MtM (X:Cx) (id:String) (r:V->List V->Hp->VK->Prop):Prop :=
 ∀ (pins:List (Addr×Obj)) (s:Shared) (U:St) (H:Hp) (x:V) (xs:List V) (v:Value) (us:List Value) (Q:VK),Inv X pins U H s->aq x v->am xs us->r x xs H Q ->
  wpAny (model X.prog X.w) X.A (call (.builtin id) (v::us)) (EP X pins U Q) X.xe s
theorem am.one:∀ {x:V}{us:List Value},am [x] us->∃ u,us=[u]/\aq x u
 |_,_,.cons r .nil=>⟨_,rfl,r⟩
theorem am.rep {xs:List V}{us:List Value}(h:am xs us):∀ k:Nat,am (List.replicate k xs).flatten (List.replicate k us).flatten
 |0=>.nil
 |k+1=>by
  rw [List.replicate_succ,List.replicate_succ,List.flatten_cons,List.flatten_cons]
  exact am.append h (am.rep h k)
theorem qL (its:List Value):∀ (k:Nat) (LQ:List Value),
  List.foldl (λx1 x2=>x1++x2) LQ.toArray (List.replicate k its.toArray)=(LQ++(List.replicate k its).flatten).toArray
 |0,LQ=>by simp
 |k+1,LQ=>by
  have e:LQ.toArray++its.toArray=(LQ++its).toArray:=by simp
  have e2:(LQ++its)++(List.replicate k its).flatten=LQ++(List.replicate (k+1) its).flatten:=by
   rw [List.replicate_succ,List.flatten_cons,List.append_assoc]
  rw [<- e2,<- qL its k (LQ++its),<- e,List.replicate_succ,List.foldl_cons]
section
variable {X:Cx}{pins:List (Addr×Obj)}{U:St}{H:Hp}{s:Shared}{l b:Addr}{xs ys zs:List V}
theorem Inv.lset {its its':List Value}{n:Nat}{f:Array Value->Array Value}{t':Nat}(I:Inv X pins U H s) (hH:H l=some (.lst xs))
  (e:s.heap.get? l=some { cls:=.type "list",data:=.seq its.toArray n }) (hf:f its.toArray=its'.toArray) (hv:am ys its') (hz:ys.length<=sizeLine) :
  Inv X pins U (upd H l (.lst ys)) { s with heap:=s.heap.update l (Obj.mapSeq f),toks:=t' }:=by
 have q:=PySem.IsL.update e f
 rw [hf] at q
 refine I.write (x:=l) (e:=l) (by rw [hH];exact trivial) (.inl rfl) (λb' u hb hu=>(Heap.get?_update_other s.heap (Obj.mapSeq f) (Ne.symm hb)).trans hu) ⟨_,q⟩ ?_
 exact ⟨hz,its',_,hv,q⟩
theorem Inv.lnew {its:List Value}{t':Nat}(I:Inv X pins U H s) (hv:am ys its) (hz:ys.length<=sizeLine) :
  Inv X pins U (upd H s.heap.objs.size (.lst ys)) { s with heap:=s.heap.push { cls:=.type "list",data:=.seq its.toArray },toks:=t' } :=
 I.laid (λ_ _ q=>Heap.get?_push_of_some _ q) (Nat.le_refl _) ⟨hz,its,0,hv,Heap.get?_push_size _ rfl⟩
theorem Inv.fresh (I:Inv X pins U H s):H s.heap.objs.size=none:=I.hok.fresh (Nat.le_refl _)
theorem Inv.lstM (I:Inv X pins U H s) (hH:H l=some (.lst xs)):xs.length<=sizeLine/\∃ (its:List Value) (n:Nat),am xs its/\xs.length=its.length/\s.heap.get? l=some { cls:=.type "list",data:=.seq its.toArray n }:=by
 obtain ⟨z,its,n,r,e⟩:=I.hok l _ hH
 exact ⟨z,its,n,r,r.length,e⟩
theorem AJ {n:Nat}(h:n<=sizeLine):Builtin.List.listTooLong n=false:=by
 unfold Builtin.List.listTooLong
 exact decide_eq_false (by omega)
end
section
variable {X:Cx}
def Cz:V->List V->Hp->VK->Prop:=λx vs H Q=>∃ l xs y,x=.ref l/\vs=[y]/\H l=some (.lst xs)/\xs.length<sizeLine/\Q .non (upd H l (.lst (xs++[y])))
theorem qM:MtM X "list.append" Cz:=by
 intro pins s U H x vs v us Q I rx rv h
 obtain ⟨l,xs,y,rfl,rfl,hH,hz,q⟩:=h
 cases rx
 obtain ⟨u,rfl,ru⟩:=rv.one
 obtain ⟨z,its,n,r,hl,e⟩:=I.lstM hH
 refine call_meets F.slot_list_append ⟨_,e,rfl⟩ F.entry_list_append (F.args_list_append_2 _ _) (PySem.list_append l its.toArray n u (by rw [List.size_toArray];omega)) ⟨e,?_⟩
 refine ⟨.non,_,I.lset (its':=its++[u]) hH e (by simp) (r.append (.cons ru .nil)) ?_,rfl,q⟩
 rw [List.length_append,List.length_singleton]
 omega
def KN:R2:=λx y H Q=>∃ l b xs zs,x=.ref l/\y=.ref b/\H l=some (.lst xs)/\H b=some (.lst zs)/\xs.length+zs.length<=sizeLine/\∀ p,H p=none->Q (.ref p) (upd H p (.lst (xs++zs)))
theorem Fp:OpR X (binaryOp .Add) KN:=by
 intro pins s U H x y v u Q I rx ry h
 obtain ⟨l,b,xs,zs,rfl,rfl,hH,hB,hz,q⟩:=h
 cases rx
 cases ry
 obtain ⟨z,its,n,r,hl,e⟩:=I.lstM hH
 obtain ⟨z2,its2,n2,r2,hl2,e2⟩:=I.lstM hB
 refine PySem.P.add_list e e2 ?_ (by rw [List.size_toArray,List.size_toArray];omega)
 have ea:its.toArray++its2.toArray=(its++its2).toArray:=by simp
 rw [ea]
 exact ⟨.ref _,_,I.lnew (t':=s.toks) (r.append r2) (by rw [List.length_append];omega),rfl,q _ I.fresh⟩
def KO:R2:=λx y H Q=>∃ l k xs,x=.ref l/\y=.int k/\H l=some (.lst xs) /\ -(2 ^ 63)<=k/\k<2 ^ 63/\xs.length * k.toNat<=sizeLine /\
 ∀ p,H p=none->Q (.ref p) (upd H p (.lst (List.replicate k.toNat xs).flatten))
theorem CA {α:Type}(xs:List α) (k:Nat):(List.replicate k xs).flatten.length=k * xs.length:=by
 induction k with
 |zero=>simp
 |succ k ih=>rw [List.replicate_succ,List.flatten_cons,List.length_append,ih,Nat.succ_mul,Nat.add_comm]
theorem Fq:OpR X (binaryOp .Mult) KO:=by
 intro pins s U H x y v u Q I rx ry h
 obtain ⟨l,k,xs,rfl,rfl,hH,h1,h2,hz,q⟩:=h
 cases rx
 obtain ⟨t,rfl⟩:=ry
 obtain ⟨z,its,n,r,hl,e⟩:=I.lstM hH
 have Mr:its.toArray.size * k.toNat<=sizeLine:=by rw [List.size_toArray,<- hl];exact hz
 have hcap:¬ its.toArray.size * k.toNat>(2 ^ 63 - 1) / 8:=by
  have:(sizeLine:Nat)<=(2 ^ 63 - 1) / 8:=by decide
  omega
 have hfit:¬ (!Builtin.List.listFitsIndex k)=true:=by
  rw [fitsIndex_both h1 h2]
  exact Bool.false_ne_true
 have hlong:¬ Builtin.List.listTooLong (its.toArray.size * k.toNat)=true:=by
  rw [AJ Mr]
  exact Bool.false_ne_true
 have hnew:List.foldl (λx1 x2=>x1++x2) #[] (List.replicate (if its.toArray.isEmpty=true then 0 else k.toNat) its.toArray)=(List.replicate k.toNat its).flatten.toArray:=by
  have f0:∀ m:Nat,List.foldl (λx1 x2=>x1++x2) #[] (List.replicate m its.toArray)=(List.replicate m its).flatten.toArray:=λm=>by
   have:=qL its m []
   rw [List.nil_append] at this
   exact this
  rw [f0]
  cases its with
  |nil=>simp
  |cons a r'=>rw [if_neg (by simp)]
 refine wpAny_binaryOp_repeat_ref (T:="list") (U:="int") (by decide) ⟨_,e,rfl⟩ (λs'=>typeIs_int s' k t) noFill_list_mul F.fills_int_mul F.slot_int_rmul repeat_list F.slot_int_index.lookup
  (call_meets F.slot_int_rmul (typeIs_int s k t) F.entry_int_rmul (F.args_int_rmul_2 _ _) (int___rmul___int_list k t l its.toArray n)
   ⟨e,rfl,⟨_,e,rfl⟩,call_meets F.slot_list_mul ⟨_,e,rfl⟩ F.entry_list_mul (F.args_list_mul_2 _ _) (AutoListH.list___mul___list_int_3 l its.toArray n k t hfit hcap hlong) ⟨e,?_⟩⟩)
 rw [hnew]
 exact ⟨.ref _,_,I.lnew (t':=s.toks) (r.rep k.toNat) (by rw [CA,Nat.mul_comm];exact hz),rfl,q _ I.fresh⟩
end
section
variable {prog:Program}{w:World}{A:Around}{E:Value->Shared->Prop}{s:Shared}
end
section
variable {X:Cx}
end
end L2
namespace Att
open PySem PySem.W PySem.Calls PyProof.Rows
theorem xH {P:Params}{h:Heap}:∀ (ns:List Int) (vs:List Value),WellAll P h vs (ns.map WData.int)->IntsAre vs ns:=by
 intro ns
 induction ns with
 |nil =>
  intro vs w
  rw [List.map_nil] at w
  cases w
  exact .nil
 |cons n ns ih =>
  intro vs w
  rw [List.map_cons] at w
  cases w with
  |cons a b =>
   cases a
   exact .cons _ _ (ih _ b)
theorem zK {l:OpenLaw}{n:Nat}(hn:l.most=some n){P:Params}{h:Heap}{args:List WData}{vals:List Value}
  (Nq:l.row.toRowW.claim.pre args=true) (hwl:WellAll P h vals args) :
  ∃ a vs ns,vals=[Value.ref a]/\args=[WData.list (ns.map WData.int)]/\h.get? a=some { cls:=.type "list",data:=.seq vs.toArray }/\IntsAre vs ns/\ns.length<=n:=by
 have hsh:WShape.hasAll [] args [.list .int]=true:=(pre_splitW Nq).1
 have hc:l.pre.holds [] { args:=args }=true:=(pre_splitW Nq).2
 obtain ⟨d,r,rfl,h1,h2⟩:=hasAllW_cons hsh
 obtain rfl:=hasAllW_nil h2
 obtain ⟨xs,rfl,h3⟩:=hasW_list h1
 obtain ⟨ns,rfl⟩:=items_int h3
 have Mr:ns.length<=n:=by
  unfold OpenLaw.pre at hc
  have h4:(WTm.not (.lt (.lit (.int (n:Int))) (.len (.arg 0)))).holds [] { args:=[.list (ns.map .int)] }=true:=by
   have h4:=(holds_andW hc).1
   rw [hn] at h4
   exact h4
  have h5:=condW_of h4 (w_not (w_lt w_lit (w_len_list (w_arg rfl))))
  rw [List.length_map] at h5
  refine Nat.le_of_not_lt λq=>?_
  have q':(n:Int)<((ns.length:Nat):Int):=by omega
  first
   |(rw [decide_eq_true q'] at h5;exact absurd h5 (by decide))
   |(simp at h5;omega)
 cases hwl with
 |cons w1 w2 =>
  cases w2
  cases w1 with
  |list ho Qm=>exact ⟨_,_,ns,rfl,rfl,ho,xH ns _ Qm,Mr⟩
theorem zL (l:OpenLaw) (args:List WData):l.row.toRowW.claim.post args (.bool true) args=true :=
 postW_of (r:=l.row.toRowW) (X:=(true==true))
  (show WShape.has [] (.bool true) .bool=true by first|rfl|decide|simp [WShape.has,WShape.arms,WShape.armsAll])
  (show (WTm.eq .res (.lit (.bool true))).value [] { args:=args,res:=some (.bool true),after:=args }=some (.bool (true==true)) from w_eq_bool (w_res rfl) w_lit) rfl
theorem attach_call {l:OpenLaw}{n:Nat}{q:Program}{loose:List Str}{XP:(Str->Option Value)->Heap->Prop}{YP:World->Heap->Prop}{d:DefRec}
  (hn:l.most=some n) (hdf:d.params.defaults=[])
  (call:∀ (w:World) (s₀ LU:Shared) (mg mb:Str->Option Value) (fa:Addr) (o:Obj) (pm cd doc:Value) (a:Addr) (vs:List Value) (ns:List Int),
   Ground q loose [] XP w s₀ mg mb LU.heap->YP w LU.heap ->
   LU.heap.get? fa=some o->o.data=.func (docDef d.name d.params d.body d.scope pm cd doc)->LU.heap.CodeRec cd d.name->mg d.name=some (.ref fa) ->
   LU.heap.get? a=some { cls:=.type "list",data:=.seq vs.toArray }->IntsAre vs ns->ns.length<=n->LU.gens=#[] ->
   codeAny (model l.prog w) callerA (.call (.ref fa) ⟨[.ref a],[]⟩) (λr s'=>r=.ok (.ret (.bool true))/\OldK LU.heap s'.heap/\s'.os=LU.os/\AllBare s'.gens) LU) :
  WalkO q loose XP YP l.row.toRowW d [] (λf vs=>PySem.call f vs):=by
 intro w s₀ LU mg mb G Y fa o pm cd doc dV kV ho hd P2 hD hmg hg args vals as Nq hlay hrd hwl Sh
 obtain rfl:dV=.none:=Dflts.none hD hdf
 obtain rfl:kV=.none:=Dflts.noKw hD
 obtain ⟨a,vs,ns,rfl,rfl,Sw,hints,Mr⟩:=zK hn Nq hwl
 refine enter_call (codeAny_mono (call w s₀ LU mg mb fa o pm cd doc a vs ns G Y ho (fd_plain hd) P2 hmg Sw hints Mr hg) λr s' hq=>?_)
 obtain ⟨rfl,h2,h3,h4⟩:=hq
 exact ⟨.inl ⟨.bool true,.bool true,[],rfl,λ_=>rfl,.bool true,zL l _,λ_=>⟨List.Pairwise.nil,λ_ hm=>(nomatch hm)⟩⟩,h2,h3,h4⟩
section
variable {prog:Program}{w:World}{A:Around}{E:Value->Shared->Prop}{s:Shared}{K:Frag}
end
end Att
namespace L2
open PySem PySem.Spec PyProof.Rows
theorem qN:∀ {vs:List Value}{ns:List Int},IntsAre vs ns->am (ns.map V.int) vs
 |_,_,.nil=>.nil
 |_,_,.cons n t h=>.cons ⟨t,rfl⟩ (qN h)
def kJ (H:Hp):Prop:=∀ b,H b=none\/∃ o xs,H b=some (.frz o (.lst xs))
theorem AK {P:Program}{w:World}{K:PySem.W.Frag}{mg mb:Str->Option Value}{CX:CXT}{k:Nat}{fa a:Addr}{fd:FuncData}{x:Str}{sp:Sp}{LU:Shared}{vs:List Value}{ns:List Int}
  (KX:K.In LU.heap) (RN:LU.heap.Ns mainGlobals mg) (hb:LU.heap.Ns builtinsNs mb) (hbb:∀ x:Str,x ≠ "__name__"->mb x=bootBuiltins x) (hlim:LU.heap.NoLimit) (hg:LU.gens=#[])
  (ha:LU.heap.get? a=some { cls:=.type "list",data:=.seq vs.toArray }) (hi:IntsAre vs ns) (hl:ns.length<=sizeLine) (hr:Room k callerA)
  (F:∀ base:Heap,K.In base->base.Ns mainGlobals mg->FnOk P w K mg base CX k fa fd [x] sp) (hbind:∀ (s:Shared) (u:Value),BindsTo s fd ⟨[u],[]⟩ [(x,u)])
  (RI:∀ H:Hp,kJ H->SqL K H a (ns.map V.int)->sp [.ref a] H (λv _=>v=.bl true) λ_ _ _=>False)
  (hCX:∀ H e s',CX [] H LU (λ_ _ _=>False) e s'->False) :
  codeAny (model P w) callerA (.call (.ref fa) ⟨[.ref a],[]⟩) (λr s'=>r=.ok (.ret (.bool true))/\OldK LU.heap s'.heap/\s'.os=LU.os/\AllBare s'.gens) LU:=by
 have rv:=qN hi
 have lenV:=hi.length
 -- from an abstract heap in which nothing but the script may be tracked
 have core:∀ H:Hp,kJ H->SqL K H a (ns.map V.int)->HOk P w H LU.heap->(∀ b,H b≠none->b=a)->(H a≠none->K.lookup a=none) ->
   codeAny (model P w) callerA (.call (.ref fa) ⟨[.ref a],[]⟩) (λr s'=>r=.ok (.ret (.bool true))/\OldK LU.heap s'.heap/\s'.os=LU.os/\AllBare s'.gens) LU:=by
  intro H hO hS hok hA hK
  have base_of:∀ {b:Addr}{o:Obj},LU.heap.get? b=some o->H b=none->(dN LU.heap H).get? b=some o:=λe n=>Ax e n
  have noA:∀ {b:Addr}{o:Obj}{es:Array DictEntry}{ep:Nat},LU.heap.get? b=some o->o.data=.dict es ep->H b=none:=fun {b o es ep} e d=>by
   cases q:H b with
   |none=>rfl
   |some u =>
    have e':b=a:=hA b (by rw [q];simp)
    subst e'
    rw [ha] at e;cases e
    have d':Data.seq vs.toArray _=Data.dict es ep:=d
    cases d'
  have nsK:∀ {b:Addr}{m:Str->Option Value},LU.heap.Ns b m->(dN LU.heap H).Ns b m:=fun {b m} ⟨o,es,ep,e,d,r⟩=>⟨o,es,ep,base_of e (noA e d),d,r⟩
  have hKb:K.In (dN LU.heap H):=λb o e=>base_of (KX b o e) (by
   cases q:H b with
   |none=>rfl
   |some u =>
    have e':b=a:=hA b (by rw [q];simp)
    subst e'
    rw [hK (by rw [q];simp)] at e;cases e)
  have hM:Mod K mg (dN LU.heap H):=⟨hKb,nsK RN,⟨mb,nsK hb,hbb⟩,let ⟨mc,h1,h2⟩:=hlim;⟨mc,nsK h1,h2⟩⟩
  have e0:Env0 P w K mg (dN LU.heap H) callerA [] LU H:=⟨rfl,hM,λb o e=>B6 e,Nat.le_of_eq (zv _ _),trivial,λb hb=>absurd (show b∈([]:List Addr) from hb) (by simp),hok,.of_eq hg⟩
  refine codeAny_mono ((F _ hKb (nsK RN)).run callerA [] LU H ⟨[.ref a],[]⟩ [.ref a] [.ref a] _ _ hr e0 (hbind LU (.ref a)) (.cons rfl .nil) (RI H hO hS)) λr s' h=>?_
  cases r with
  |error e=>exact (hCX H e s' h).elim
  |ok fl =>
   cases fl with
   |next=>exact False.elim h
   |brk=>exact False.elim h
   |cont=>exact False.elim h
   |ret u =>
    obtain ⟨v,H',os,bare,un,hok',r',q⟩:=h
    have q':v=.bl true:=q
    subst q'
    obtain rfl:u=Value.bool true:=r'
    refine ⟨rfl,OldK.of_keep λb o e=>?_,os,bare⟩
    cases q:H b with
    |none=>exact un.keep b o e q (by intro z;exact absurd (show b∈([]:List Addr) from z) (by simp)) (by simp)
    |some u =>
     rcases hO b with z|⟨ob,xs,z⟩
     ·rw [q] at z;cases z
     ·have z2:=un.frzs b ob _ z
      obtain ⟨e1,_⟩:=hok b _ z
      obtain ⟨e2,_⟩:=hok' b _ z2
      rw [e] at e1;cases e1
      exact e2
 cases hk:K.lookup a with
 |some o =>
  -- the script is one of the module's own objects
  have e:=KX a o hk
  rw [ha] at e
  cases e
  refine core (λ_=>none) (λ_=>.inl rfl) (.inr ⟨_,vs.toArray,_,hk,rfl,rfl,rfl,by rw [List.size_toArray,lenV];exact hl,by simpa using rv⟩) (λb u z=>by have z':(none:Option HO)=some u:=z;cases z') (λb z=>absurd rfl z) λz=>absurd rfl z
 |none =>
  refine core (λb=>if b=a then some (.frz { cls:=.type "list",data:=.seq vs.toArray } (.lst (ns.map V.int))) else none) (λb=>?_) (.inl (.inr ⟨{ cls:=.type "list",data:=.seq vs.toArray },if_pos rfl⟩)) (λb u z=>?_) (λb z=>?_) λ_=>hk
  ·by_cases hb:b=a
   ·exact .inr ⟨_,_,if_pos hb⟩
   ·exact .inl (if_neg hb)
  ·by_cases hb:b=a
   ·have z':=(if_pos hb).symm.trans z
    cases z'
    subst hb
    exact ⟨ha,by rw [List.length_map];exact hl,vs,_,rv,ha⟩
   ·have z':=(if_neg hb).symm.trans z
    cases z'
  ·by_cases hb:b=a
   ·exact hb
   ·exact absurd (if_neg hb) z
theorem CB {l:PySem.W.OpenLaw}{n k:Nat}{q:Program}{loose:List Str}{XP:(Str->Option Value)->Heap->Prop}{YP:World->Heap->Prop}{d:DefRec}{K:Params->PySem.W.Frag}{CX:World->CXT}{sp:World->Sp}{x:Str}
  (hn:l.most=some n) (Su:n<=sizeLine) (hdf:d.params.defaults=[]) (hr:Room k callerA)
  (hY:∀ (w:World) (h:Heap),YP w h->(K w.params).In h)
  (F:∀ (w:World) (mg:Str->Option Value) (fa:Addr) (h:Heap),(K w.params).In h->h.Ns mainGlobals mg->mg d.name=some (.ref fa) ->
   ∃ fd:FuncData,(∀ (s:Shared) (u:Value),BindsTo s fd ⟨[u],[]⟩ [(x,u)]) /\
    ∀ base:Heap,(K w.params).In base->base.Ns mainGlobals mg->FnOk l.prog w (K w.params) mg base (CX w) k fa fd [x] (sp w))
  (RI:∀ (w:World) (H:Hp) (a:Addr) (ns:List Int),ns.length<=n->kJ H->SqL (K w.params) H a (ns.map V.int)->sp w [.ref a] H (λv _=>v=.bl true) λ_ _ _=>False)
  (hCX:∀ (w:World) (H:Hp) (s:Shared) (e:Value) (s':Shared),CX w [] H s (λ_ _ _=>False) e s'->False) :
  PySem.W.WalkO q loose XP YP l.row.toRowW d [] (λf vs=>PySem.call f vs):=by
 refine Att.attach_call hn hdf λw s₀ LU mg mb fa o pm cd doc a vs ns G Y ho hd P2 hmg Sw hints Mr hg=>?_
 have KX:=hY w _ Y
 obtain ⟨fd,hb,hF⟩:=F w mg fa _ KX G.T.g hmg
 exact AK KX G.T.g G.T.b G.T.builtins G.T.nolimit hg Sw hints (Nat.le_trans Mr Su) hr hF hb (λH hO hS=>RI w H a ns Mr hO hS) λH e s'=>hCX w H LU e s'
abbrev CX0:CXT:=λ_ _ _ _ _ _=>False
abbrev E0:XK:=λ_ _ _=>False
theorem fY {X:Cx}:dY CX0 X E0:=λ_ _ _ _ _ _ _ h=>h.elim
structure Fun (K:PySem.W.Frag) (x qual:Str) (st:Stmt) (f:Addr) (fd:FuncData):Prop where
 ex:∃ (oc:Value) (od:Option Addr) (kV doc pm:Value) (an:Option Addr) (cdv ct:Value) (osl:Array (Option Value)),
  fd=PySem.W.fnOf x qual (cA st) (bR st) (av st) .none kV doc pm an cdv ct/\K.lookup f=some ⟨oc,od,.func fd,osl⟩/\PySem.W.codeIn K cdv qual=true
 kp:PySem.W.keepIn K (.ref f)=true
section
variable {P:Program}{w:World}{K:PySem.W.Frag}{mg:Str->Option Value}{base:Heap}
theorem Fun.ok {x qual:Str}{st:Stmt}{f:Addr}{fd:FuncData}{N ps:List Str}{k:Nat}{sp:Sp}(F:Fun K x qual st f fd) (S:FnScope N ps (av st)) (len:∀ vs H Q E,sp vs H Q E->vs.length=ps.length)
  (Nr:∀ (cdv:Value) (A:Around) (outer:List Env) (s:Shared) (H:Hp) (vs:List V) (Q:VK) (E:XK),Room k (A.deeper (envOfC qual (av st) s.heap.objs.size f cdv))->sp vs H Q E ->
   ∃ t,PSs (c3 CX0 P w K mg base N qual (av st) f cdv A outer s H E).nox (bR st) t/\t { nx:=λ_ H'=>Q .non H',rt:=Q } (ca N vs) H):FnOk P w K mg base CX0 (k+1) f fd ps sp:=by
 obtain ⟨oc,od,kV,doc,pm,an,cdv,ct,osl,rfl,lk,P2⟩:=F.ex
 refine o6 lk P2 S len λA outer s H vs Q E hr RI=>?_
 obtain ⟨t,h,q⟩:=Nr cdv A outer s H vs Q E hr RI
 exact ⟨t,h.nox,q⟩
theorem Fun.binds {x qual:Str}{st:Stmt}{f:Addr}{fd:FuncData}{ps:List Str}(F:Fun K x qual st f fd)
  (h:∀ (kV doc pm:Value) (an:Option Addr) (cdv ct:Value) (us:List Value),us.length=ps.length->bindArgs (PySem.W.fnOf x qual (cA st) (bR st) (av st) .none kV doc pm an cdv ct) ⟨us,[]⟩=pure (ps.zip us)):aw K fd ps []:=by
 obtain ⟨oc,od,kV,doc,pm,an,cdv,ct,osl,rfl,lk,P2⟩:=F.ex
 exact .all (h kV doc pm an cdv ct)
theorem ui {x qual:Str}{st:Stmt}{f:Addr}{oc:Value}{od an:Option Addr}{osl:Array (Option Value)}{kV doc pm cdv ct:Value}(l:K.lookup f=some ⟨oc,od,.func (PySem.W.fnOf x qual (cA st) (bR st) (av st) .none kV doc pm an cdv ct),osl⟩)
  (c:PySem.W.codeIn K cdv qual=true) (k:PySem.W.keepIn K (.ref f)=true):Fun K x qual st f (PySem.W.fnOf x qual (cA st) (bR st) (av st) .none kV doc pm an cdv ct):=⟨⟨oc,od,kV,doc,pm,an,cdv,ct,osl,rfl,l,c⟩,k⟩
end
theorem bq {A:Around}{k:Nat}(hr:Room k A):A.units+1<cLine:=Nat.lt_of_le_of_lt (Nat.add_le_add_left (by decide:1<=64) _) hr.units
section
variable {X:Cx}
end
def LL (H H':Hp):Prop:=∀ b o,H b=some o->H' b=some o
def Fs:Expr->Bool
 |.Starred ..=>true
 |_=>false
theorem CC {e:Expr}{es:List Expr}{env:Env}(h:Fs e=false):starEach (e::es) env=(false,eval e env)::starEach es env:=by
 cases e<;>first|rfl|cases h
section
variable {X:Cx}
theorem AL:OpR X (binaryOp .FloorDiv) (rI (λ_ j=>0<j/\j<18446744073709551616) λi j=>.int (i / j)):=opI λi j _ _ _ _ _ hc q=>by
 have h1:(0:Int)<j:=hc.1
 have h2:j<18446744073709551616:=hc.2
 refine floordiv_int (by omega) (by rw [Int.fdiv_eq_ediv_of_nonneg i (by omega)];exact q) (.inl (PyProof.noPylong_of_log2 ?_))
 have h0:j.natAbs≠0:=by omega
 have h3:j.natAbs<2 ^ 64:=by
  have e:(2:Nat) ^ 64=18446744073709551616:=by decide
  omega
 have h4:j.natAbs.log2<64:=(Nat.log2_lt h0).mpr h3
 omega
def CD (K:PySem.W.Frag):List V->Hp->VK->Prop:=λxs H Q=>∃ x c t b,xs=[x,c]/\(∃ u,aq c u/\(∀ z,aq c z->z=u)/\PySem.W.kitOne K t u=some b)/\TyOf K H x t/\Q (.bl b) H
theorem yF:bf X (.builtin "isinstance") (CD X.K):=by
 intro pins s U H xs us Q I r h
 obtain ⟨x,c,t,b,rfl,⟨u,rc,hu,e⟩,ty,q⟩:=h
 obtain ⟨u1,u2,rfl,r1,r2⟩:=ia r
 obtain rfl:=hu _ r2
 exact zH I r1 ty e λtk=>⟨.bl b,H,I.tok tk,rfl,q⟩
end
def Kp (p:Addr) (H H':Hp):Prop:=∀ b o,H b=some o->b≠p->H' b=some o
def o7 (H:Hp) (p:Addr):Prop:=∃ a b c d:Int,H p=some (.lst [.int a,.int b,.int c,.int d])
structure Df (K:PySem.W.Frag) (mg:Str->Option Value) (x:Str) (f:Addr) (fd:FuncData) (ps:List Str):Prop where
 hm:mg x=some (.ref f)
 kp:PySem.W.keepIn K (.ref f)=true
 b:aw K fd ps []
def Oth (p:Addr) (H H':Hp):Prop:=∀ b,b≠p->H' b=H b
def cS:Sp:=λvs H Q _=>∃ (p:Addr) (m:Int),vs=[.ref p,.int m]/\0<m/\m<18446744073709551616/\o7 H p /\
 ∀ (r:Int) (H':Hp),0<=r->r<m->o7 H' p->Oth p H H'->Q (.int r) H'
def ie:Sp:=λvs H Q _=>∃ c:Int,vs=[.int c]/\∀ p H',H p=none->o7 H' p->Oth p H H'->Q (.ref p) H'
def jQ (K:PySem.W.Frag):Sp:=λvs H Q _=>∃ (a:Addr) (k:Int) (ns:List Int),vs=[.ref a,.int k]/\SqL K H a (ns.map V.int)/\0<=k/\∀ z:Int,Q (.int z) H
def fI:Sp:=λvs H Q _=>∃ (t:Addr) (c e f:Int),vs=[.ref t,.int f]/\H t=some (.tup [.int c,.int e])/\e<=f/\Q (.int (c / 2 ^ (f - e).toNat)) H
def gW:Sp:=λvs H Q _=>∃ (t:Addr) (c e f n:Int),vs=[.ref t,.int f,.int n]/\H t=some (.tup [.int c,.int e])/\e<=f /\
 ∀ p,H p=none->Q (.ref p) (upd H p (.tup [.int (c / 2 ^ (f - e).toNat+n),.int f]))
section
variable {prog:Program}{w:World}{A:Around}{R:Result->Shared->Prop}{s:Shared}
theorem yG {Os LR iter:Expr}{N3:List Expr}{scope:Scope}{pos:Pos}{it LQ:Value}{env:Env}(I:Nat->Shared->Prop)
  (turn:∀ n s,I n s->wpAny (model prog w) A (pyNext it) (λr LU=>match r with
   |none=>R (.ok .next) LU
   |some v=>wpAny (model prog w) A (letOwnedTupleGo LR it v) (λ_ Si=>wpAny (model prog w) A (assign LR env v) (λ_ Pq =>
     wpAny (model prog w) A (forIn N3 true λc r=>if r=true then do let ok <- isTrue c env (eval c env);pure (ForInStep.yield ok) else pure (ForInStep.yield r)) (λok P4 =>
      if ok=true then wpAny (model prog w) A (eval Os env) (λx RO =>
       wpAny (model prog w) A (call (.builtin "list.append") [LQ,x]) (λ_ s₅=>∃ m,m<n/\I m s₅) (λ_ _=>False) RO) (λ_ _=>False) P4
      else ∃ m,m<n/\I m P4) (λ_ _=>False) Pq) (λ_ _=>False) Si) (λ_ _=>False) LU) (λ_ _=>False) s)
  (n:Nat) (h:I n s) :
  codeAny (model prog w) A (.compLoop (.ListComp Os [⟨LR,iter,N3,0⟩] scope pos) 0 it LQ env) R s:=by
 refine codeAny_loop rfl I (λn s hI=>?_) n h
 show wpAny _ A ((compTurn (.ListComp Os [⟨LR,iter,N3,0⟩] scope pos) 0 it LQ env).onRaise (λx=>do noteFrame x env;theTreesLotGoes x)) _ _ s
 refine wpAny_noted ?_
 rw [compTurn_list]
 refine wpAny_bind (wpAny_standAt (wpAny_bind (wpAny_mono (turn n s hI) (λr LU h₁=>?_) λ_ _ h'=>h'.elim)))
 cases r with
 |none=>exact wpAny_pure h₁
 |some v =>
  refine wpAny_bind (wpAny_mono h₁ (λ_ Si h₁'=>?_) λ_ _ h'=>h'.elim)
  refine wpAny_bind (wpAny_mono h₁' (λ_ Pq Ra=>wpAny_bind (wpAny_mono Ra (λok P4 RP=>?_) λ_ _ h'=>h'.elim)) λ_ _ h'=>h'.elim)
  cases ok with
  |false=>exact wpAny_pure ⟨rfl,RP⟩
  |true =>
   exact wpAny_bind (wpAny_bind (wpAny_mono RP (λx RO h₄=>wpAny_bind (wpAny_mono h₄ (λ_ s₅ h₅=>wpAny_pure (wpAny_pure ⟨rfl,h₅⟩)) λ_ _ h'=>h'.elim)) λ_ _ h'=>h'.elim))
end
noncomputable def d9 (cells:List (Str×Addr)):List (Str×NameKind)->List (Str×Addr)->List (Str×Addr)
 |[],cs=>cs
 |(n,k)::r,cs=>d9 cells r (if k==.free then (match cells.lookup n with|some a=>(n,a)::cs|none=>cs) else cs)
def c5 (scope:Scope) (env:Env):List (Str×Addr):=d9 env.cells scope.names []
theorem sD (env:Env):∀ (ns:List (Str×NameKind)) (cs:List (Str×Addr)),(∀ y∈ns,y.2=.free->∃ a,env.cells.lookup y.1=some a) ->
  (forIn ns cs λ(x:Str×NameKind) (r:List (Str×Addr))=>(if (x.2==NameKind.free)=true then (do let a <- cellOf env x.1;pure (ForInStep.yield ((x.1,a)::r))) else pure (ForInStep.yield r):Sem (ForInStep (List (Str×Addr)))))=(pure (d9 env.cells ns cs):Sem (List (Str×Addr)))
 |[],cs,_=>rfl
 |(n,k)::r,cs,h=>by
  rw [List.forIn_cons]
  have ih:=λcs'=>sD env r cs' λy hy=>h y (List.mem_cons_of_mem _ hy)
  by_cases hk:(k==NameKind.free)=true
  ·obtain ⟨a,ha⟩:=h (n,k) List.mem_cons_self (by simpa using hk)
   have ha':env.cells.lookup n=some a:=ha
   have e:cellOf env n=pure a:=by unfold cellOf;rw [ha']
   simp only [hk,if_true,e,pure_bind]
   rw [ih]
   show _=pure (d9 env.cells r (if k==.free then (match env.cells.lookup n with|some a=>(n,a)::cs|none=>cs) else cs))
   rw [hk,ha']
   rfl
  ·have hk':(k==NameKind.free)=false:=by simpa using hk
   simp only [hk',Bool.false_eq_true,if_false,pure_bind]
   rw [ih]
   show _=pure (d9 env.cells r (if k==.free then (match env.cells.lookup n with|some a=>(n,a)::cs|none=>cs) else cs))
   rw [hk']
   rfl
theorem CF {scope:Scope}{env:Env}(h:∀ y∈scope.names,y.2=.free->∃ a,env.cells.lookup y.1=some a):closureFor scope env=pure (c5 scope env):=by
 have e:=sD env scope.names [] h
 unfold closureFor c5
 show (forIn scope.names ([]:List (Str×Addr)) _ >>= λcs=>pure cs)=_
 rw [bind_pure]
 exact e
theorem rJ (cells:List (Str×Addr)){x:Str}{c:Addr}:∀ (ns:List (Str×NameKind)) (cs:List (Str×Addr)),(∀ c,cs.lookup x=some c->cells.lookup x=some c)->(d9 cells ns cs).lookup x=some c->cells.lookup x=some c
 |[],cs,h,e=>h c e
 |(n,k)::r,cs,h,e=>by
  refine rJ cells r _ (λc' e'=>?_) e
  by_cases hk:(k==NameKind.free)=true
  ·rw [if_pos hk] at e'
   cases ha:cells.lookup n with
   |none=>rw [ha] at e';exact h c' e'
   |some a =>
    rw [ha] at e'
    by_cases hx:x==n
    ·have hx':x=n:=by simpa using hx
     subst hx'
     simp only [List.lookup_cons,beq_self_eq_true] at e'
     rw [<- e'];exact ha
    ·have hx':(x==n)=false:=by simpa using hx
     simp only [List.lookup_cons,hx'] at e'
     exact h c' e'
  ·rw [if_neg hk] at e'
   exact h c' e'
theorem gG (cells:List (Str×Addr)){x:Str}{a:Addr}(ha:cells.lookup x=some a):∀ (ns:List (Str×NameKind)) (cs:List (Str×Addr)),(cs.lookup x=some a\/ns.lookup x=some .free)->(∀ c,cs.lookup x=some c->c=a)->(d9 cells ns cs).lookup x=some a
 |[],cs,h,_=>by
  rcases h with h|h
  ·exact h
  ·simp at h
 |(n,k)::r,cs,h,hu=>by
  have step:(if k==.free then (match cells.lookup n with|some a=>(n,a)::cs|none=>cs) else cs)=cs\/∃ b,k=.free/\cells.lookup n=some b/\(if k==.free then (match cells.lookup n with|some a=>(n,a)::cs|none=>cs) else cs)=(n,b)::cs:=by
   by_cases hk:(k==NameKind.free)=true
   ·rw [if_pos hk]
    cases hb:cells.lookup n with
    |none=>exact .inl rfl
    |some b=>exact .inr ⟨b,by simpa using hk,rfl,rfl⟩
   ·exact .inl (by rw [if_neg hk])
  show (d9 cells r _).lookup x=some a
  by_cases hx:x=n
  ·subst hx
   rcases step with e|⟨b,hk,hb,e⟩
   ·rw [e]
    refine gG cells ha r cs ?_ hu
    rcases h with h|h
    ·exact .inl h
    ·simp only [List.lookup_cons,beq_self_eq_true] at h
     injection h with h
     subst h
     rw [if_pos (by decide),ha] at e
     have:(x,a)::cs=cs:=e
     exact absurd (congrArg List.length this) (by simp)
   ·rw [e]
    rw [ha] at hb
    injection hb with hb
    subst hb
    refine gG cells ha r _ (.inl (by simp)) λc hc=>?_
    simp at hc
    exact hc.symm
  ·have hxb:(x==n)=false:=by simpa using hx
   rcases step with e|⟨b,hk,hb,e⟩
   ·rw [e]
    refine gG cells ha r cs ?_ hu
    rcases h with h|h
    ·exact .inl h
    ·simp only [List.lookup_cons,hxb] at h
     exact .inr h
   ·rw [e]
    refine gG cells ha r _ ?_ λc hc=>?_
    ·rcases h with h|h
     ·exact .inl (by simp only [List.lookup_cons,hxb];exact h)
     ·simp only [List.lookup_cons,hxb] at h
      exact .inr h
    ·simp only [List.lookup_cons,hxb] at hc
     exact hu c hc
noncomputable def fN (sc scope:Scope):Bool:=(scope.kind==.function)&&scope.names.all λy=>(y.2 != .cell)&&((y.2 != .local) || (scope.names.lookup y.1==some .local)) &&
 ((y.2 != .free) || ((scope.names.lookup y.1==some .free)&&((sc.names.lookup y.1==some .cell) || (sc.names.lookup y.1==some .free))))
noncomputable def eX (N Nc:List Str) (scope:Scope) (n:Nat) (LS:List Nat):Bool:=(n+LS.length==Nc.length)&&(List.range LS.length).all λj=>(Nc[n+j]?==(LS[j]?).bind λi=>N[i]?)&&((Nc[n+j]?).bind (λy=>scope.names.lookup y)==some NameKind.free)
noncomputable def fO (n:Nat) (LS:List Nat) (U:St):St:=List.replicate n none++LS.map λi=>(U[i]?).join
def Cx.comp (X:Cx) (scope:Scope) (Nc:List Str) (C:Addr) (s₀:Shared) (H₀:Hp) (ex:List Addr):Cx :=
 { X with N:=Nc,s₀:=s₀,H₀:=H₀,env:=compEnvC scope (c5 scope X.env) C X.env,outer:=X.stack,ex:=ex,fn:=λ_=>false,pn:=[],xe:=λ_ _=>False }
theorem qe {env:Env}:∀ {names:List (Str×NameKind)}{x:Str},names.lookup x=some .free ->
  (names.map λ(n,k)=>if (k==NameKind.free&&env.scope.kind==.function&&env.kindOf n==some .cell) then (n,NameKind.cell) else (n,k)).lookup x=some .cell \/
  (names.map λ(n,k)=>if (k==NameKind.free&&env.scope.kind==.function&&env.kindOf n==some .cell) then (n,NameKind.cell) else (n,k)).lookup x=some .free
 |[],_,h=>by simp at h
 |(n,k)::r,x,h=>by
  have ih:=@qe env r x
  show List.lookup x ((if (k==NameKind.free&&env.scope.kind==.function&&env.kindOf n==some .cell)=true then (n,NameKind.cell) else (n,k))::_)=_\/List.lookup x ((if (k==NameKind.free&&env.scope.kind==.function&&env.kindOf n==some .cell)=true then (n,NameKind.cell) else (n,k))::_)=_
  cases hx:x==n with
  |true =>
   simp only [List.lookup_cons,hx] at h
   cases h
   by_cases hc:(NameKind.free==NameKind.free&&env.scope.kind==.function&&env.kindOf n==some .cell)=true
   ·rw [if_pos hc];simp [List.lookup_cons,hx]
   ·rw [if_neg hc];simp [List.lookup_cons,hx]
  |false =>
   simp only [List.lookup_cons,hx] at h
   by_cases hc:(k==NameKind.free&&env.scope.kind==.function&&env.kindOf n==some .cell)=true
   ·rw [if_pos hc];simp only [List.lookup_cons,hx];exact ih h
   ·rw [if_neg hc];simp only [List.lookup_cons,hx];exact ih h
theorem qf {env:Env}:∀ {names:List (Str×NameKind)}{x:Str},(∀ y∈names,y.2≠.cell) ->
  ((names.map λ(n,k)=>if (k==NameKind.free&&env.scope.kind==.function&&env.kindOf n==some .cell) then (n,NameKind.cell) else (n,k)).lookup x=some .cell \/
  (names.map λ(n,k)=>if (k==NameKind.free&&env.scope.kind==.function&&env.kindOf n==some .cell) then (n,NameKind.cell) else (n,k)).lookup x=some .free)->names.lookup x=some .free
 |[],_,_,h=>by simp at h
 |(n,k)::r,x,hc,h=>by
  have ih:=@qf env r x λy hy=>hc y (List.mem_cons_of_mem _ hy)
  have hk:k≠.cell:=hc (n,k) List.mem_cons_self
  have h':List.lookup x ((if (k==NameKind.free&&env.scope.kind==.function&&env.kindOf n==some .cell)=true then (n,NameKind.cell) else (n,k))::_)=some NameKind.cell\/List.lookup x ((if (k==NameKind.free&&env.scope.kind==.function&&env.kindOf n==some .cell)=true then (n,NameKind.cell) else (n,k))::_)=some NameKind.free:=h
  cases hx:x==n with
  |true =>
   simp only [List.lookup_cons,hx]
   by_cases hq:(k==NameKind.free&&env.scope.kind==.function&&env.kindOf n==some .cell)=true
   ·have:k=.free:=by
     simp only [Bool.and_eq_true] at hq
     simpa using hq.1.1
    rw [this]
   ·rw [if_neg hq] at h'
    simp only [List.lookup_cons,hx] at h'
    rcases h' with h'|h'
    ·injection h' with h';exact absurd h' hk
    ·exact h'
  |false =>
   simp only [List.lookup_cons,hx]
   by_cases hq:(k==NameKind.free&&env.scope.kind==.function&&env.kindOf n==some .cell)=true
   ·rw [if_pos hq] at h'
    simp only [List.lookup_cons,hx] at h'
    exact ih h'
   ·rw [if_neg hq] at h'
    simp only [List.lookup_cons,hx] at h'
    exact ih h'
structure CompSc (X:Cx) (scope:Scope):Prop where
 kind:scope.kind=.function
 nocell:∀ y∈scope.names,y.2≠.cell
 loc:∀ y∈scope.names,y.2=.local->scope.names.lookup y.1=some .local
 fr:∀ x,scope.names.lookup x=some .free->X.env.kindOf x=some .cell\/X.env.kindOf x=some .free
 fr2:∀ y∈scope.names,y.2=.free->X.env.kindOf y.1=some .cell\/X.env.kindOf y.1=some .free
theorem mem_of_lookup {α β:Type}[BEq α] [LawfulBEq α]:∀ {l:List (α×β)}{x:α}{b:β},l.lookup x=some b->(x,b)∈l
 |[],_,_,h=>by simp at h
 |(n,k)::r,x,b,h=>by
  cases hx:x==n with
  |true =>
   simp only [List.lookup_cons,hx] at h
   injection h with h
   have:x=n:=by simpa using hx
   subst this;subst h
   exact List.mem_cons_self
  |false =>
   simp only [List.lookup_cons,hx] at h
   exact List.mem_cons_of_mem _ (mem_of_lookup h)
theorem qO {X:Cx}{scope:Scope}(h:fN X.env.scope scope=true):CompSc X scope:=by
 unfold fN at h
 rw [Bool.and_eq_true] at h
 obtain ⟨h1,h2⟩:=h
 rw [List.all_eq_true] at h2
 have h3:∀ y∈scope.names,y.2=.free->X.env.kindOf y.1=some .cell\/X.env.kindOf y.1=some .free:=λy hy e=>by
  have q:=h2 y hy
  simp only [Bool.and_eq_true,e,bne_self_eq_false,Bool.false_or,Bool.or_eq_true,beq_iff_eq] at q
  exact q.2.2
 refine ⟨by simpa using h1,λy hy e=>?_,λy hy e=>?_,λx e=>h3 _ (mem_of_lookup e) rfl,h3⟩
 ·have q:=h2 y hy
  simp [e] at q
 ·have q:=h2 y hy
  simp only [Bool.and_eq_true,e,bne_self_eq_false,Bool.false_or,beq_iff_eq] at q
  exact q.1.2
section
variable {X:Cx}{pins:List (Addr×Obj)}{U:St}{H:Hp}{s:Shared}{scope:Scope}{Nc:List Str}{fp:List Addr}{C:Addr}
theorem fP {env:Env}{x:Str}{c:Addr}(h:(c5 scope env).lookup x=some c):env.cells.lookup x=some c :=
 rJ env.cells scope.names [] (λc e=>by simp at e) h
theorem sE {env:Env}{x:Str}{c:Addr}(h:env.cells.lookup x=some c) (hf:scope.names.lookup x=some .free):(c5 scope env).lookup x=some c :=
 gG env.cells h scope.names [] (.inr hf) (λc e=>by simp at e)
theorem CompSc.clos (S:CompSc X scope) (ok:X.Ok):closureFor scope X.env=pure (c5 scope X.env) :=
 CF λy hy e=>ok.has y.1 (S.fr2 y hy e)
theorem CG (I:Inv X pins U H s) (S:CompSc X scope) (hf:∀ b∈fp,cH X pins H b) (hC:s.heap.objs.size<=C) (hCf:C∉fp):(X.comp scope Nc C s H fp).Ok where
 mod:=I.ok.mod
 kind:=S.kind
 glob:=I.ok.glob
 blt:=I.ok.blt
 above:=hC
 inj:=λx y c h1 h2=>I.ok.inj x y c (fP h1) (fP h2)
 has:=λx h=>by
  have e:scope.names.lookup x=some .free:=qf S.nocell h
  obtain ⟨c,hc⟩:=I.ok.has x (S.fr x e)
  exact ⟨c,sE hc e⟩
 cab:=λx c h=>by cases h
 hd:=I.ok.hd
 frames:=I.ok.frames
 stk:=.inl rfl
 exf:=λb hb=>⟨λe=>hCf ((show b=C from e) ▸ (show b∈fp from hb)),λx c h=>(hf b hb).2.2.2.2.1 x c (fP h)⟩
 bs:=I.bs
 bsz:=Nat.le_trans I.ok.bsz I.sz
 noex:=λb o e hb=>by
  rcases (hf b hb).2.2.2.1 with z|z
  ·exact I.ok.noex b o e z
  ·exact absurd (Nat.lt_of_lt_of_le (Heap.lt_size e) (Nat.le_trans I.ok.bsz z)) (Nat.lt_irrefl _)
 exfs:=λb hb hs=>by
  rcases List.mem_cons.mp (I.stkSub b hs) with z|z
  ·exact (hf b hb).2.1 z
  ·exact (hf b hb).2.2.1 z
 funs:=I.stack
 frf:=I.stkFree
theorem y7 {n:Nat}{LS:List Nat}{h₁:Heap}{tk:Nat}(I:Inv X pins U H s) (S:CompSc X scope) (QQ:eX X.N Nc scope n LS=true) (hf:∀ b∈fp,cH X pins H b) (RQ:∀ b∈fp,b<s.heap.objs.size)
  (RN:h₁.Ns (s.heap.objs.size+1) λ_=>none) (old:∀ b o,s.heap.get? b=some o->h₁.get? b=some o) (hD:h₁.get? s.heap.objs.size=some { cls:=.type "list",data:=.seq #[] 0 }) :
  Inv (X.comp scope Nc (s.heap.objs.size+1) s H fp) [] (fO n LS U) (upd H s.heap.objs.size (.lst [])) { s with heap:=h₁,toks:=tk }:=by
 have hCf:s.heap.objs.size+1∉fp:=λz=>Nat.not_succ_lt_self (RQ _ z)
 unfold eX at QQ
 rw [Bool.and_eq_true,List.all_eq_true] at QQ
 obtain ⟨hl,hc⟩:=QQ
 have hl':n+LS.length=Nc.length:=by simpa using hl
 refine ⟨CG I S hf (Nat.le_succ _) hCf,rfl,I.bare,Un.laid old (Nat.le_refl _) I.fresh,⟨_,RN,?_⟩,?_,?_,?_,?_,I.hok.laid old (Nat.le_refl _) ⟨Nat.zero_le _,[],0,.nil,hD⟩,?_⟩
 ·intro i x v hN hv _
  have hi:n<=i:=by
   rcases Nat.lt_or_ge i n with z|z
   ·exfalso
    have QN:(List.replicate n (none:Option V)++LS.map λi=>(U[i]?).join)[i]?=some (some v):=hv
    rw [List.getElem?_append_left (by simpa using z)] at QN
    simp [z] at QN
   ·exact z
  obtain ⟨j,rfl⟩:∃ j,i=n+j:=⟨i - n,by omega⟩
  have QN:(List.replicate n (none:Option V)++LS.map λi=>(U[i]?).join)[n+j]?=some (some v):=hv
  rw [List.getElem?_append_right (by simp)] at QN
  have e1:n+j - (List.replicate n (none:Option V)).length=j:=by simp
  rw [e1,List.getElem?_map] at QN
  cases ec:LS[j]? with
  |none=>rw [ec] at QN;cases QN
  |some i0 =>
   rw [ec] at QN
   have hv2:(U[i0]?).join=some v:=by simpa using QN
   have hv3:U[i0]?=some (some v):=by
    cases es:U[i0]? with
    |none=>rw [es] at hv2;cases hv2
    |some o=>rw [es] at hv2;simp at hv2;rw [hv2]
   have hj:j<LS.length:=(List.getElem?_eq_some_iff.mp ec).1
   have q:=hc j (List.mem_range.mpr hj)
   have hN':Nc[n+j]?=some x:=hN
   rw [Bool.and_eq_true,hN',ec] at q
   obtain ⟨q1,q2⟩:=q
   have q1':X.N[i0]?=some x:=by simpa using (beq_iff_eq.mp q1).symm
   have q2':scope.names.lookup x=some .free:=by simpa using q2
   obtain ⟨m,_,hm⟩:=I.loc
   have hk:=S.fr x q2'
   obtain ⟨u,ru,lk⟩:=hm i0 x v q1' hv3 (.inr hk)
   refine ⟨u,ru,?_⟩
   rcases lk with ⟨kl,_⟩|⟨_,c,hcl,ic⟩
   ·rcases hk with z|z
    ·rw [kl] at z;cases z
    ·rw [kl] at z;cases z
   ·exact .inr ⟨qe q2',c,sE hcl q2',ic.keeps old⟩
 ·intro x c h
  obtain ⟨v,ic⟩:=I.cell x c (fP h)
  exact ⟨v,ic.keeps old⟩
 ·show upd H s.heap.objs.size (.lst []) (s.heap.objs.size+1)=none
  rw [aG (Nat.succ_ne_self _)]
  exact I.hok.fresh (Nat.le_succ _)
 ·intro x c h
  obtain ⟨v,ic⟩:=I.cell x c (fP h)
  rw [aG (Nat.ne_of_lt ic.lt)]
  exact I.freeC x c (fP h)
 ·intro p hp
  exact absurd (show p∈([]:List (Addr×Obj)) from hp) (by simp)
 ·show (List.replicate n (none:Option V)++LS.map λi=>(U[i]?).join).length=Nc.length
  rw [List.length_append,List.length_replicate,List.length_map]
  exact hl'
theorem zM {QF:List (Addr×Obj)}{LO:St}{H':Hp}{s':Shared}(I:Inv X pins U H s) (hf:∀ b∈fp,cH X pins H b) (J:Inv (X.comp scope Nc C s H fp) QF LO H' s'):Inv X pins U H' s' :=
 I.call' J.os J.base J.hok J.bare λb hb=>⟨(hf b hb).2.2.2.1,(hf b hb).2.1,(hf b hb).2.2.2.2.1,(hf b hb).2.2.2.2.2⟩
theorem Inv.but {h':Heap}(I:Inv X pins U H s) (hs:Heap.SameBut C s.heap h') (hn:H C=none) (h0:X.s₀.heap.objs.size<=C) (hl:C≠X.env.locals) (hc:∀ x c,X.env.cells.lookup x=some c->c≠C)
  (hp:∀ p∈X.pn++pins,p.1≠C):Inv X pins U H { s with heap:=h' }:=by
 refine I.call' (s':={ s with heap:=h' }) (ch:=[C]) rfl ⟨λb o e _ _ hb=>hs.extBut b o (by simpa using hb) e,λb o e _ _ hb=>⟨o.slots,hs.extBut b o (by simpa using hb) e⟩,λb o _ n _=>n,λb o e hb=>⟨o,hs.extBut b o (by simpa using hb) e⟩,
  λ_ _ z=>z,λ_ _ _ z=>z,λb ps z=>⟨#[],by simpa using z⟩⟩ (λa o e=>?_) I.bare ?_
 ·refine (I.hok a o e).stay (λb u hb q=>hs.extBut b u ?_ q) (λ_ z=>z) λ_ _ z=>z
  rcases hb with rfl|hb
  ·exact λz=>by rw [z,hn] at e;cases e
  ·exact λz=>by rw [z,hn] at hb;cases hb
 ·intro b hb
  obtain rfl:b=C:=by simpa using hb
  exact ⟨.inr h0,hl,hc,hp⟩
def PTs (X:Cx) (N3:List Expr) (t:TT):Prop :=
 ∀ (pins:List (Addr×Obj)) (s:Shared) (U:St) (H:Hp) (Q:Bool->Hp->Prop),Inv X pins U H s->t U H Q ->
  wpAny (model X.prog X.w) X.A (forIn N3 true λc r=>if r=true then do let ok <- isTrue c X.env (eval c X.env);pure (ForInStep.yield ok) else pure (ForInStep.yield r)) (TP X pins U Q) X.xe s
def Iq:TT:=λ_ H Q=>Q true H
theorem CH:PTs X [] Iq:=λ_ _ _ H _ I h=>wpAny_tests_nil ⟨H,I,h⟩
theorem CI {c:Expr}{t:TT}(h:PT X c t):PTs X [c] t:=λpins s U H Q I hw=>wpAny_tests_one (h pins s U H Q I hw)
variable {Os iter LR:Expr}{N3:List Expr}{pos:Pos}{n:Nat}{LS:List Nat}{wi:TI}{g:TG}{tt:TT}{te:TE}
end
section
variable {X:Cx}{K:PySem.W.Frag}
theorem jy {es:List Expr}{k:Nat}{pos:Pos}{t:TGs}{n:Nat}(hK:X.K=K) (hc:X.calm=true) (h:PGs X es t)
  (hn:(assignEach es X.env).length=n:=by rfl) (QM:(assignEach es X.env).findIdx? (·.1)=none:=by rfl):PG X (.Tuple es k pos) (pE K n t):=by subst hK;exact EZ hc h hn QM
end
section
variable {K:PySem.W.Frag}{a D:Addr}{xs:List V}{n:Nat}{LS:List Nat}{g:TG}{tt:TT}{te:TE}{U:St}{H1:Hp}{Q:Hp->Prop}
end
mutual
inductive DatV (K:PySem.W.Frag) (H:Hp):V->PyData->Prop
 |non:DatV K H .non .none
 |bl (b:Bool):DatV K H (.bl b) (.bool b)
 |int (i:Int):DatV K H (.int i) (.int i)
 |str (x:Str):DatV K H (.str x) (.str x)
 |lst {a:Addr}{xs:List V}{ds:List PyData}:SqL K H a xs->DatVs K H xs ds->DatV K H (.ref a) (.list ds)
 |tup {a:Addr}{xs:List V}{ds:List PyData}:SqT K H a xs->DatVs K H xs ds->DatV K H (.ref a) (.tuple ds)
inductive DatVs (K:PySem.W.Frag) (H:Hp):List V->List PyData->Prop
 |nil:DatVs K H [] []
 |cons {x:V}{xs:List V}{d:PyData}{ds:List PyData}:DatV K H x d->DatVs K H xs ds->DatVs K H (x::xs) (d::ds)
end
section
variable {X:Cx}{pins:List (Addr×Obj)}{U:St}{H:Hp}{s:Shared}
mutual
theorem fF (I:Inv X pins U H s):∀ {v:V}{d:PyData}{u:Value},DatV X.K H v d->aq v u->∃ as,Reads s.heap u d as
 |_,_,_,.non,r=>by cases (show _=Value.none from r);exact ⟨_,.none⟩
 |_,_,_,.bl b,r=>by cases (show _=Value.bool b from r);exact ⟨_,.bool b⟩
 |_,_,_,.int i,r=>by obtain ⟨t,rfl⟩:=r;exact ⟨_,.int i t⟩
 |_,_,_,.str x,r=>by obtain ⟨t,rfl⟩:=r;exact ⟨_,.str x t⟩
 |_,_,_,.lst (a:=a) hq hs,r=>by
  cases (show _=Value.ref a from r)
  obtain ⟨its,rv,pl,_⟩:=I.list hq
  obtain ⟨o,n,e,c,_,dd⟩:=pl
  obtain ⟨as,ra⟩:=l8 I hs rv
  exact ⟨_,.list e c dd (by simpa using ra)⟩
 |_,_,_,.tup (a:=a) hq hs,r=>by
  cases (show _=Value.ref a from r)
  obtain ⟨its,rv,pl,_⟩:=I.tuple hq
  obtain ⟨o,e,c,n,dd⟩:=pl
  obtain ⟨as,ra⟩:=l8 I hs rv
  exact ⟨_,.tuple e c dd (by simpa using ra)⟩
theorem l8 (I:Inv X pins U H s):∀ {xs:List V}{ds:List PyData}{us:List Value},DatVs X.K H xs ds->am xs us->∃ as,ReadsAll s.heap us ds as
 |_,_,_,.nil,.nil=>⟨_,.nil⟩
 |_,_,_,.cons h hs,.cons r rs=>by
  obtain ⟨as,ra⟩:=fF I h r
  obtain ⟨bs,rb⟩:=l8 I hs rs
  exact ⟨_,.cons ra rb⟩
end
def wM (K:PySem.W.Frag) (neg:Bool):R2:=λx y H Q=>∃ dx dy,DatV K H x dx/\DatV K H y dy/\dx.canLay0=true/\dy.canLay0=true/\min dx.depth dy.depth<=64/\Q (.bl (neg ^^ PyData.eqv dx dy)) H
theorem Ft (hu:X.A.units+64<cLine):OpR X (compareOp .Eq) (wM X.K false):=by
 intro pins s U H x y v u Q I rx ry h
 obtain ⟨dx,dy,h1,h2,c1,c2,hd,q⟩:=h
 obtain ⟨as,ra⟩:=fF I h1 rx
 obtain ⟨bs,rb⟩:=fF I h2 ry
 exact PySem.SeqAt.compareEq_reads ra rb c1 c2 (by omega) ⟨.bl (PyData.eqv dx dy),H,I,rfl,by simpa using q⟩
theorem Fu (hu:X.A.units+64<cLine):OpR X (compareOp .NotEq) (wM X.K true):=by
 intro pins s U H x y v u Q I rx ry h
 obtain ⟨dx,dy,h1,h2,c1,c2,hd,q⟩:=h
 obtain ⟨as,ra⟩:=fF I h1 rx
 obtain ⟨bs,rb⟩:=fF I h2 ry
 exact PySem.SeqAt.compareNe_reads ra rb c1 c2 (by omega) ⟨.bl (!PyData.eqv dx dy),H,I,rfl,by simpa using q⟩
end
section
variable {prog:Program}{w:World}{A:Around}{R:Result->Shared->Prop}{I:Addr}{fp wr:List Addr}{n:Nat}{P:Nat->Value->Prop}{St:Nat->Heap->Prop}
theorem yh {E:Value->Shared->Prop}{s:Shared}{id:String}{b:Builtin}{args:List Value}{kw:List (Str×Value)}{Q:Value->Shared->Prop}(hk:builtinKind id=none) (hp:plainId id=true)
  (hb:entryFor table id=some b) (ha:argsOk id ⟨args,kw⟩)
  (hc:wpAny (model prog w) A.in1 (b ⟨args,kw⟩) (λfin s'=>match fin with
   |.done f=>(match (Except.ok f:Result) with|.ok (.ret v)=>Q v s'|.ok _=>False|.error e=>E e s')
   |.again c'=>c'.quiet=true/\codeAny (model prog w) A c' (λr s'=>match r with|.ok (.ret v)=>Q v s'|.ok _=>False|.error e=>E e s') s') E s) :
  wpAny (model prog w) A (call (.builtin id) args kw) Q E s:=by
 refine wpAny_call (codeAny_call_builtin hp hb ?_)
 simp only [checkBuiltinCall,hk]
 cases hsig:Manifest.signature? id with
 |none=>exact wpAny_pure hc
 |some sig =>
  simp only [argsOk,hsig] at ha
  have h2:Bind.checkArgs id sig ⟨args,kw⟩=pure ():=ha
  show wpAny _ A.in1 (Bind.checkArgs id sig ⟨args,kw⟩) _ _ s
  rw [h2];exact wpAny_pure hc
end
theorem sF {α:Type}{l:List α}{i:Nat}{d:α}(h:i<l.length):l.getD i d=l[i]:=by simp [h]
theorem CJ {s:Shared}{b:Addr}{o:Obj}(e:s.heap.get? b=some o):b∉[s.heap.objs.size]:=λz=>by
 have h:=Heap.lt_size e
 rw [List.mem_singleton.mp z] at h
 exact Nat.lt_irrefl _ h
section
variable {X:Cx}
def uj (X:Cx) (f:Value) (ks:List Str) (r:List V->List V->Hp->VK->Prop):Prop :=
 ∀ (pins:List (Addr×Obj)) (s:Shared) (U:St) (H:Hp) (xs zs:List V) (us ws:List Value) (Q:VK),Inv X pins U H s->am xs us->am zs ws->r xs zs H Q ->
  wpAny (model X.prog X.w) X.A (call f us (ks.zip ws)) (EP X pins U Q) X.xe s
def wN (r:List V->List V->Hp->VK->Prop) (t tk:TA):TE:=λU H Q=>t U H λvs H1=>tk U H1 λzs H2=>r vs zs H2 Q
theorem zN {x:Str}{p pos:Pos}{e:Expr}{es:List Expr}{Q9:List Keyword}{t tk:TA}{id:String}{ks:List Str}{r:List V->List V->Hp->VK->Prop}(hc:uj X (.builtin id) ks r) (hg:Gl X x) (hm:X.mg x=none)
  (hv:bootBuiltins x=some (.builtin id)) (ha:PA X (e::es) t) (hkw:PK X Q9 tk) (hks:(backToKw pos (keywordEach Q9 X.env)).filterMap (·.1)=ks:=by rfl) (hn:x ≠ "__name__":=by decide) (MQ:(x==("__debug__":Str))=false:=by decide)
  (he:backTo pos (starEach (e::es) X.env)=(false,eval e X.env)::backTo pos (starEach es X.env):=by rfl)
  (NI:(backTo pos (starEach (e::es) X.env)).any (·.1)=false:=by rfl)
  (Qm:(backToKw pos (keywordEach Q9 X.env)).all (·.1.isSome)=true:=by rfl)
  (Sy:(backToKw pos (keywordEach Q9 X.env)).any (·.1.isNone)=false:=by rfl):PE X (.Call (.Name x p) (e::es) Q9 pos) (wN r t tk):=by
 intro pins s U H Q I h
 refine wpAny_Call_Name_kw (fM I hg hm hv ?_ hn MQ)
 refine PyProof.Rows.callWith_kw (thn (ha pos pins s U H _ I h) λus s1 ⟨vs,H1,I1,r1,q1⟩=>thn (hkw pos pins s1 U H1 _ I1 q1) λws s2 ⟨zs,H2,I2,r2,q2⟩=>?_) he NI Qm Sy
 rw [hks]
 exact hc pins s2 U H2 vs zs us ws Q I2 r1 r2 q2
end
def Its (x:Str):It:=⟨λi _=>i<x.cps.toList.length,λi H v H'=>H'=H/\∃ c,x.cps.toList[i]?=some c/\v=.str ⟨#[c]⟩,λi _=>x.cps.toList.length<=i⟩
theorem rK {P:Program}{w:World}{K:PySem.W.Frag}{tg:Expr}(it:Addr) (x:Str) (t:Tok) (ty:String) (Q4:ty="str_ascii_iterator" \/ ty="str_iterator"):Turn P w K tg (Its x) [it] it (λi h=>h.IsStrIter it ty x t i) where
 mem:=by simp
 obj:=λi h st b hb=>by
  have e:b=it:=by simpa using hb
  subst e
  obtain ⟨o,e,c,d⟩:=st
  exact ⟨o,e,λv z=>by rw [d] at z;cases z⟩
 keep:=λi h h' st k=>let ⟨o,ho,r⟩:=st;⟨o,k it (by simp) o ho,r⟩
 item:=by
  intro X hP hw hK hc i pins s U H E I hf st hg
  subst hP hw hK
  obtain ⟨f0,f1,f2,f3,f4,f5⟩:=hf it (by simp)
  have hi:i<x.cps.size:=by simpa [Its] using hg
  have hx:x.cps[i]?=some x.cps[i]:=by simp [hi]
  have fin:∀ h',h'.IsStrIter it ty x t (i+1)->Heap.SameBut it s.heap h'->(∃ u,some (Value.str ⟨#[x.cps[i]]⟩ s.toks)=some u /\
    wpAny (model X.prog X.w) X.A (letOwnedTupleGo tg (.ref it) u) (λ_ s2=>∃ y H',Inv X pins U H' s2/\aq y u/\(Its x).yld i H y H'/\s2.heap.IsStrIter it ty x t (i+1)/\∀ b∈[it],H' b=none) E { s with heap:=h',toks:=s.toks+1 }):=λh' P3 sb=>by
   have I1:Inv X pins U H { s with heap:=h',toks:=s.toks+1 }:=I.turned (λb o hb e=>(sb.2 b hb).trans e) f0 f1 f3 f4 f5
   obtain ⟨o,e,c,d⟩:=id P3
   refine ⟨_,rfl,kg (s:={ s with heap:=h',toks:=s.toks+1 }) (n:=ty) e c d (by rcases Q4 with rfl|rfl<;>decide) ⟨.str ⟨#[x.cps[i]]⟩,H,I1,⟨_,rfl⟩,⟨rfl,x.cps[i],by simp [hi],rfl⟩,P3,λb hb=>(hf b hb).1⟩⟩
  rcases Q4 with rfl|rfl
  ·exact wpAny_pyNext_ascii_item st hx λh' P3 sb=>fin h' P3 sb
  ·exact wpAny_pyNext_wide_item st hx λh' P3 sb=>fin h' P3 sb
 done:=by
  intro X hP hw hK hc i pins s U H E I hf st hg
  subst hP hw hK
  obtain ⟨f0,f1,f2,f3,f4,f5⟩:=hf it (by simp)
  have hi:x.cps.size<=i:=by simpa [Its] using hg
  have hx:x.cps[i]?=none:=by simp [hi]
  rcases Q4 with rfl|rfl
  ·exact wpAny_pyNext_ascii_end (I.ok.hd hc) st hx λh' eb=>⟨rfl,I.turned (t':=s.toks) (λb o hb e=>eb b o hb e) f0 f1 f3 f4 f5⟩
  ·exact wpAny_pyNext_wide_end (I.ok.hd hc) st hx λh' eb=>⟨rfl,I.turned (t':=s.toks) (λb o hb e=>eb b o hb e) f0 f1 f3 f4 f5⟩
 self:=λ_ _ _ _ _ st h=>by
  rcases Q4 with rfl|rfl
  ·exact wpAny_pyIter_striter_ascii st h
  ·exact wpAny_pyIter_striter_wide st h
section
variable {X:Cx}{tg:Expr}
def KP (tl:TE):TI:=λU H R=>tl U H λx H1=>∃ z,x=.str z/\R (Its z) H1
theorem Fv {l:Expr}{tl:TE}(hl:PE X l tl):PI X tg l (KP tl):=by
 intro pins s U H R I h
 refine thn (hl pins s U H _ I h) λv s1 zz44=>?_
 obtain ⟨x,H1,I1,r1,q1⟩:=zz44
 obtain ⟨z,e,q⟩:=q1
 subst e
 obtain ⟨t,rfl⟩:=r1
 have fp:∀ b∈[s1.heap.objs.size],cH X pins H1 b:=λb hb=>by
  have e:b=s1.heap.objs.size:=by simpa using hb
  subst e
  exact I1.fpOk (Nat.le_refl _) (I1.hok.fresh (Nat.le_refl _))
 cases ha:z.cps.all (·<128)
 ·exact wpAny_pyIter_wide ha ⟨s1.heap.objs.size,[s1.heap.objs.size],_,_,H1,rfl,I1.kept (t':=s1.toks) λb o e=>Heap.get?_push_of_some _ e,rK _ z t "str_iterator" (.inr rfl),⟨_,Heap.get?_push_size _ rfl,rfl,rfl⟩,fp,q⟩
 ·exact wpAny_pyIter_ascii ha ⟨s1.heap.objs.size,[s1.heap.objs.size],_,_,H1,rfl,I1.kept (t':=s1.toks) λb o e=>Heap.get?_push_of_some _ e,rK _ z t "str_ascii_iterator" (.inl rfl),⟨_,Heap.get?_push_size _ rfl,rfl,rfl⟩,fp,q⟩
end
section
variable {X:Cx}
theorem zO:OpR X (compareOp .LtE) (λx y H Q=>∃ i j,x=.str i/\y=.str j/\Q (.bl (!decide (j.cps.toList<i.cps.toList))) H):=by
 intro pins s U H x y v u Q I rx ry h
 obtain ⟨i,j,rfl,rfl,q⟩:=h
 obtain ⟨t,rfl⟩:=rx
 obtain ⟨t',rfl⟩:=ry
 exact PySem.P.le_str (aQ I q rfl)
def KQ:V->Option Int->Option Int->Hp->VK->Prop:=λx lo hi H Q=>∃ z,x=.str z/\z.length<=sizeLine/\Q (.str (Txt.slice z lo hi)) H
theorem jz {v:Value}{o:Option Int}(p:IsPart v o):∃ q:Option (Int×Tok),v=partValue q/\q.map (·.1)=o:=by
 cases p with
 |none=>exact ⟨none,rfl,rfl⟩
 |int i t=>exact ⟨some (i,t),rfl,rfl⟩
theorem Fw:SlR X KQ:=by
 intro pins s U H x v vl vu lo hi sl Q I rx hs pl pu h
 obtain ⟨z,rfl,hz,q⟩:=h
 obtain ⟨t,rfl⟩:=rx
 obtain ⟨ql,rfl,rfl⟩:=jz pl
 obtain ⟨qu,rfl,rfl⟩:=jz pu
 obtain ⟨o,ho,hc,hd⟩:=hs
 refine ⟨"str",_,F.slot_str_getitem.lookup,typeIs_str _ _ _,wpAny_getItem_str_slice (l:=ql) (u:=qu) (st:=none) ⟨o,ho,hc,hd⟩ rfl (post_val_or_str ⟨Nat.le_trans (Txt.slice_le z _ _) hz,λt' k=>?_⟩)⟩
 exact ⟨.str (Txt.slice z (ql.map (·.1)) (qu.map (·.1))),H,I.tok k,⟨t',rfl⟩,q⟩
theorem zP (hc:X.calm=true):bf X (.builtin "all") (λxs H Q=>∃ (p:Addr) (bs:List Bool),xs=[.ref p]/\SqL X.K H p (bs.map V.bl)/\Q (.bl (bs.all id)) H):=by
 intro pins s U H xs us Q I r h
 obtain ⟨p,bs,rfl,hS,q⟩:=h
 obtain ⟨u,rfl,ru⟩:=bV r
 cases ru
 obtain ⟨its,rv,pl,hz⟩:=I.list hS
 have il:=pl.isList
 have hl:=rv.length
 rw [List.length_map] at hl
 have bAt:∀ {i:Nat}{v:Value},its.toArray[i]?=some v->v=.bool (bs.getD i true):=fun {i v} h=>by
  have h':its[i]?=some v:=by simpa using h
  have hi:i<its.length:=(List.getElem?_eq_some_iff.mp h').1
  have hb:i<bs.length:=by omega
  obtain ⟨u,h1,h2⟩:=rv.get (i:=i) (x:=.bl (bs.getD i true)) (by simp [hb])
  rw [h'] at h1
  injection h1 with h1
  subst h1
  exact h2
 have W:=Walks.list (prog:=X.prog) (w:=X.w) (A:=X.A.in1) (I.ok.hd hc) s.heap.objs.size p (by
  obtain ⟨o,n,e,_⟩:=pl
  exact Nat.ne_of_lt (Heap.lt_size e)) its.toArray
 refine call_all_walk (wpAny_pyIter_list il ⟨_,_,_,_,_,_,λi=>bs.getD i true,rfl,W,⟨⟨_,Heap.get?_push_size _ rfl,rfl,rfl⟩,il.push _⟩,λi v s Q E hv hq=>?_,λh' tk hk=>?_⟩)
 ·rw [bAt hv]
  exact wpAny_truthy_bool hq
 ·refine ⟨.bl _,H,I.kept λb o e=>hk b o (CJ e) (Heap.get?_push_of_some _ e),?_,q⟩
  show Value.bool _=Value.bool _
  congr 1
  have e1:its.toArray.size=bs.length:=by rw [List.size_toArray];omega
  rw [e1]
  clear q hS rv bAt W hl e1
  rw [Bool.eq_iff_iff,List.all_eq_true,List.all_eq_true]
  constructor
  ·intro h b hb
   obtain ⟨i,hi,rfl⟩:=List.mem_iff_getElem.mp hb
   have:=h i (List.mem_range.mpr hi)
   rw [sF hi] at this
   exact this
  ·intro h i hi
   have hi':=List.mem_range.mp hi
   rw [sF hi']
   exact h _ (List.getElem_mem hi')
def Fy:V->List V->Hp->VK->Prop:=λx vs H Q=>∃ a b,x=.str a/\vs=[.str b]/\b.length≠0/\a.length<=1000/\∀ l,H l=none->Q (.ref l) (upd H l (.lst ((Txt.split a b).map V.str)))
theorem qP:∀ {l:List (Str×Tok)},am (l.map λp=>V.str p.1) (strValues l)
 |[]=>.nil
 |(x,t)::r=>.cons ⟨t,rfl⟩ qP
theorem AM:MtR X "str.split" Fy:=by
 intro pins s U H x vs v us Q I rx rv h
 obtain ⟨a,b,rfl,rfl,hb,hz,q⟩:=h
 obtain ⟨t,rfl⟩:=rx
 obtain ⟨u,rfl,t2,rfl⟩:=bV rv
 have Mr:=PyProof.Rows.split_le a b
 have hy:(b.length==0)=false:=by simpa using hb
 have hbig:1002<=sizeLine:=by decide
 have hsz:a.length<=sizeLine:=by omega
 have fin:∀ (l:List (Str×Tok)) (k:Nat),l.map (·.1)=Txt.split a b->EP X pins U Q (.ref s.heap.objs.size) { s with heap:=s.heap.push { cls:=.type "list",data:=.seq (strValues l).toArray },toks:=k }:=λl k e=>by
  have e1:l.length=(Txt.split a b).length:=by rw [<- e,List.length_map]
  have e2:(l.map λp=>V.str p.1)=(Txt.split a b).map V.str:=by rw [<- e,List.map_map];rfl
  refine ⟨.ref _,_,I.lnew (its:=strValues l) (ys:=l.map λp=>V.str p.1) qP (by rw [List.length_map];omega),rfl,?_⟩
  rw [e2]
  exact q _ I.fresh
 cases h1:(decide (a.length<b.length) || decide (Builtin.Str.strKind a<Builtin.Str.strKind b))
 ·cases hf:(Builtin.Str.occurrences a b 0 a.length (a.length+1)).isEmpty
  ·have e3:Txt.split a b=Builtin.Str.partsBetween a (Builtin.Str.occurrences a b 0 a.length (a.length+1)) b.length:=(if_neg (ne_true_of_eq_false h1)).trans (if_neg (ne_true_of_eq_false hf))
   have hsz2:(Builtin.Str.partsBetween a (Builtin.Str.occurrences a b 0 a.length (a.length+1)) b.length).length<=sizeLine:=by rw [<- e3];omega
   refine call_meets F.slot_str_split (typeIs_str _ _ _) F.entry_str_split (F.args_str_split_2 _ _) (meets_str_split_sep a b t t2 h1 hy hf hsz hsz2) ?_
   show wants _ _ _ { s with toks:=_,heap:=s.heap.push { cls:=.type "list",data:=.seq (strsFrom s.toks (Builtin.Str.partsBetween a (Builtin.Str.occurrences a b 0 a.length (a.length+1)) b.length)).toArray } }
   rw [strsFrom_eq]
   exact fin (numbered s.toks _) _ ((numbered_texts _ _).trans e3.symm)
  ·exact call_meets F.slot_str_split (typeIs_str _ _ _) F.entry_str_split (F.args_str_split_2 _ _) (meets_str_split_not_found a b t t2 h1 hy hf)
    (fin [(a,t)] s.toks ((if_neg (ne_true_of_eq_false h1)).trans (if_pos hf)).symm)
 ·exact call_meets F.slot_str_split (typeIs_str _ _ _) F.entry_str_split (F.args_str_split_2 _ _) (meets_str_split_cannot_occur a b t t2 h1)
   (fin [(a,t)] s.toks (if_pos h1).symm)
theorem sG:∀ {zs:List Str}{its:List Value},am (zs.map V.str) its->∃ l:List (Str×Tok),its=strValues l/\l.map (·.1)=zs
 |[],_,r=>by
  rw [List.map_nil] at r
  cases r
  exact ⟨[],rfl,rfl⟩
 |z::zs,_,r=>by
  rw [List.map_cons] at r
  cases r with
  |cons r1 r2 =>
   obtain ⟨t,rfl⟩:=r1
   obtain ⟨l,rfl,e⟩:=sG r2
   exact ⟨(z,t)::l,rfl,by rw [List.map_cons,e]⟩
def Ir (K:PySem.W.Frag):V->List V->Hp->VK->Prop:=λx vs H Q=>∃ (a:Str) (p:Addr) (zs:List Str),x=.str a/\vs=[.ref p]/\SqL K H p (zs.map V.str)/\JoinOk a zs=true/\Q (.str (Txt.join a zs)) H
theorem CK:MtR X "str.join" (Ir X.K):=by
 intro pins s U H x vs v us Q I rx rv h
 obtain ⟨a,p,zs,rfl,rfl,hS,hok,q⟩:=h
 obtain ⟨t,rfl⟩:=rx
 obtain ⟨u,rfl,ru⟩:=bV rv
 cases ru
 obtain ⟨its,r,pl,hz⟩:=I.list hS
 obtain ⟨l,rfl,e⟩:=sG r
 exact SC.join pl.isList e hok λt' k=>⟨.str (Txt.join a zs),H,I.tok k,⟨t',rfl⟩,q⟩
end
section
variable {κ:Type}[DecidableEq κ]
noncomputable def bg (kvs:List (κ×V)) (k:κ):Option V:=(kvs.find? λkv=>decide (kv.1=k)).map (·.2)
noncomputable def bC (kvs:List (κ×V)) (k:κ) (v:V):List (κ×V) :=
 if (kvs.any λkv=>decide (kv.1=k))=true then kvs.map (λkv=>if kv.1=k then (kv.1,v) else kv) else kvs++[(k,v)]
noncomputable def eY (kvs:List (κ×V)) (k:κ):List (κ×V):=kvs.filter λkv=>decide (kv.1≠k)
theorem mT {p:κ×V}{r:List (κ×V)}{k:κ}(e:p.1=k):bg (p::r) k=some p.2:=by simp [bg,List.find?_cons,e]
theorem mU {p:κ×V}{r:List (κ×V)}{k:κ}(e:¬ p.1=k):bg (p::r) k=bg r k:=by simp [bg,List.find?_cons,e]
theorem rL (k:κ):∀ kvs:List (κ×V),(kvs.any λkv=>decide (kv.1=k))=(bg kvs k).isSome
 |[]=>rfl
 |p::r=>by
  rw [List.any_cons]
  by_cases e:p.1=k
  ·simp only [mT e,decide_eq_true e,Bool.true_or,Option.isSome_some]
  ·rw [mU e,decide_eq_false e,Bool.false_or];exact rL k r
theorem l9 (kvs:List (κ×V)) (k:κ) (v:V):(bC kvs k v).length<=kvs.length+1:=by
 unfold bC
 split
 ·rw [List.length_map];omega
 ·rw [List.length_append,List.length_cons,List.length_nil];omega
theorem bB.isSome_eq {o:Option V}{u:Option Value}(r:bB o u):o.isSome=u.isSome:=by
 cases o with
 |none=>cases u with
  |none=>rfl
  |some _=>exact (show False from r).elim
 |some _=>cases u with
  |none=>exact (show False from r).elim
  |some _=>rfl
theorem bB.getD {o:Option V}{u:Option Value}{d:V}{d':Value}(r:bB o u) (rd:aq d d'):aq (o.getD d) (u.getD d'):=by
 cases o with
 |none=>cases u with
  |none=>exact rd
  |some _=>exact (show False from r).elim
 |some _=>cases u with
  |none=>exact (show False from r).elim
  |some _=>exact r
theorem KV.val {kvs:List (κ×V)}{vs:List (κ×Value)}(r:KV kvs vs) (k:κ):bB (bg kvs k) (valueAt vs k):=by
 unfold KV at r
 induction r with
 |nil=>exact True.intro
 |@cons p q ps qs h t ih =>
  obtain ⟨h1,h2⟩:=h
  by_cases e:p.1=k
  ·have e':q.1=k:=h1.symm.trans e
   have b:valueAt (q::qs) k=some q.2:=by simp [valueAt,List.find?_cons,e']
   rw [mT e,b];exact h2
  ·have e':¬ q.1=k:=λz=>e (h1.trans z)
   have b:valueAt (q::qs) k=valueAt qs k:=by simp [valueAt,List.find?_cons,e']
   rw [mU e,b];exact ih
theorem KV.any {kvs:List (κ×V)}{vs:List (κ×Value)}(r:KV kvs vs) (k:κ):(kvs.any λkv=>decide (kv.1=k))=vs.any λkv=>decide (kv.1=k):=by
 unfold KV at r
 induction r with
 |nil=>rfl
 |cons h t ih=>rw [List.any_cons,List.any_cons,ih,h.1]
theorem KV.repl {kvs:List (κ×V)}{vs:List (κ×Value)}(r:KV kvs vs) (k:κ){y:V}{u:Value}(ry:aq y u) :
  KV (kvs.map λkv=>if kv.1=k then (kv.1,y) else kv) (vs.map λkv=>if kv.1=k then (kv.1,u) else kv):=by
 unfold KV at r ⊢
 induction r with
 |nil=>exact .nil
 |@cons p q ps qs h t ih =>
  rw [List.map_cons,List.map_cons]
  refine .cons ?_ ih
  obtain ⟨h1,h2⟩:=h
  by_cases e:p.1=k
  ·rw [if_pos e,if_pos (h1.symm.trans e)];exact ⟨h1,ry⟩
  ·rw [if_neg e,if_neg (λz=>e (h1.trans z))];exact ⟨h1,h2⟩
theorem KV.put {kvs:List (κ×V)}{vs:List (κ×Value)}(r:KV kvs vs) (k:κ){y:V}{u:Value}(ry:aq y u):KV (bC kvs k y) (stored vs k u):=by
 unfold bC stored
 rw [r.any k]
 by_cases e:(vs.any λkv=>decide (kv.1=k))=true
 ·rw [if_pos e,if_pos e];exact r.repl k ry
 ·rw [if_neg e,if_neg e];exact Paired.snoc r ⟨rfl,ry⟩
theorem KV.drop {kvs:List (κ×V)}{vs:List (κ×Value)}(r:KV kvs vs) (k:κ):KV (eY kvs k) (without vs k):=by
 unfold KV at r ⊢
 unfold eY without
 induction r with
 |nil=>exact .nil
 |@cons p q ps qs h t ih =>
  obtain ⟨h1,h2⟩:=h
  rw [List.filter_cons,List.filter_cons]
  by_cases e:p.1=k
  ·have a:¬ decide (p.1≠k)=true:=by simp [e]
   have b:¬ decide (q.1≠k)=true:=by simp [h1.symm.trans e]
   rw [if_neg a,if_neg b];exact ih
  ·have e':¬ q.1=k:=λz=>e (h1.trans z)
   have a:decide (p.1≠k)=true:=by simp [e]
   have b:decide (q.1≠k)=true:=by simp [e']
   rw [if_pos a,if_pos b];exact .cons ⟨h1,h2⟩ ih
theorem KV.keys {kvs:List (κ×V)}{vs:List (κ×Value)}(r:KV kvs vs):kvs.map (·.1)=vs.map (·.1):=by
 unfold KV at r
 induction r with
 |nil=>rfl
 |cons h t ih=>rw [List.map_cons,List.map_cons,ih,h.1]
theorem KV.length {kvs:List (κ×V)}{vs:List (κ×Value)}(r:KV kvs vs):kvs.length=vs.length:=Paired.length r
theorem AN (kvs:List (κ×V)) (k:κ):(eY kvs k).length<=kvs.length:=List.length_filter_le _ _
end
theorem dI {P:Program}{w:World}{k:Key}{u:Value}(r:aq (kV k) u):(aV P w).is k u=true:=by
 cases k with
 |inl i=>obtain ⟨t,e⟩:=(show ∃ t,u=Value.int i t from r);subst e;exact yA P w i t
 |inr x=>obtain ⟨t,e⟩:=(show ∃ t,u=Value.str x t from r);subst e;exact yB P w x t
theorem qQ {P:Program}{w:World}:∀ {ks:List Key}{us:List Value},am (ks.map kV) us->ItemsAre (aV P w) ks us
 |[],_,r=>by rw [List.map_nil] at r;cases r;exact .nil
 |k::ks,_,r=>by
  rw [List.map_cons] at r
  cases r with
  |cons h t=>exact .cons (dI h) (qQ t)
abbrev KT (H:Hp):List (List Key×V)->List (List Key×Addr×Value)->Prop:=Paired λp q=>p.1=q.1/\H q.2.1=some (.tup (p.1.map kV))/\aq p.2 q.2.2
theorem KT.val {H:Hp}{kvs:List (List Key×V)}{xs:List (List Key×Addr×Value)}(r:KT H kvs xs) (k:List Key):bB (bg kvs k) ((atKey xs k).map (·.2)):=by
 induction r with
 |nil=>exact True.intro
 |@cons p q ps qs h t ih =>
  obtain ⟨h1,_,h2⟩:=h
  by_cases e:p.1=k
  ·have e':q.1=k:=h1.symm.trans e
   have b:atKey (q::qs) k=some q.2:=by simp [atKey,List.find?_cons,e']
   rw [mT e,b];exact h2
  ·have e':¬ q.1=k:=λz=>e (h1.trans z)
   have b:atKey (q::qs) k=atKey qs k:=by simp [atKey,List.find?_cons,e']
   rw [mU e,b];exact ih
theorem KT.repl {H:Hp}{kvs:List (List Key×V)}{xs:List (List Key×Addr×Value)}(r:KT H kvs xs) (k:List Key){y:V}{u:Value}(ry:aq y u) :
  KT H (kvs.map λkv=>if kv.1=k then (kv.1,y) else kv) (xs.map (putAt k u)):=by
 induction r with
 |nil=>exact .nil
 |@cons p q ps qs h t ih =>
  rw [List.map_cons,List.map_cons]
  refine .cons ?_ ih
  obtain ⟨h1,h2,h3⟩:=h
  unfold putAt
  by_cases e:p.1=k
  ·rw [if_pos e,if_pos (h1.symm.trans e)];exact ⟨h1,h2,ry⟩
  ·rw [if_neg e,if_neg (λz=>e (h1.trans z))];exact ⟨h1,h2,h3⟩
theorem KT.put {H:Hp}{kvs:List (List Key×V)}{xs:List (List Key×Addr×Value)}(r:KT H kvs xs) (k:List Key){b:Addr}{y:V}{u:Value}(hb:H b=some (.tup (k.map kV))) (ry:aq y u) :
  KT H (bC kvs k y) (storedH xs k b u):=by
 have e:(kvs.any λkv=>decide (kv.1=k))=(atKey xs k).isSome:=by
  rw [rL,(r.val k).isSome_eq,Option.isSome_map]
 unfold bC storedH
 rw [e]
 by_cases q:(atKey xs k).isSome=true
 ·rw [if_pos q,if_pos q];exact r.repl k ry
 ·rw [if_neg q,if_neg q];exact Paired.snoc r ⟨rfl,hb,ry⟩
theorem KT.keeps {H H':Hp}{kvs:List (List Key×V)}{xs:List (List Key×Addr×Value)}(r:KT H kvs xs) (ht:∀ b ys,H b=some (.tup ys)->H' b=some (.tup ys)):KT H' kvs xs :=
 Paired.mapP r λ_ _ z=>⟨z.1,ht _ _ z.2.1,z.2.2⟩
section
variable {P:Program}{w:World}{H:Hp}{h:Heap}{a:Addr}
theorem vJ {u:HO}(ok:HOk P w H h) (e:Rd H a u):aS P w H h a u:=e.ok ok
theorem ki {kvs:List (Key×V)}(ok:HOk P w H h) (e:Rd H a (.dK kvs)):kvs.length<=sizeLine/\(a==sysModules)=false/\∃ vs,KV kvs vs/\h.DictOf (aV P w) a vs :=
 show aS P w H h a (.dK kvs) from vJ ok e
theorem fZ {kvs:List (Key×V)}(ok:HOk P w H h) (e:H a=some (.dK kvs)):kvs.length<=sizeLine/\(a==sysModules)=false/\∃ vs,KV kvs vs/\h.DictOf (aV P w) a vs:=ki ok (.inl e)
theorem jR {ks:List Key}(ok:HOk P w H h) (e:H a=some (.tup (ks.map kV))):(tupleKind (aV P w)).is h ks a:=by
 obtain ⟨_,its,r,o,h1,h2,n,h3⟩:=(show aS P w H h a (.tup (ks.map kV)) from ok a _ e)
 exact ⟨o,its.toArray,n,h1,h2,h3,by simpa using qQ r⟩
theorem kj {kvs:List (List Key×V)}(ok:HOk P w H h) (e:Rd H a (.dT kvs)):kvs.length<=sizeLine/\(a==sysModules)=false /\
  ∃ xs,KT H kvs xs/\h.DictOfH (tupleKind (aV P w)) a xs:=by
 obtain ⟨z,y,xs,r,o,es,ep,h1,h2,h3,h4,h5⟩:=(show aS P w H h a (.dT kvs) from vJ ok e)
 refine ⟨z,y,xs,r,o,es,ep,h1,h2,h3,h4,λx hx=>?_,h5⟩
 have all:∀ {l:List (List Key×V)}{m:List (List Key×Addr×Value)},KT H l m->∀ x∈m,(tupleKind (aV P w)).is h x.1 x.2.1:=by
  intro l m q
  induction q with
  |nil=>intro x hx;exact nomatch hx
  |@cons p q ps qs hq t ih =>
   intro x hx
   rcases List.mem_cons.mp hx with e|hx
   ·subst e
    exact jR ok (by rw [<- hq.1];exact hq.2.1)
   ·exact ih x hx
 exact all r x hx
theorem vK {kvs:List (List Key×V)}(ok:HOk P w H h) (e:H a=some (.dT kvs)):kvs.length<=sizeLine/\(a==sysModules)=false /\
  ∃ xs,KT H kvs xs/\h.DictOfH (tupleKind (aV P w)) a xs:=kj ok (.inl e)
end
def eg (H:Hp) (a:Addr) (y:V) (r:Option V):Prop :=
 (∃ kvs k,Rd H a (.dK kvs)/\y=kV k/\r=bg kvs k)\/∃ kvs k b,Rd H a (.dT kvs)/\y=.ref b/\H b=some (.tup (k.map kV))/\r=bg kvs k
def e9 (H:Hp) (a:Addr) (y v:V) (H':Hp):Prop :=
 (∃ kvs k,H a=some (.dK kvs)/\y=kV k/\kvs.length<sizeLine/\H'=upd H a (.dK (bC kvs k v))) \/
 ∃ kvs k b,H a=some (.dT kvs)/\y=.ref b/\H b=some (.tup (k.map kV))/\kvs.length<sizeLine/\H'=upd H a (.dT (bC kvs k v))
theorem eg.t {H:Hp}{a b:Addr}{kvs:List (List Key×V)}{k:List Key}(e:H a=some (.dT kvs)) (eb:H b=some (.tup (k.map kV))):eg H a (.ref b) (bg kvs k):=.inr ⟨kvs,k,b,.inl e,rfl,eb,rfl⟩
theorem e9.k {H:Hp}{a:Addr}{kvs:List (Key×V)}{k:Key}{v:V}(e:H a=some (.dK kvs)) (hl:kvs.length<sizeLine):e9 H a (kV k) v (upd H a (.dK (bC kvs k v))):=.inl ⟨kvs,k,e,rfl,hl,rfl⟩
theorem e9.t {H:Hp}{a b:Addr}{kvs:List (List Key×V)}{k:List Key}{v:V}(e:H a=some (.dT kvs)) (eb:H b=some (.tup (k.map kV))) (hl:kvs.length<sizeLine) :
  e9 H a (.ref b) v (upd H a (.dT (bC kvs k v))):=.inr ⟨kvs,k,b,e,rfl,eb,hl,rfl⟩
section
variable {X:Cx}{pins:List (Addr×Obj)}{U:St}{H:Hp}{s:Shared}{a:Addr}{y v:V}{u r:Value}{o:Option V}{A:Around}{E:Value->Shared->Prop}
theorem Inv.big (I:Inv X pins U H s):sysModules<s.heap.objs.size:=by
 have h:mainGlobals<s.heap.objs.size:=(I.mod.glob.keeps I.bk).lt
 exact Nat.lt_trans (by decide) h
theorem zQ {Q:Value->Shared->Prop}(hu:A.units+1<cLine) (I:Inv X pins U H s) (g:eg H a y (some v)) (ry:aq y u) (h:∀ w' s',Inv X pins U H s'->aq v w'->Q w' s') :
  wpAny (model X.prog X.w) A (getItem (.ref a) u) Q E s:=by
 rcases g with ⟨kvs,k,e,ey,l⟩|⟨kvs,k,b,e,ey,eb,l⟩
 ·subst ey
  obtain ⟨z,hd,vs,rel,dd⟩:=ki I.hok e
  obtain ⟨w',hw,OW⟩:=bB.some_of (v:=v) (o:=valueAt vs k) (by rw [l];exact rel.val k)
  exact wpAny_getItem_of (dI ry) dd.mapOf hw (h w' _ (I.tok _) OW)
 ·subst ey
  cases (show u=Value.ref b from ry)
  obtain ⟨z,hd,xs,rel,dd⟩:=kj I.hok e
  obtain ⟨w',hw,OW⟩:=bB.some_of (v:=v) (o:=(atKey xs k).map (·.2)) (by rw [l];exact rel.val k)
  obtain ⟨p,hp,hp2⟩:=Option.map_eq_some_iff.mp hw
  refine wpAny_getItem_heap (tupleKind_room_in1 hu) (jR I.hok eb) dd hp ?_
  rw [hp2]
  exact h w' _ (I.tok _) OW
theorem jA {h':Heap}{t':Nat}{ob:HO}(I:Inv X pins U H s) (mu:Mut (H a)) (hs:Heap.SameBut a s.heap h') (he:∃ q,h'.get? a=some q) (new:aS X.prog X.w (upd H a ob) h' a ob) :
  Inv X pins U (upd H a ob) { s with heap:=h',toks:=t' } :=
 I.write (x:=a) (e:=a) mu (.inl rfl) (λb q hb z=>(hs.2 b hb).trans z) he new
theorem n0 {P:Program}{w:World}{H':Hp}{h':Heap}{kvs:List (Key×V)}{vs:List (Key×Value)}(z:kvs.length<=sizeLine) (hd:(a==sysModules)=false) (rel:KV kvs vs) (dd:h'.DictOf (aV P w) a vs) :
  aS P w H' h' a (.dK kvs):=⟨z,hd,vs,rel,dd⟩
theorem qR {H':Hp}{Q:Unit->Shared->Prop}(hu:A.units+1<cLine) (I:Inv X pins U H s) (g:e9 H a y v H') (ry:aq y u) (rv:aq v r) (h:∀ s',Inv X pins U H' s'->Q () s') :
  wpAny (model X.prog X.w) A (setItem (.ref a) u r) Q E s:=by
 rcases g with ⟨kvs,k,e,ey,l,eH⟩|⟨kvs,k,b,e,ey,eb,l,eH⟩
 ·subst ey eH
  obtain ⟨z,hd,vs,rel,dd⟩:=fZ I.hok e
  have hz:vs.length<=sizeLine:=by rw [<- rel.length];exact z
  have hl:(bC kvs k v).length<=sizeLine:=by have:=l9 kvs k v;omega
  refine wpAny_setItem_pairs (hsz:=hz) (dI ry) dd λh' Rb hs=>h _ ?_
  have he:∃ q,h'.get? a=some q:=let ⟨q,_,_,hq,_⟩:=Rb;⟨q,hq⟩
  exact jA I (by rw [e];exact True.intro) hs he (n0 hl hd (rel.put k rv) Rb)
 ·subst ey eH
  cases (show u=Value.ref b from ry)
  obtain ⟨z,hd,xs,rel,dd⟩:=vK I.hok e
  have hz:xs.length<=sizeLine:=by rw [<- Paired.length rel];exact z
  have hl:(bC kvs k v).length<=sizeLine:=by have:=l9 kvs k v;omega
  refine wpAny_setItem_heap (hsz:=hz) (tupleKind_room_in1 hu) (jR I.hok eb) dd λh' Rb hs=>h _ ?_
  obtain ⟨q,es,ep,hq,h2,h3,h4,_,h5⟩:=Rb
  refine jA I (by rw [e];exact True.intro) hs ⟨q,hq⟩ ⟨hl,hd,_,(rel.put k eb rv).keeps λc ys ec=>?_,q,es,ep,hq,h2,h3,h4,h5⟩
  rw [aG (dg ec e (λz=>nomatch z))]
  exact ec
end
section
variable {X:Cx}{pins:List (Addr×Obj)}{U:St}{H:Hp}{s:Shared}{a:Addr}{kvs:List (Key×V)}{k:Key}{u:Value}{A:Around}{E:Value->Shared->Prop}
theorem Iu {v:V}{more:List Value}{Q:Value->Shared->Prop}(I:Inv X pins U H s) (e:H a=some (.dK kvs)) (ry:aq (kV k) u) (l:bg kvs k=some v) (hm:more=[]\/∃ x,more=[x])
  (h:∀ w' s',Inv X pins U (upd H a (.dK (eY kvs k))) s'->aq v w'->Q w' s'):wpAny (model X.prog X.w) A (call (.builtin "dict.pop") (.ref a::u::more)) Q E s:=by
 obtain ⟨z,hd,vs,rel,dd⟩:=fZ I.hok e
 obtain ⟨w',hw,OW⟩:=bB.some_of (v:=v) (o:=valueAt vs k) (by rw [<- l];exact rel.val k)
 have hp:(keyPart u).isSome=true:=by
  cases k with
  |inl i=>obtain ⟨t,q⟩:=(show ∃ t,u=Value.int i t from ry);subst q;rfl
  |inr x=>obtain ⟨t,q⟩:=(show ∃ t,u=Value.str x t from ry);subst q;rfl
 have ha:argsOk "dict.pop" ⟨.ref a::u::more,[]⟩:=by
  rcases hm with q|⟨x,q⟩
  ·subst q;exact PySem.F.args_dict_pop_2 _ _
  ·subst q;exact PySem.F.args_dict_pop_3 _ _ _
 refine call_meetsIn PySem.F.slot_dict_pop dd.typeIs PySem.F.entry_dict_pop ha (meets_dict_pop_there (aV X.prog X.w) a (dI ry) more hm hp)
  ⟨vs,w',dd,by rw [<- rel.length];exact z,hw,λh' Rb hs=>h w' _ ?_ OW⟩
 have he:∃ q,h'.get? a=some q:=let ⟨q,_,_,hq,_⟩:=Rb;⟨q,hq⟩
 exact jA I (by rw [e];exact True.intro) hs he (n0 (Nat.le_trans (AN kvs k) z) hd (rel.drop k) Rb)
end
def fe (i:Expr):Prop:=∀ ov iv,subscripted i false ov iv=operate [ov,iv] (getItem ov iv)
theorem sH {prog:Program}{w:World}{A:Around}{E:Value->Shared->Prop}{s:Shared}{env:Env}{value slice:Expr}{pos:Pos}{T id:String}{Q:Value->Shared->Prop}
  (hl:typeLookup (.type T) "__getitem__"=pure (some (.builtin id))) (hs:fe slice)
  (h:wpAny (model prog w) A (eval value env) (λo LU=>wpAny (model prog w) A (eval slice env) (λi Pq=>Pq.TypeIs o T/\wpAny (model prog w) A (getItem o i) Q E Pq) E LU) E s) :
  wpAny (model prog w) A (eval (.Subscript value slice pos) env) Q E s:=by
 refine Subscript_ (wpAny_mono h (λo LU h₁=>wpAny_mono h₁ (λi Pq Ra=>?_) λ_ _ x=>x) λ_ _ x=>x)
 obtain ⟨hT,Ra⟩:=Ra
 unfold subscriptTail
 refine wpAny_bind ?_
 rw [getitemInPython_of_ne hT.not_modules]
 refine wpAny_bind (wpAny_specialOf hT hl ?_)
 have fin:wpAny (model prog w) A (subscripted slice false o i) (λr P4=>wpAny (model prog w) A (letTemporaryGo value o r >>= λ_=>pure r) Q E P4) E Pq:=by
  rw [hs o i]
  exact wpAny_operating (wpAny_mono Ra (λr P4 RP=>wpAny_bind (wpAny_letTemporaryGo (wpAny_pure RP))) λ_ _ x=>x)
 first
  |exact wpAny_pure (wpAny_bind fin)
  |exact wpAny_bind (wpAny_pure (wpAny_bind fin))
  |exact wpAny_bind fin
theorem yH {X:Cx}{pins:List (Addr×Obj)}{U:St}{H:Hp}{s:Shared}{a:Addr}{y:V}{o:Option V}(I:Inv X pins U H s) (g:eg H a y o):s.TypeIs (.ref a) "dict":=by
 rcases g with ⟨kvs,k,e,_,_⟩|⟨kvs,k,b,e,_,_,_⟩
 ·obtain ⟨_,_,vs,_,dd⟩:=ki I.hok e
  exact dd.typeIs
 ·obtain ⟨_,_,xs,_,dd⟩:=kj I.hok e
  exact dd.typeIs
def Iw (td ty:TE):TE:=λU H Q=>td U H λx H1=>ty U H1 λy H2=>∃ a v,x=.ref a/\eg H2 a y (some v)/\Q v H2
section
variable {X:Cx}{o i e value:Expr}{pos MA NP:Pos}{td ty tv:TE}
theorem CL (hu:X.A.units+1<cLine) (ho:PE X o td) (hi:PE X i ty) (hs:fe i):PE X (.Subscript o i pos) (Iw td ty):=by
 intro pins s U H Q I h
 refine sH PySem.F.slot_dict_getitem.lookup hs (thn (ho pins s U H _ I h) λu s1 zz45=>?_)
 obtain ⟨x,H1,I1,rx,q1⟩:=zz45
 refine thn (hi pins s1 U H1 _ I1 q1) λiv s2 zz46=>?_
 obtain ⟨y,H2,I2,ry,a,v,ex,g,q2⟩:=zz46
 subst ex
 obtain rfl:u=Value.ref a:=rx
 exact ⟨yH I2 g,zQ hu I2 g ry λw' s3 I3 OW=>⟨v,H2,I3,OW,q2⟩⟩
end
theorem rM {P:Program}{w:World}{H:Hp}(h:Heap) (hb:sysModules<h.objs.size):aS P w H (h.push { cls:=.type "dict",data:=.dict #[] }) h.objs.size (.dK []) :=
 ⟨Nat.zero_le _,beq_eq_false_iff_ne.mpr (Ne.symm (Nat.ne_of_lt hb)),[],.nil,Heap.DictOf.new h⟩
theorem AO {P:Program}{w:World}{H:Hp}(h:Heap) (hb:sysModules<h.objs.size):aS P w H (h.push { cls:=.type "dict",data:=.dict #[] }) h.objs.size (.dT []) :=
 ⟨Nat.zero_le _,beq_eq_false_iff_ne.mpr (Ne.symm (Nat.ne_of_lt hb)),[],.nil,_,#[],0,Heap.get?_push_size _ rfl,⟨rfl,rfl,rfl⟩,rfl,rfl,List.nodup_nil⟩
def Fz:TE:=λ_ H Q=>∀ p,H p=none->Q (.ref p) (upd H p (.dK []))
def FA:TE:=λ_ H Q=>∀ p,H p=none->Q (.ref p) (upd H p (.dT []))
section
variable {X:Cx}{pos:Pos}
theorem AQ:PE X (.Dict [] [] pos) Fz:=λpins s U H Q I h =>
 wpAny_Dict_empty ⟨.ref s.heap.objs.size,_,I.laid (a:=s.heap.objs.size) (o:=.dK []) (t':=s.toks) (λ_ _ q=>Heap.get?_push_of_some _ q) (Nat.le_refl _) (rM s.heap I.big),rfl,h _ (I.hok.fresh (Nat.le_refl _))⟩
theorem AR:PE X (.Dict [] [] pos) FA:=λpins s U H Q I h =>
 wpAny_Dict_empty ⟨.ref s.heap.objs.size,_,I.laid (a:=s.heap.objs.size) (o:=.dT []) (t':=s.toks) (λ_ _ q=>Heap.get?_push_of_some _ q) (Nat.le_refl _) (AO s.heap I.big),rfl,h _ (I.hok.fresh (Nat.le_refl _))⟩
end
def n9:List (TE×TE)->St->Hp->(List (V×V)->Hp->Prop)->Prop
 |[],_,H,Q=>Q [] H
 |(tk,tv)::r,U,H,Q=>tk U H λx H1=>tv U H1 λy H2=>n9 r U H2 λps H3=>Q ((x,y)::ps) H3
abbrev VV:List (V×V)->List (Value×Value)->Prop:=Paired λp q=>aq p.1 q.1/\aq p.2 q.2
def PPs (X:Cx) (pos:Pos) (keys:List (Option Expr)) (values:List Expr) (RS:List (TE×TE)):Prop :=
 ∀ (pins:List (Addr×Obj)) (s:Shared) (U:St) (H:Hp) (Q:List (V×V)->Hp->Prop),Inv X pins U H s->n9 RS U H Q ->
  wpAny (model X.prog X.w) X.A (evalPairs (pairTrees keys values X.env pos)) (λvs s'=>∃ ps H',Inv X pins U H' s'/\VV ps vs/\Q ps H') X.xe s
theorem sI {X:Cx}{pos:Pos}:PPs X pos [] [] []:=λpins s U H Q I h=>pairTrees_nil_walk ⟨[],H,I,.nil,h⟩
theorem fG {X:Cx}{pos:Pos}{k v:Expr}{ks:List (Option Expr)}{vs:List Expr}{tk tv:TE}{RS:List (TE×TE)}(hk:PE X k tk) (hv:PE X v tv) (hr:PPs X pos ks vs RS) :
  PPs X pos (some k::ks) (v::vs) ((tk,tv)::RS):=λpins s U H Q I h =>
 pairTrees_cons_walk (thn (hk pins s U H _ I h) λu s1 ⟨x,H1,I1,rx,q1⟩=>thn (hv pins s1 U H1 _ I1 q1) λw2 s2 ⟨y,H2,I2,ry,q2⟩ =>
  thn (hr pins s2 U H2 _ I2 q2) λws s3 zz47=>by obtain ⟨ps,H3,I3,rel,q3⟩:=zz47;exact ⟨(x,y)::ps,H3,I3,.cons ⟨rx,ry⟩ rel,q3⟩)
def dG (kvs more:List (Key×V)):List (Key×V):=more.foldl (λLQ kv=>bC LQ kv.1 kv.2) kvs
theorem KV.merge:∀ {more:List (Key×V)}{rs:List (Key×Value)}{kvs:List (Key×V)}{vs:List (Key×Value)},KV more rs->KV kvs vs->KV (dG kvs more) (merged vs rs):=by
 intro more rs kvs vs r
 unfold KV at r
 induction r generalizing kvs vs with
 |nil=>intro q;exact q
 |@cons p q ps qs h t ih =>
  intro r0
  have e:KV (bC kvs p.1 p.2) (stored vs q.1 q.2):=by
   have:=r0.put p.1 h.2
   rw [<- h.1];exact this
  exact ih e
theorem p7:∀ (more kvs:List (Key×V)),(dG kvs more).length<=kvs.length+more.length
 |[],kvs=>by show kvs.length<=kvs.length+0;omega
 |p::r,kvs=>by
  have h1:=p7 r (bC kvs p.1 p.2)
  have h2:=l9 kvs p.1 p.2
  show (dG (bC kvs p.1 p.2) r).length<=_
  rw [List.length_cons];omega
theorem qw {P:Program}{w:World}:∀ {kvs:List (Key×V)}{ws:List (Value×Value)},VV (kvs.map λkv=>(kV kv.1,kv.2)) ws->∃ rs,Carries (aV P w) ws rs/\KV kvs rs
 |[],_,r=>by rw [List.map_nil] at r;cases r;exact ⟨[],True.intro,.nil⟩
 |p::kvs,_,r=>by
  rw [List.map_cons] at r
  cases r with
  |@cons a b as bs h t =>
   obtain ⟨rs,c,q⟩:=qw (P:=P) (w:=w) t
   obtain ⟨b1,b2⟩:=b
   exact ⟨(p.1,b2)::rs,⟨dI h.1,rfl,c⟩,.cons ⟨rfl,h.2⟩ q⟩
def Ix (RS:List (TE×TE)):TE:=λU H Q=>∀ p,H p=none->n9 RS U (upd H p (.dK [])) λps H2=>H2 p=some (.dK [])/\∃ kvs:List (Key×V),ps=kvs.map (λkv=>(kV kv.1,kv.2))/\kvs.length<=15/\Q (.ref p) (upd H2 p (.dK (dG [] kvs)))
theorem sJ {X:Cx}{pos:Pos}{keys:List (Option Expr)}{values:List Expr}{RS:List (TE×TE)}(h:PPs X pos keys values RS) (Qm:keys.all (·.isSome)=true) (hl:keys.length=values.length) (h0:keys≠[])
  (h15:keys.length<=15):PE X (.Dict keys values pos) (Ix RS):=by
 intro pins s U H Q I q
 have hn:=I.hok.fresh (Nat.le_refl s.heap.objs.size)
 have I1:=I.laid (a:=s.heap.objs.size) (o:=.dK []) (h':=s.heap.push { cls:=.type "dict",data:=.dict #[] }) (t':=s.toks) (λ_ _ q=>Heap.get?_push_of_some _ q) (Nat.le_refl _) (rM s.heap I.big)
 refine wpAny_Dict_walk (knd:=aV X.prog X.w) Qm hl h0 h15 (thn (h pins _ U _ _ I1 (q _ hn)) λws s2 zz48=>?_)
 obtain ⟨ps,H2,I2,rel,e,kvs,ep,lk,q2⟩:=zz48
 subst ep
 obtain ⟨rs,c,rk⟩:=qw (P:=X.prog) (w:=X.w) rel
 obtain ⟨z,hd,vs0,r0,dd⟩:=fZ I2.hok e
 cases r0
 refine ⟨rs,c,dd,λh' Rb hs=>⟨.ref s.heap.objs.size,_,?_,rfl,q2⟩⟩
 have hz:(dG [] kvs).length<=sizeLine:=by
  have h1:=p7 kvs []
  rw [List.length_nil] at h1
  rw [sizeLine_eq];omega
 have he:∃ q,h'.get? s.heap.objs.size=some q:=let ⟨q,_,_,hq,_⟩:=Rb;⟨q,hq⟩
 exact jA I2 (by rw [e];exact True.intro) hs he (n0 hz hd (rk.merge .nil) Rb)
structure M1 (X:Cx) (o:Expr) (m:Str) (apos:Pos) (e:Expr) (cpos:Pos):Prop where
 base:attributeBase o m X.env (eval o X.env)=eval o X.env
 few:((backTo cpos (starEach [e] X.env)).all (λx=>!x.1)&&(backToKw cpos (keywordEach [] X.env)).all (λx=>x.1.isSome)
  && decide (([e]:List Expr).length+([]:List Keyword).length+(if ([]:List Keyword).isEmpty then 0 else 1)<30))=true
 line:(apos.endLine==cpos.line)=true
 trees:backTo cpos (starEach [e] X.env)=[(false,eval e X.env)]
structure M2 (X:Cx) (o:Expr) (m:Str) (apos:Pos) (e f:Expr) (cpos:Pos):Prop where
 base:attributeBase o m X.env (eval o X.env)=eval o X.env
 few:((backTo cpos (starEach [e,f] X.env)).all (λx=>!x.1)&&(backToKw cpos (keywordEach [] X.env)).all (λx=>x.1.isSome)
  && decide (([e,f]:List Expr).length+([]:List Keyword).length+(if ([]:List Keyword).isEmpty then 0 else 1)<30))=true
 line:(apos.endLine==cpos.line)=true
 trees:backTo cpos (starEach [e,f] X.env)=[(false,eval e X.env),(false,eval f X.env)]
section
variable {X:Cx}{pins:List (Addr×Obj)}{U:St}{H:Hp}{s:Shared}{a:Addr}{y d:V}{u r:Value}{o:Option V}{A:Around}{E:Value->Shared->Prop}
theorem FB {Q:Value->Shared->Prop}(hu:A.units+1<cLine) (I:Inv X pins U H s) (g:eg H a y o) (ry:aq y u) (rd:aq d r) (h:∀ w' s',Inv X pins U H s'->aq (o.getD d) w'->Q w' s') :
  wpAny (model X.prog X.w) A (call (.builtin "dict.get") [.ref a,u,r]) Q E s:=by
 rcases g with ⟨kvs,k,e,ey,l⟩|⟨kvs,k,b,e,ey,eb,l⟩
 ·subst ey
  obtain ⟨z,hd,vs,rel,dd⟩:=ki I.hok e
  refine call_meetsIn PySem.F.slot_dict_get dd.typeIs PySem.F.entry_dict_get (PySem.F.args_dict_get_3 _ _ _) (meets_dict_get_default (aV X.prog X.w) a (dI ry) hd r) ⟨_,dd.mapOf,h _ _ (I.tok _) ?_⟩
  rw [l]
  exact (rel.val k).getD rd
 ·subst ey
  cases (show u=Value.ref b from ry)
  obtain ⟨z,hd,xs,rel,dd⟩:=kj I.hok e
  refine call_meetsIn PySem.F.slot_dict_get dd.typeIs PySem.F.entry_dict_get (PySem.F.args_dict_get_3 _ _ _) (meetsH_dict_get_default (tupleKind (aV X.prog X.w)) a b hd r) ⟨tupleKind_room_in1 hu,k,xs,jR I.hok eb,dd,h _ _ (I.tok _) ?_⟩
  rw [l]
  exact (rel.val k).getD rd
end
section
variable {X:Cx}{o e f:Expr}{apos cpos:Pos}{td ty tx:TE}
end
section
variable {X:Cx}{pins:List (Addr×Obj)}{U:St}{H:Hp}{s:Shared}{a:Addr}{kvs:List (Key×V)}{A:Around}{E:Value->Shared->Prop}
end
section
variable {X:Cx}{pins:List (Addr×Obj)}{U:St}{H:Hp}{s:Shared}{a:Addr}{y:V}{u:Value}{A:Around}{E:Value->Shared->Prop}
end
section
variable {κ:Type}[DecidableEq κ]
end
def bX (D:Addr) (zs:List V):HO:=.ext λh=>zs.length<=sizeLine/\∃ (its:List Value) (n:Nat),am zs its/\h.get? D=some { cls:=.type "list",data:=.seq its.toArray n }
theorem Inv.toAcc {X:Cx}{pins:List (Addr×Obj)}{U:St}{H:Hp}{s:Shared}{D:Addr}{zs:List V}(I:Inv X pins U H s) (h:H D=some (.lst zs)):Inv X pins U (upd H D (bX D zs)) s:=by
 obtain ⟨z,its,n,r,e⟩:=I.hok D _ h
 obtain ⟨hh,g,d,t,os⟩:=s
 exact I.write (t':=t) (h':=hh) (x:=D) (e:=D) (by rw [h];trivial) (.inl rfl) (λb u _ q=>q) ⟨_,e⟩ ⟨⟨z,its,n,r,e⟩,⟨_,e⟩,λh1 h2 zz49 k=>by obtain ⟨z',its',n',r',e'⟩:=zz49;exact ⟨z',its',n',r',k _ e'⟩⟩
theorem Inv.ofAcc {X:Cx}{pins:List (Addr×Obj)}{U:St}{H:Hp}{s:Shared}{D:Addr}{zs:List V}(I:Inv X pins U H s) (h:H D=some (bX D zs)):Inv X pins U (upd H D (.lst zs)) s:=by
 obtain ⟨⟨z,its,n,r,e⟩,_,_⟩:=I.hok D _ h
 obtain ⟨hh,g,d,t,os⟩:=s
 exact I.write (t':=t) (h':=hh) (x:=D) (e:=D) (by rw [h];trivial) (.inl rfl) (λb u _ q=>q) ⟨_,e⟩ ⟨z,its,n,r,e⟩
section
variable {X:Cx}{pins:List (Addr×Obj)}{U:St}{H:Hp}{s:Shared}{scope:Scope}{Nc:List Str}{fp:List Addr}{C:Addr}
def ul (J:It) (n:Nat) (LS:List Nat) (g:TG) (tt:TT) (te:TE) (U:St) (H1:Hp) (Q:VK):Prop:=∀ D,H1 D=none->∃ W:Nat->Nat->List V->St->Hp->Prop,(∃ m,W 0 m [] (fO n LS U) (upd H1 D (bX D [])))/\∀ i m zs σc H,W i m zs σc H ->
 H D=some (bX D zs)/\((J.stop i H/\Q (.ref D) (upd H D (.lst zs)))\/(J.go i H/\∃ N:List V->St->Hp->Prop,(∀ zs' LO H',N zs' LO H'->∃ m',m'<m/\W (i+1) m' zs' LO H')/\∀ x H',J.yld i H x H'->g x σc H' λMz H2=>tt Mz H2 λb H3 =>
  if b=true then te Mz H3 λy H4=>H4 D=some (bX D zs)/\zs.length<sizeLine/\N (zs++[y]) Mz (upd H4 D (bX D (zs++[y]))) else N zs Mz H3))
def og (wi:TI) (n:Nat) (LS:List Nat) (g:TG) (tt:TT) (te:TE):TE:=λU H Q=>wi U H λJ H1=>ul J n LS g tt te U H1 Q
variable {Os iter LR:Expr}{N3:List Expr}{pos:Pos}{n:Nat}{LS:List Nat}{wi:TI}{g:TG}{tt:TT}{te:TE}
theorem qj {J:It}{it:Addr}{tn:Nat->Heap->Prop}{Q:VK}{E:Value->Shared->Prop}{RR:Value->Addr->Result->Shared->Prop}(NG:X.calm=true) (S:CompSc X scope) (QQ:eX X.N Nc scope n LS=true)
  (hg:∀ C s₀ H₀ ex,PG (X.comp scope Nc C s₀ H₀ ex) LR g) (ht:∀ C s₀ H₀ ex,PTs (X.comp scope Nc C s₀ H₀ ex) N3 tt) (he:∀ C s₀ H₀ ex,PE (X.comp scope Nc C s₀ H₀ ex) Os te)
  (I:Inv X pins U H s) (T:Turn X.prog X.w X.K LR J fp it tn) (t0:tn 0 s.heap) (hf:∀ b∈fp,cH X pins H b) (hw:ul J n LS g tt te U H Q)
  (fin:∀ (D:Addr) (s':Shared) (H':Hp) (m:Str->Option Value),Inv X pins U H' s'->H' (s.heap.objs.size+1)=none->s'.heap.Ns (s.heap.objs.size+1) m->Q (.ref D) H'->RR (.ref D) (s.heap.objs.size+1) (.ok .next) s') :
  wpAny (model X.prog X.w) X.A (newList []) (λLQ P4=>wpAny (model X.prog X.w) X.A (newFunctionEnv scope X.env.globals (c5 scope X.env) [] X.env.qual none .none (some X.env)) (λcenv RO =>
   codeAny (model X.prog X.w) X.A (.compStart (.ListComp Os [⟨LR,iter,N3,0⟩] scope pos) 0 (.ref it) LQ { cenv with scope:=relabel scope X.env }) (RR LQ cenv.locals) RO) E P4) E s:=by
 refine wpAny_newObj_type (wpAny_newFunctionEnv S.nocell (by intro y hy;simp at hy) (λh₁ Pr Ot=>?_) S.kind)
 dsimp only at Pr Ot ⊢
 generalize hH2:s.heap.push { cls:=.type "list",dict:=none,data:=.seq ([]:List Value).toArray }=H2 at Pr Ot ⊢
 have hC:H2.objs.size=s.heap.objs.size+1:=by rw [<- hH2,Heap.size_push]
 rw [hC] at Pr Ot
 have RQ:∀ b∈fp,b<s.heap.objs.size:=λb hb=>by
  obtain ⟨o,e,_⟩:=T.obj _ _ t0 b hb
  exact Heap.lt_size e
 have old:∀ b o,s.heap.get? b=some o->h₁.get? b=some o:=λb o e=>Ot.extBut b o (Nat.ne_of_lt (Nat.lt_succ_of_lt (Heap.lt_size e))) (Heap.get?_push_of_some _ (hH2 ▸ Heap.get?_push_of_some _ e))
 have hD:h₁.get? s.heap.objs.size=some { cls:=.type "list",data:=.seq #[] 0 }:=Ot.extBut _ _ (Nat.ne_of_lt (Nat.lt_succ_self _)) (Heap.get?_push_of_some _ (hH2 ▸ Heap.get?_push_size _ rfl))
 have I0:Inv (X.comp scope Nc (s.heap.objs.size+1) s H fp) [] (fO n LS U) (upd H s.heap.objs.size (.lst [])) { s with heap:=h₁,toks:=s.toks+([]:List (Str×Value)).length } :=
  y7 I S QQ hf RQ Pr old hD
 replace I0:=I0.toAcc (D:=s.heap.objs.size) aK
 rw [jw] at I0
 obtain ⟨W,⟨m0,w0⟩,turn⟩:=hw s.heap.objs.size I.fresh
 have fr0:∀ b∈fp,upd H s.heap.objs.size (bX s.heap.objs.size []) b=none:=λb hb=>by
  rw [aG (Nat.ne_of_lt (RQ b hb))]
  exact (hf b hb).1
 have stat:∀ {H':Hp},(∀ b∈fp,H' b=none)->∀ b∈fp,cH (X.comp scope Nc (s.heap.objs.size+1) s H fp) [] H' b:=λhn b hb =>
  ⟨hn b hb,(λe=>Nat.ne_of_lt (Nat.lt_succ_of_lt (RQ b hb)) e),I0.ok.exfs b hb,.inl hb,(I0.ok.exf b hb).2,λp hp=>absurd (show p∈([]:List (Addr×Obj)) from hp) (by simp)⟩
 have loop:codeAny (model X.prog X.w) X.A (.compLoop (.ListComp Os [⟨LR,iter,N3,0⟩] scope pos) 0 (.ref it) (.ref s.heap.objs.size) (compEnvC scope (c5 scope X.env) (s.heap.objs.size+1) X.env))
   (RR (.ref s.heap.objs.size) (s.heap.objs.size+1)) { s with heap:=h₁,toks:=s.toks+([]:List (Str×Value)).length }:=by
  refine yG (λm s'=>∃ i zs LO H',Inv (X.comp scope Nc (s.heap.objs.size+1) s H fp) [] LO H' s'/\tn i s'.heap/\(∀ b∈fp,H' b=none)/\W i m zs LO H') ?_ m0
   ⟨0,_,_,_,I0,T.keep _ _ _ t0 λb _ o e=>old b o e,fr0,w0⟩
  rintro m s3 ⟨i,zs,RH,H3,I3,st3,fr3,w3⟩
  obtain ⟨hD3,w3'⟩:=turn i m zs RH H3 w3
  rcases w3' with ⟨stop,qn⟩|⟨go,N,hN,step⟩
  ·refine thn (T.done (X.comp scope Nc (s.heap.objs.size+1) s H fp) rfl rfl rfl NG i [] s3 RH H3 _ I3 (stat fr3) st3 stop) λr s4 ⟨hr,I4⟩=>?_
   subst hr
   obtain ⟨m4,hn4,_⟩:=I4.loc
   have I4':=I4.ofAcc hD3
   exact fin _ s4 _ m4 (zM I hf I4') I4'.free hn4 qn
  ·refine thn (T.item (X.comp scope Nc (s.heap.objs.size+1) s H fp) rfl rfl rfl NG i [] s3 RH H3 _ I3 (stat fr3) st3 go) λr s4 ⟨u,hr,h4⟩=>?_
   subst hr
   refine thn h4 λ_ s5 zz50=>?_
   obtain ⟨x,H5,I5,r5,y5,Ss,fr5⟩:=zz50
   have I5':=I5.pinned (stat fr5) (T.obj _ _ Ss)
   refine thn (hg _ _ _ _ _ s5 RH H5 x u _ I5' r5 (step x H5 y5)) λ_ s6 zz51=>?_
   obtain ⟨RM,H6,I6,q6⟩:=zz51
   refine thn (ht _ _ _ _ _ s6 RM H6 _ I6 q6) λok s7 zz52=>?_
   obtain ⟨H7,I7,q7⟩:=zz52
   have again:∀ {s8:Shared}{H8:Hp}{zs8:List V},Inv (X.comp scope Nc (s.heap.objs.size+1) s H fp) ([]++gU fp s5.heap) RM H8 s8->N zs8 RM H8 ->
     ∃ m',m'<m/\∃ i zs LO H',Inv (X.comp scope Nc (s.heap.objs.size+1) s H fp) [] LO H' s8/\tn i s8.heap/\(∀ b∈fp,H' b=none)/\W i m' zs LO H':=fun {s8 H8 zs8} I8 n8=>by
    obtain ⟨m',hm,w8⟩:=hN zs8 RM H8 n8
    refine ⟨m',hm,i+1,zs8,RM,H8,I8.unpinned,T.keep _ _ _ Ss λb hb o e=>(I8.pin (b,o) (List.mem_append_right _ (List.mem_append_right _ (jf hb e)))).1,λb hb=>?_,w8⟩
    obtain ⟨o,e,d⟩:=T.obj _ _ Ss b hb
    exact (I8.pin (b,o) (List.mem_append_right _ (List.mem_append_right _ (jf hb e)))).2.1
   cases ok with
   |false =>
    rw [if_neg Bool.false_ne_true] at q7 ⊢
    exact again I7 q7
   |true =>
    rw [if_pos rfl] at q7 ⊢
    refine thn (he _ _ _ _ _ s7 RM H7 _ I7 q7) λy s8 zz53=>?_
    obtain ⟨v8,H8,I8,r8,hz,hl,q8⟩:=zz53
    refine thn (qM _ s8 RM _ (.ref s.heap.objs.size) [v8] (.ref s.heap.objs.size) [y] (λ_ H9=>H9=upd H8 s.heap.objs.size (.lst (zs++[v8]))) (I8.ofAcc hz) rfl (.cons r8 .nil) ⟨_,zs,v8,rfl,rfl,aK,hl,by rw [jw]⟩) λ_ s9 zz54=>?_
    obtain ⟨_,H9,I9,_,q9⟩:=zz54
    subst q9
    have I9':=I9.toAcc (D:=s.heap.objs.size) aK
    rw [jw] at I9'
    exact again I9' q8
 have e2:({ newEnv scope H2.objs.size X.env.globals (c5 scope X.env) X.env.qual none .none (some X.env) builtinsNs with scope:=relabel scope X.env }:Env)=compEnvC scope (c5 scope X.env) (s.heap.objs.size+1) X.env:=by
  rw [hC];rfl
 have e3:(newEnv scope H2.objs.size X.env.globals (c5 scope X.env) X.env.qual none .none (some X.env) builtinsNs).locals=s.heap.objs.size+1:=hC
 rw [e2,e3]
 exact codeAny_compStart_list loop (T.self _ 0 _ _ _ (T.keep _ _ _ t0 λb _ o e=>old b o e) loop)
theorem AS (Nc:List Str) (n:Nat) (LS:List Nat) (NG:X.calm=true) (hi:PI X LR iter wi) (hg:∀ C s₀ H₀ ex,PG (X.comp scope Nc C s₀ H₀ ex) LR g) (ht:∀ C s₀ H₀ ex,PTs (X.comp scope Nc C s₀ H₀ ex) N3 tt)
  (he:∀ C s₀ H₀ ex,PE (X.comp scope Nc C s₀ H₀ ex) Os te) (Sz:fN X.env.scope scope=true:=by rfl) (QQ:eX X.N Nc scope n LS=true:=by rfl) (hs:∀ x,foldedSetIterable iter X.env x=pure x:=by intro _;rfl) :
  PE X (.ListComp Os [⟨LR,iter,N3,0⟩] scope pos) (og wi n LS g tt te):=by
 intro pins s U H Q I h
 have S:=qO Sz
 rw [eval_ListComp]
 refine wpAny_comprehension_free (use:=none) rfl hs (S.clos I.ok) S.kind S.loc (thn (hi pins s U H _ I h) λv s1 h1=>thn h1 λitv s2 h2=>?_)
 obtain ⟨it,fp,tn,J,H2,e,I2,T,t2,f2,hw⟩:=h2
 subst e
 refine qj (RR:=λLQ C=>compPost (model X.prog X.w) X.A X.xe none (EP X pins U Q) LQ C) NG S QQ hg ht he I2 T t2 f2 hw ?_
 intro D s' H' m I' hn RN q
 refine ⟨m,RN,λh' RJ=>⟨.ref D,H',?_,rfl,q⟩⟩
 refine I'.but RJ hn (Nat.le_trans I2.sz (Nat.le_succ _)) (λe=>?_) (λx c hc e=>?_) λp hp e=>?_
 ·exact Nat.ne_of_lt (Nat.lt_succ_of_lt I2.lt) e.symm
 ·obtain ⟨v,ic⟩:=I2.cell x c hc
  exact Nat.ne_of_lt (Nat.lt_succ_of_lt ic.lt) e
 ·exact Nat.ne_of_lt (Nat.lt_succ_of_lt (Heap.lt_size (I2.pin p hp).1)) e
theorem AT {i:Nat}{x:Str}{px Rc:Pos}(Nc:List Str) (n:Nat) (LS:List Nat) (NG:X.calm=true) (hN:X.N.Nodup) (hix:X.N[i]?=some x) (hx:Loc X.env.scope x) (hi:PI X LR iter wi) (hg:∀ C s₀ H₀ ex,PG (X.comp scope Nc C s₀ H₀ ex) LR g)
  (ht:∀ C s₀ H₀ ex,PTs (X.comp scope Nc C s₀ H₀ ex) N3 tt) (he:∀ C s₀ H₀ ex,PE (X.comp scope Nc C s₀ H₀ ex) Os te)
  (hsw:swapsWith (.ListComp Os [⟨LR,iter,N3,0⟩] scope pos) (some (.Name x px)) Rc.line X.env=pure true:=by rfl) (Sz:fN X.env.scope scope=true:=by rfl) (QQ:eX X.N Nc scope n LS=true:=by rfl)
  (hs:∀ x,foldedSetIterable iter X.env x=pure x:=by intro _;rfl) (hf:X.fn x=true\/X.env.scope.names.lookup x=some .local:=by first|exact .inl rfl|exact .inr rfl|assumption) :
  PS X (.Assign [.Name x px] (.ListComp Os [⟨LR,iter,N3,0⟩] scope pos) Rc) (gx (og wi n LS g tt te) (kf i)):=by
 intro pins s U H D I h
 have S:=qO Sz
 rw [exec_Assign_Name_used _ _ _ _ hsw]
 refine wpAny_bind (wpAny_standAt (wpAny_bind ?_))
 show wpAny _ X.A (do let _ <- comprehension (.ListComp Os [⟨LR,iter,N3,0⟩] scope pos) scope X.env _ (newList []) false (eval iter X.env) (some (assign (.Name x px) X.env))) _ _ s
 refine wpAny_bind (thn (wpAny_comprehension_free (use:=some (assign (.Name x px) X.env)) (Q:=λ_ s'=>SP X pins D .next s') rfl hs (S.clos I.ok) S.kind S.loc
  (thn (hi pins s U H _ I h) λv s1 h1=>thn h1 λitv s2 h2=>?_)) λ_ s' hq=>wpAny_pure (wpAny_pure hq))
 obtain ⟨it,fp,tn,J,H2,e,I2,T,t2,f2,hw⟩:=h2
 subst e
 refine qj (RR:=λLQ C=>compPost (model X.prog X.w) X.A X.xe (some (assign (.Name x px) X.env)) (λ_ s'=>SP X pins D .next s') LQ C) NG S QQ hg ht he I2 T t2 f2 hw ?_
 intro Da s' H' m I' hn RN q
 show wpAny _ X.A (assign (.Name x px) X.env (.ref Da)) _ _ s'
 obtain ⟨oC,es,ep,eo,ed,rC⟩:=id RN
 have nl:s2.heap.objs.size+1≠X.env.locals:=λe=>Nat.ne_of_lt (Nat.lt_succ_of_lt I2.lt) e.symm
 have nc:∀ y c,X.env.cells.lookup y=some c->c≠s2.heap.objs.size+1:=λy c hc e=>by
  obtain ⟨v,ic⟩:=I2.cell y c hc
  exact Nat.ne_of_lt (Nat.lt_succ_of_lt ic.lt) e
 have np:∀ p∈X.pn++pins,p.1≠s2.heap.objs.size+1:=λp hp e=>Nat.ne_of_lt (Nat.lt_succ_of_lt (Heap.lt_size (I2.pin p hp).1)) e
 have I3:Inv X (pins++[(s2.heap.objs.size+1,oC)]) U H' s':=I'.pins_of λp hp=>by
  rcases List.mem_append.mp hp with z|z
  ·exact I'.pin p (List.mem_append_right _ z)
  ·obtain rfl:p=(s2.heap.objs.size+1,oC):=by simpa using z
   refine ⟨eo,hn,nl,λhb=>?_,λv e=>?_⟩
   ·have h1:=I2.nofs (a:=s2.heap.objs.size+1) (Nat.le_succ _)
    exact h1 hb
   ·rw [ed] at e;cases e
 refine wpAny_assign_Name (mS I3 hN hix hx (u:=.ref Da) (v:=.ref Da) rfl (λs4 I4=>?_) hf)
 have g4:s4.heap.get? (s2.heap.objs.size+1)=some oC:=(I4.pin (s2.heap.objs.size+1,oC) (List.mem_append_right _ (List.mem_append_right _ (by simp)))).1
 refine ⟨m,⟨oC,es,ep,g4,ed,rC⟩,λh' RJ=>?_⟩
 exact ⟨_,H',I4.unpinned.but RJ hn (Nat.le_trans I2.sz (Nat.le_succ _)) nl nc np,q⟩
end
def wO (w:World) (od:Obj) (kvs:List (Key×V)):Prop:=kvs.length<=sizeLine/\∀ P:Program,∃ vs,KV kvs vs/\od.IsDictOf (aV P w) vs
noncomputable def fzH (w:World) (a:Addr) (od:Obj) (kvs:List (Key×V)):HO:=.ext λh=>h.get? a=some od/\wO w od kvs/\(a==sysModules)=false
theorem zR {P P':Program}{w:World}{es:List DictEntry}{vs:List (Key×Value)}(d:Pairs (aV P w) es vs):Pairs (aV P' w) es vs:=by
 induction d with
 |nil=>exact .nil
 |cons h1 h2 _ ih=>exact .cons h1 h2 ih
theorem iJ {α β:Type}{F:α->β->Prop}:∀ {l:List α}{m:List β}{i:Nat}{b:β},Paired F l m->m[i]?=some b->∃ a,l[i]?=some a/\F a b
 |_,_,_,_,.nil,e=>by simp at e
 |_,_,0,_,.cons h _,e=>by simp at e;subst e;exact ⟨_,rfl,h⟩
 |_,_,i+1,_,.cons _ t,e=>by
  obtain ⟨a,h1,h2⟩:=iJ (i:=i) t (by simpa using e)
  exact ⟨a,by simpa using h1,h2⟩
theorem CM {P P':Program}{w:World}{od:Obj}{vs:List (Key×Value)}(h:od.IsDictOf (aV P w) vs):od.IsDictOf (aV P' w) vs:=by
 obtain ⟨es,ep,a,b,c,d,e⟩:=h
 exact ⟨es,ep,a,b,c,zR d,e⟩
theorem nz:∀ {xs:List V}{us:List Value},xs.length=us.length->(∀ (j:Nat) x u,xs[j]?=some x->us[j]?=some u->aq x u)->am xs us
 |[],[],_,_=>.nil
 |[],_::_,h,_=>by simp at h
 |_::_,[],h,_=>by simp at h
 |x::xs,u::us,h,f=>.cons (f 0 x u rfl rfl) (nz (by simpa using h) λj y v e1 e2=>f (j+1) y v (by simpa using e1) (by simpa using e2))
section
variable {X:Cx}{pins:List (Addr×Obj)}{U:St}{H:Hp}{s:Shared}{a d:Addr}{od:Obj}{kvs:List (Key×V)}{k:Key}{y v:V}{u r:Value}{A:Around}{E:Value->Shared->Prop}
theorem o8 {P:Program}{w:World}{k:Key}{u:Value}(h:(aV P w).is k u=true):aq (kV k) u:=by
 rcases c7 h with ⟨i,t,rfl,rfl⟩|⟨x,t,rfl,rfl⟩
 ·exact ⟨t,rfl⟩
 ·exact ⟨t,rfl⟩
theorem Inv.toFz (I:Inv X pins U H s) (e:H a=some (.dK kvs)):∃ od,Inv X pins U (upd H a (fzH X.w a od kvs)) s:=by
 obtain ⟨z,hd,vs,rel,dd⟩:=fZ I.hok e
 obtain ⟨od,ho,hio⟩:=Heap.dictOf_iff.mp dd
 obtain ⟨hh,g,dr,t,os⟩:=s
 refine ⟨od,I.write (t':=t) (h':=hh) (x:=a) (e:=a) (by rw [e];trivial) (.inl rfl) (λb u _ q=>q) ⟨_,ho⟩ ⟨⟨ho,⟨z,λP=>⟨vs,rel,CM hio⟩⟩,hd⟩,⟨_,ho⟩,λh1 h2 p k=>⟨k _ p.1,p.2⟩⟩⟩
theorem dZ (I:Inv X pins U H s) (e:H a=some (fzH X.w a od kvs)):s.heap.get? a=some od/\wO X.w od kvs/\(a==sysModules)=false:=(I.hok a _ e).1
theorem Inv.ofFz (I:Inv X pins U H s) (e:H a=some (fzH X.w a od kvs)):Inv X pins U (upd H a (.dK kvs)) s:=by
 obtain ⟨ho,⟨z,dz⟩,hd⟩:=dZ I e
 obtain ⟨vs,rel,dd⟩:=dz X.prog
 obtain ⟨hh,g,dr,t,os⟩:=s
 exact I.write (t':=t) (h':=hh) (x:=a) (e:=a) (by rw [e];trivial) (.inl rfl) (λb u _ q=>q) ⟨_,ho⟩ ⟨z,hd,vs,rel,Heap.dictOf_iff.mpr ⟨od,ho,dd⟩⟩
def RdK (w:World) (H:Hp) (a:Addr) (kvs:List (Key×V)):Prop:=H a=some (.dK kvs)\/∃ od,H a=some (fzH w a od kvs)
theorem rdK (I:Inv X pins U H s) (e:RdK X.w H a kvs):kvs.length<=sizeLine/\(a==sysModules)=false/\∃ vs,KV kvs vs/\s.heap.DictOf (aV X.prog X.w) a vs:=by
 rcases e with e|⟨od,e⟩
 ·exact fZ I.hok e
 ·obtain ⟨ho,⟨z,dz⟩,hd⟩:=dZ I e
  obtain ⟨vs,rel,dd⟩:=dz X.prog
  exact ⟨z,hd,vs,rel,Heap.dictOf_iff.mpr ⟨od,ho,dd⟩⟩
theorem zS {Q:Value->Shared->Prop}(I:Inv X pins U H s) (g:RdK X.w H a kvs) (l:bg kvs k=some v) (ry:aq (kV k) u) (h:∀ w' s',Inv X pins U H s'->aq v w'->Q w' s'):wpAny (model X.prog X.w) A (getItem (.ref a) u) Q E s:=by
 obtain ⟨z,hd,vs,rel,dd⟩:=rdK I g
 obtain ⟨w',hw,OW⟩:=bB.some_of (v:=v) (o:=valueAt vs k) (by rw [<- l];exact rel.val k)
 exact wpAny_getItem_of (dI ry) dd.mapOf hw (h w' _ (I.tok _) OW)
theorem KS {Q:Value->Shared->Prop}(I:Inv X pins U H s) (g:RdK X.w H a kvs) (ry:aq (kV k) u) (h:∀ s',Inv X pins U H s'->Q (.bool (bg kvs k).isSome) s'):wpAny (model X.prog X.w) A (compareOp .In u (.ref a)) Q E s:=by
 obtain ⟨z,hd,vs,rel,dd⟩:=rdK I g
 refine wpAny_in_of (dI ry) hd dd.mapOf ?_
 rw [<- (rel.val k).isSome_eq]
 exact h _ (I.tok _)
theorem CN {Q:Value->Shared->Prop}(I:Inv X pins U H s) (g:RdK X.w H a kvs) (ry:aq (kV k) u) (h:∀ s',Inv X pins U H s'->Q (.bool (!(bg kvs k).isSome)) s'):wpAny (model X.prog X.w) A (compareOp .NotIn u (.ref a)) Q E s:=by
 obtain ⟨z,hd,vs,rel,dd⟩:=rdK I g
 refine wpAny_notIn_of (dI ry) hd dd.mapOf ?_
 rw [<- (rel.val k).isSome_eq]
 exact h _ (I.tok _)
theorem KU (I:Inv X pins U H s) (g:RdK X.w H a kvs):s.TypeIs (.ref a) "dict" /\ ∀ b,Value.ref a=.ref b->∃ ob,s.heap.get? b=some ob/\ob.dict=none:=by
 obtain ⟨z,hd,vs,rel,dd⟩:=rdK I g
 refine ⟨dd.typeIs,λb q=>?_⟩
 cases q
 obtain ⟨ob,_,_,h1,h2,_⟩:=dd
 exact ⟨ob,h1,h2.2.1⟩
def ItK (w:World) (d:Addr) (od:Obj) (kvs:List (Key×V)):It :=
 ⟨λi H=>H d=some (fzH w d od kvs)/\i<kvs.length,λi H x H'=>H'=H/\∃ kv,kvs[i]?=some kv/\x=kV kv.1,λi H=>H d=some (fzH w d od kvs)/\kvs.length<=i⟩
theorem zT {P:Program}{w:World}{K:PySem.W.Frag}{tg:Expr}{vs:List (Key×Value)}{ep:Nat}(d it:Addr) (od:Obj) (kvs:List (Key×V)) (rel:KV kvs vs) (Oq:d≠it) (Re:∀ h:Heap,h.get? d=some od->h.DictAt (aV P w) d vs ep) :
  Turn P w K tg (ItK w d od kvs) [it] it (λi h=>h.IsKeyIter it d i vs.length ep) where
 mem:=by simp
 obj:=λi h st b hb=>by
  obtain rfl:b=it:=by simpa using hb
  obtain ⟨o,e,c,dd⟩:=st
  exact ⟨o,e,λv z=>by rw [dd] at z;cases z⟩
 keep:=λi h h' st k=>by
  obtain ⟨o,e,c⟩:=st
  exact ⟨o,k it (by simp) o e,c⟩
 item:=by
  rintro X hP hw hK hc i pins s U H E I hf st ⟨hg,hi⟩
  subst hP hw hK
  have hl:i<vs.length:=by rw [<- rel.length];exact hi
  obtain ⟨⟨k,x⟩,hx⟩:∃ p,vs[i]?=some p:=⟨vs[i],by simp [hl]⟩
  obtain ⟨f0,f1,f2,f3,f4,f5⟩:=hf it (by simp)
  refine wpAny_pyNext_dict_item st (Re _ (dZ I hg).1) hx λkey h' Q8 P3 sb=>?_
  have I1:Inv X pins U H { s with heap:=h' }:=I.turned (t':=s.toks) (λb o hb e=>(sb.2 b hb).trans e) f0 f1 f3 f4 f5
  obtain ⟨o,e,c,dd⟩:=id P3
  have ek:∃ kv,kvs[i]?=some kv/\kv.1=k:=by
   have q:=congrArg (λl=>l[i]?) rel.keys
   simp only [List.getElem?_map,hx,Option.map_some] at q
   cases z:kvs[i]? with
   |none=>rw [z] at q;cases q
   |some kv=>rw [z] at q;simp only [Option.map_some,Option.some.injEq] at q;exact ⟨kv,rfl,q⟩
  obtain ⟨kv,e1,e2⟩:=ek
  refine ⟨key,rfl,kg (s:={ s with heap:=h' }) e c dd (by decide) ⟨kV kv.1,H,I1,by rw [e2];exact o8 Q8,⟨rfl,kv,e1,rfl⟩,P3,λb hb=>(hf b hb).1⟩⟩
 done:=by
  rintro X hP hw hK hc i pins s U H E I hf st ⟨hg,hi⟩
  subst hP hw hK
  obtain ⟨f0,f1,f2,f3,f4,f5⟩:=hf it (by simp)
  refine wpAny_pyNext_dict_end (I.ok.hd hc) st (Re _ (dZ I hg).1) (List.getElem?_eq_none (by rw [<- rel.length];exact hi)) λh' eb=>⟨rfl,I.turned (t':=s.toks) (λb o hb e=>eb b o hb e) f0 f1 f3 f4 f5⟩
 self:=λ_ _ _ _ _ st h=>wpAny_pyIter_keyiter st h
def tiK (w:World) (te:TE):TI:=λU H R=>te U H λx H1=>∃ d kvs,x=.ref d/\H1 d=some (.dK kvs)/\∀ od,R (ItK w d od kvs) (upd H1 d (fzH w d od kvs))
theorem CO {tg e:Expr}{te:TE}(he:PE X e te):PI X tg e (tiK X.w te):=by
 intro pins s U H R I h
 refine thn (he pins s U H _ I h) λv s1 zz55=>?_
 obtain ⟨x,H1,I1,r1,d,kvs,ex,ed,hR⟩:=zz55
 subst ex
 cases (show v=Value.ref d from r1)
 obtain ⟨od,I2⟩:=I1.toFz ed
 obtain ⟨ho,⟨z,dz⟩,hd⟩:=dZ I2 aK
 obtain ⟨vs,rel,es,ep,q1,q2,q3,q4,q5⟩:=dz X.prog
 have at_:∀ h:Heap,h.get? d=some od->h.DictAt (aV X.prog X.w) d vs ep:=λh e=>⟨od,es,e,q1,q2,q3,q4,q5⟩
 refine wpAny_pyIter_dict hd (at_ _ ho) ?_
 have RQ:d<s1.heap.objs.size:=Heap.lt_size ho
 have I3:Inv X pins U (upd H1 d (fzH X.w d od kvs)) { s1 with heap:=s1.heap.push { cls:=.type "dict_keyiterator",data:=.fields #[.ref d,.int 0 0,.int vs.length 0,.int ep 0] } }:=I2.kept (t':=s1.toks) λb u e=>Heap.get?_push_of_some _ e
 refine ⟨s1.heap.objs.size,[s1.heap.objs.size],_,_,_,rfl,I3,zT d _ od kvs rel (Nat.ne_of_lt RQ) at_,⟨_,Heap.get?_push_size _ rfl,rfl,rfl⟩,λb hb=>?_,hR od⟩
 obtain rfl:b=s1.heap.objs.size:=by simpa using hb
 exact I2.fpOk (Nat.le_refl _) (I2.hok.fresh (Nat.le_refl _))
def ig (p d:Addr):HO:=.ext λh=>h.get? p=some { cls:=.type "dict_items",data:=.fields #[.ref d] }
def FC (w:World):V->List V->Hp->VK->Prop:=λx xs H Q=>∃ d kvs,x=.ref d/\xs=[]/\H d=some (.dK kvs)/\∀ p,H p=none->Q (.ref p) (upd H p (ig p d))
theorem AU:MtR X "dict.items" (FC X.w):=by
 rintro pins s U H x xs v us Q I rx rs ⟨d,kvs,ex,exs,ed,q⟩
 subst ex exs
 cases rs
 cases (show v=Value.ref d from rx)
 obtain ⟨z,hd,vs,rel,dd⟩:=fZ I.hok ed
 refine call_meetsIn PySem.F.slot_dict_items dd.typeIs PySem.F.entry_dict_items (PySem.F.args_dict_items_1 _) (meets_dict_items (aV X.prog X.w) d hd) ⟨⟨vs,dd⟩,?_⟩
 refine ⟨.ref s.heap.objs.size,_,I.laid (o:=ig s.heap.objs.size d) (t':=s.toks) (λb u e=>Heap.get?_push_of_some _ e) (Nat.le_refl _) ⟨Heap.get?_push_size _ rfl,⟨_,Heap.get?_push_size _ rfl⟩,λh1 h2 p k=>k _ p⟩,rfl,q _ (I.hok.fresh (Nat.le_refl _))⟩
def ItP (w:World) (d:Addr) (od:Obj) (kvs:List (Key×V)):It :=
 ⟨λi H=>H d=some (fzH w d od kvs)/\i<kvs.length,λi H x H'=>∃ p kv,kvs[i]?=some kv/\H p=none/\x=.ref p/\H'=upd H p (.tup [kV kv.1,kv.2]),λi H=>H d=some (fzH w d od kvs)/\kvs.length<=i⟩
theorem y8 {P:Program}{w:World}{K:PySem.W.Frag}{Qn:List Expr}{x1:Nat}{NP:Pos}{vs:List (Key×Value)}{ep:Nat}(d it:Addr) (od:Obj) (kvs:List (Key×V)) (rel:KV kvs vs) (Oq:d≠it) (Re:∀ h:Heap,h.get? d=some od->h.DictAt (aV P w) d vs ep) :
  Turn P w K (.Tuple Qn x1 NP) (ItP w d od kvs) [it] it (λi h=>∃ ok ov,IsItemIter h it d i vs.length ep ok ov) where
 mem:=by simp
 obj:=λi h st b hb=>by
  obtain rfl:b=it:=by simpa using hb
  obtain ⟨ok,ov,e⟩:=st
  exact ⟨_,e,λv z=>by cases z⟩
 keep:=λi h h' zz56 k=>by obtain ⟨ok,ov,e⟩:=zz56;exact ⟨ok,ov,k it (by simp) _ e⟩
 item:=by
  rintro X hP hw hK hc i pins s U H E I hf ⟨ok,ov,st⟩ ⟨hg,hi⟩
  subst hP hw hK
  have hl:i<vs.length:=by rw [<- rel.length];exact hi
  obtain ⟨⟨k,x⟩,hx⟩:∃ p,vs[i]?=some p:=⟨vs[i],by simp [hl]⟩
  obtain ⟨f0,f1,f2,f3,f4,f5⟩:=hf it (by simp)
  refine wpAny_pyNext_items_item st (Re _ (dZ I hg).1) hx λkey h' Q8 P3 ht hsz sb=>?_
  refine ⟨_,rfl,wpAny_letOwnedTupleGo_items P3 λh2 st2 sb2=>?_⟩
  have RT:it<s.heap.objs.size:=Heap.lt_size st
  obtain ⟨kv,e1,e2,e3⟩:∃ kv,kvs[i]?=some kv/\kv.1=k/\aq kv.2 x:=by
   obtain ⟨kv,z1,z2⟩:=iJ rel hx
   exact ⟨kv,z1,z2.1,z2.2⟩
  have ht2:h2.get? s.heap.objs.size=some { cls:=.type "tuple",data:=.seq #[key,x] }:=(sb2.2 _ (Nat.ne_of_gt RT)).trans ht
  have Im:Inv X pins U (upd H s.heap.objs.size (.tup [kV kv.1,kv.2])) { s with heap:=s.heap.push { cls:=.type "tuple",data:=.seq #[key,x] },toks:=s.toks } :=
   I.laid (t':=s.toks) (λb u e=>Heap.get?_push_of_some _ e) (Nat.le_refl _) ⟨by show 2<=sizeLine;decide,[key,x],.cons (by rw [e2];exact o8 Q8) (.cons e3 .nil),⟨_,Heap.get?_push_size _ rfl,rfl,_,rfl⟩⟩
  have I2:Inv X pins U (upd H s.heap.objs.size (.tup [kV kv.1,kv.2])) { s with heap:=h2 }:=by
   refine Im.turned (t':=s.toks) (λb o hb e=>?_) (by rw [aG (Nat.ne_of_lt RT)];exact f0) f1 f3 f4 f5
   by_cases hbs:b=s.heap.objs.size
   ·subst hbs
    rw [show ({ s with heap:=s.heap.push { cls:=.type "tuple",data:=.seq #[key,x] },toks:=s.toks }:Shared).heap.get? s.heap.objs.size=some { cls:=.type "tuple",data:=.seq #[key,x] } from Heap.get?_push_size _ rfl] at e
    cases e;exact ht2
   ·exact (sb2.2 b hb).trans (sb b o hb (by rw [<- Heap.get?_push_ne _ _ _ hbs];exact e))
  refine ⟨.ref s.heap.objs.size,_,I2,rfl,⟨s.heap.objs.size,kv,e1,I.hok.fresh (Nat.le_refl _),rfl,rfl⟩,⟨_,_,st2⟩,λb hb=>?_⟩
  obtain rfl:b=it:=by simpa using hb
  rw [aG (Nat.ne_of_lt RT)];exact f0
 done:=by
  rintro X hP hw hK hc i pins s U H E I hf ⟨ok,ov,st⟩ ⟨hg,hi⟩
  subst hP hw hK
  obtain ⟨f0,f1,f2,f3,f4,f5⟩:=hf it (by simp)
  refine wpAny_pyNext_items_end (I.ok.hd hc) st (Re _ (dZ I hg).1) (List.getElem?_eq_none (by rw [<- rel.length];exact hi)) λh' eb=>⟨rfl,I.turned (t':=s.toks) (λb o hb e=>eb b o hb e) f0 f1 f3 f4 f5⟩
 self:=λA i s Q E zz57 h=>by obtain ⟨ok,ov,st⟩:=zz57;exact PySem.W.kcp_self st h
def tiP (w:World) (te:TE):TI:=λU H R=>te U H λx H1=>∃ p d kvs,x=.ref p/\H1 p=some (ig p d)/\H1 d=some (.dK kvs)/\∀ od,R (ItP w d od kvs) (upd H1 d (fzH w d od kvs))
theorem AV {e:Expr}{te:TE}{Qn:List Expr}{x1:Nat}{NP:Pos}(he:PE X e te):PI X (.Tuple Qn x1 NP) e (tiP X.w te):=by
 intro pins s U H R I h
 refine thn (he pins s U H _ I h) λv s1 zz58=>?_
 obtain ⟨x,H1,I1,r1,p,d,kvs,ex,ep,ed,hR⟩:=zz58
 subst ex
 cases (show v=Value.ref p from r1)
 have hv:s1.heap.get? p=some { cls:=.type "dict_items",data:=.fields #[.ref d] }:=(I1.hok p _ ep).1
 obtain ⟨od,I2⟩:=I1.toFz ed
 obtain ⟨ho,⟨z,dz⟩,hd⟩:=dZ I2 aK
 obtain ⟨vs,rel,es,ep',q1,q2,q3,q4,q5⟩:=dz X.prog
 have at_:∀ h:Heap,h.get? d=some od->h.DictAt (aV X.prog X.w) d vs ep':=λh e=>⟨od,es,e,q1,q2,q3,q4,q5⟩
 refine wpAny_pyIter_items ⟨_,hv,rfl,rfl⟩ (at_ _ ho) ?_
 have RQ:d<s1.heap.objs.size:=Heap.lt_size ho
 have I3:Inv X pins U (upd H1 d (fzH X.w d od kvs)) { s1 with heap:=s1.heap.push { cls:=.type "dict_itemiterator",data:=.fields #[.none,.bool false,.ref d,.int 0 0,.int vs.length 0,.int ep' 0,.none,.none] } }:=I2.kept (t':=s1.toks) λb u e=>Heap.get?_push_of_some _ e
 refine ⟨s1.heap.objs.size,[s1.heap.objs.size],_,_,_,rfl,I3,y8 d _ od kvs rel (Nat.ne_of_lt RQ) at_,⟨.none,.none,Heap.get?_push_size _ rfl⟩,λb hb=>?_,hR od⟩
 obtain rfl:b=s1.heap.objs.size:=by simpa using hb
 exact I2.fpOk (Nat.le_refl _) (I2.hok.fresh (Nat.le_refl _))
theorem FD {Q:VK}(hc:X.calm=true) (I:Inv X pins U H s) (g:RdK X.w H a kvs) (h:∀ p,H p=none->Q (.ref p) (upd H p (.lst (kvs.map λkv=>kV kv.1)))):wpAny (model X.prog X.w) X.A (call (.type "list") [.ref a]) (EP X pins U Q) X.xe s:=by
 obtain ⟨z,hd,vs,rel,dd⟩:=rdK I g
 obtain ⟨ep,da⟩:=dd.dictAt
 have hl:=rel.length
 refine PySem.W.kdl_call (PySem.W.kdl_dict (knd:=aV X.prog X.w) (kvs:=vs) (ep:=ep) hd) (I.ok.hd hc) da (by omega) λh' tk LQ c hk ho hi=>?_
 have hv:am (kvs.map λkv=>kV kv.1) LQ.toList:=by
  refine nz (by rw [List.length_map,hl];have:=hi.1;simpa using this.symm) λj x u e1 e2=>?_
  obtain ⟨k,y,q1,q2⟩:=hi.2 j u (by rw [<- Array.getElem?_toList];exact e2)
  obtain ⟨kv,z1,z2⟩:=iJ rel q1
  rw [List.getElem?_map,z1] at e1
  cases e1
  show aq (kV kv.1) u
  rw [z2.1];exact o8 q2
 exact ⟨.ref s.heap.objs.size,_,I.laid (o:=.lst (kvs.map λkv=>kV kv.1)) (t':=tk) (λb u e=>hk b u e) (Nat.le_refl _) ⟨by rw [List.length_map];exact z,LQ.toList,c,hv,by simpa using ho⟩,rfl,h _ (I.hok.fresh (Nat.le_refl _))⟩
def Iy (w:World) (td ty:TE):TE:=λU H Q=>td U H λx H1=>ty U H1 λy H2=>∃ a kvs k v,x=.ref a/\RdK w H2 a kvs/\y=kV k/\bg kvs k=some v/\Q v H2
theorem CP {o i:Expr}{pos:Pos}{td ty:TE}(ho:PE X o td) (hi:PE X i ty) (hs:fe i):PE X (.Subscript o i pos) (Iy X.w td ty):=by
 intro pins s U H Q I h
 refine sH PySem.F.slot_dict_getitem.lookup hs (thn (ho pins s U H _ I h) λu s1 zz59=>?_)
 obtain ⟨x,H1,I1,rx,q1⟩:=zz59
 refine thn (hi pins s1 U H1 _ I1 q1) λiv s2 zz60=>?_
 obtain ⟨y,H2,I2,ry,a,kvs,k,v,ex,g,ey,l,q2⟩:=zz60
 subst ex ey
 obtain rfl:u=Value.ref a:=rx
 exact ⟨(KU I2 g).1,zS I2 g l ry λw' s3 I3 OW=>⟨v,H2,I3,OW,q2⟩⟩
def Iz:V->List V->Hp->VK->Prop:=λx xs H Q=>∃ d kvs k v,x=.ref d/\xs=[kV k]/\H d=some (.dK kvs)/\bg kvs k=some v/\Q v (upd H d (.dK (eY kvs k)))
theorem CQ:MtR X "dict.pop" Iz:=by
 rintro pins s U H x xs v us Q I rx rs ⟨d,kvs,k,v',ex,exs,ed,l,q⟩
 subst ex exs
 obtain ⟨u,rfl,ru⟩:=bV rs
 cases (show v=Value.ref d from rx)
 exact Iu I ed ru l (.inl rfl) λw' s' I' OW=>⟨v',_,I',OW,q⟩
theorem PE.unf {e:Expr}{t:TE}(h:PE X e t):PE X e (λU H Q=>t U H λv H'=>∃ d od kvs,H' d=some (fzH X.w d od kvs)/\Q v (upd H' d (.dK kvs))):=λpins s U H Q I q =>
 thn (h pins s U H _ I q) λu s' zz61=>by obtain ⟨v,H',I',r,d,od,kvs,e,q'⟩:=zz61;exact ⟨v,_,I'.ofFz e,r,q'⟩
theorem PS.unf {st:Stmt}{t:TS}(h:PS X st t):PS X st (λD U H=>t { D with nx:=λLO H'=>∃ d od kvs,H' d=some (fzH X.w d od kvs)/\D.nx LO (upd H' d (.dK kvs)) } U H):=λpins s U H D I q =>
 thn (h pins s U H _ I q) λfl s' sp=>by
  cases fl with
  |next =>
   obtain ⟨LO,H',I',d,od,kvs,e,q'⟩:=sp
   exact ⟨LO,_,I'.ofFz e,q'⟩
  |brk=>exact sp
  |cont=>exact sp
  |ret u=>exact sp
end
end L2
namespace T2
open PySem L2
inductive T where
 |non|bl (b:Bool)|int (i:Int)|str (x:Str)|tup (ts:List T)|lst (ts:List T)|scr (ns:List Int)|ref (a:Addr)|ty (n:String)
inductive O where
 |lst (ts:List T)|dK (kvs:List (Key×T))|dT (kvs:List (List Key×T))|ins (C:Addr) (fs:List (Str×T))
  |fK (w:World) (od:Obj) (vs:List (Key×V)) (kvs:List (Key×T))
abbrev Sto:=Addr->Option O
noncomputable def put (S:Sto) (a:Addr) (o:O):Sto:=λb=>if b=a then some o else S b
theorem aF {S:Sto}{a:Addr}{o:O}:put S a o a=some o:=by unfold put;rw [if_pos rfl]
theorem aA {S:Sto}{a b:Addr}{o:O}(h:b≠a):put S a o b=S b:=by unfold put;rw [if_neg h]
theorem bM {S:Sto}{a:Addr}{o u:O}:put (put S a o) a u=put S a u:=by
 funext b;unfold put;split<;>rfl
abbrev Fg:=PySem.W.Frag
def Scr (K:Fg) (H:Hp) (S:Sto) (p:Addr) (ns:List Int):Prop:=(S p=none/\∃ o,H p=some (.frz o (.lst (ns.map V.int))))\/SqL K (λ_=>none) p (ns.map V.int)
mutual
inductive Rp (K:Fg) (H:Hp) (S:Sto):T->V->Prop
 |non:Rp K H S .non .non
 |bl {b}:Rp K H S (.bl b) (.bl b)
 |int {i}:Rp K H S (.int i) (.int i)
 |str {x}:Rp K H S (.str x) (.str x)
 |ty {n}:Rp K H S (.ty n) (.ty n)
 |ref {a}:Rp K H S (.ref a) (.ref a)
 |tup {p ts vs}:S p=none->H p=some (.tup vs)->Rps K H S ts vs->Rp K H S (.tup ts) (.ref p)
 |lst {p ts vs}:S p=none->H p=some (.lst vs)->Rps K H S ts vs->Rp K H S (.lst ts) (.ref p)
 |scr {p ns}:Scr K H S p ns->Rp K H S (.scr ns) (.ref p)
inductive Rps (K:Fg) (H:Hp) (S:Sto):List T->List V->Prop
 |nil:Rps K H S [] []
 |cons {t v ts vs}:Rp K H S t v->Rps K H S ts vs->Rps K H S (t::ts) (v::vs)
end
def Fr (H:Hp) (S:Sto) (H':Hp) (S':Sto):Prop:=∀ a o,H a=some o->S a=none->H' a=some o/\S' a=none
theorem Fr.refl {H S}:Fr H S H S:=λ_ _ h n=>⟨h,n⟩
theorem Fr.trans {H S H1 S1 H2 S2}(f:Fr H S H1 S1) (g:Fr H1 S1 H2 S2):Fr H S H2 S2:=λa o h n=>by
 obtain ⟨h1,n1⟩:=f a o h n
 exact g a o h1 n1
section
variable {K:Fg}{H H':Hp}{S S':Sto}
theorem Scr.fr {p ns}(h:Scr K H S p ns) (f:Fr H S H' S'):Scr K H' S' p ns:=by
 rcases h with ⟨n,o,e⟩|h
 ·obtain ⟨e',n'⟩:=f p _ e n
  exact .inl ⟨n',o,e'⟩
 ·exact .inr h
theorem Scr.sq {p ns}(h:Scr K H S p ns):SqL K H p (ns.map V.int):=by
 rcases h with ⟨_,o,e⟩|h
 ·exact .inl (.inr ⟨o,e⟩)
 ·rcases h with (h|⟨o,h⟩)|h
  ·cases h
  ·cases h
  ·exact .inr h
mutual
theorem Rp.fr (f:Fr H S H' S'):∀ {t v},Rp K H S t v->Rp K H' S' t v
 |_,_,.non=>.non
 |_,_,.bl=>.bl
 |_,_,.int=>.int
 |_,_,.str=>.str
 |_,_,.ty=>.ty
 |_,_,.ref=>.ref
 |_,_,.tup n h r=>.tup (f _ _ h n).2 (f _ _ h n).1 (Rps.fr f r)
 |_,_,.lst n h r=>.lst (f _ _ h n).2 (f _ _ h n).1 (Rps.fr f r)
 |_,_,.scr h=>.scr (h.fr f)
theorem Rps.fr (f:Fr H S H' S'):∀ {ts vs},Rps K H S ts vs->Rps K H' S' ts vs
 |_,_,.nil=>.nil
 |_,_,.cons a b=>.cons (Rp.fr f a) (Rps.fr f b)
end
theorem Rps.length:∀ {ts vs},Rps K H S ts vs->vs.length=ts.length
 |_,_,.nil=>rfl
 |_,_,.cons _ b=>by simp [Rps.length b]
theorem Rps.append:∀ {ts vs us ws},Rps K H S ts vs->Rps K H S us ws->Rps K H S (ts++us) (vs++ws)
 |_,_,_,_,.nil,r=>r
 |_,_,_,_,.cons a b,r=>.cons a (Rps.append b r)
theorem Rps.drop:∀ {ts vs}(n:Nat),Rps K H S ts vs->Rps K H S (ts.drop n) (vs.drop n)
 |_,_,0,r=>r
 |_,_,_+1,.nil=>.nil
 |_,_,n+1,.cons _ b=>Rps.drop n b
theorem Rps.take:∀ {ts vs}(n:Nat),Rps K H S ts vs->Rps K H S (ts.take n) (vs.take n)
 |_,_,0,_=>.nil
 |_,_,_+1,.nil=>.nil
 |_,_,n+1,.cons a b=>.cons a (Rps.take n b)
theorem Rps.set {t v}(r:Rp K H S t v):∀ {ts vs}(i:Nat),Rps K H S ts vs->Rps K H S (ts.set i t) (vs.set i v)
 |_,_,_,.nil=>.nil
 |_,_,0,.cons _ b=>.cons r b
 |_,_,i+1,.cons a b=>.cons a (Rps.set r i b)
theorem Rps.get:∀ {ts vs}{i:Nat}{t},Rps K H S ts vs->ts[i]?=some t->∃ v,vs[i]?=some v/\Rp K H S t v
 |_,_,_,_,.nil,e=>by simp at e
 |_,_,0,_,.cons a _,e=>by simp at e;subst e;exact ⟨_,rfl,a⟩
 |_,_,i+1,_,.cons _ b,e=>by
  obtain ⟨v,h1,h2⟩:=Rps.get (i:=i) b (by simpa using e)
  exact ⟨v,by simpa using h1,h2⟩
theorem Rps.getV:∀ {ts vs}{i:Nat}{v},Rps K H S ts vs->vs[i]?=some v->∃ t,ts[i]?=some t/\Rp K H S t v
 |_,_,_,_,.nil,e=>by simp at e
 |_,_,0,_,.cons a _,e=>by simp at e;subst e;exact ⟨_,rfl,a⟩
 |_,_,i+1,_,.cons _ b,e=>by
  obtain ⟨v,h1,h2⟩:=Rps.getV (i:=i) b (by simpa using e)
  exact ⟨v,by simpa using h1,h2⟩
theorem Rps.ints {ns:List Int}:Rps K H S (ns.map T.int) (ns.map V.int):=by
 induction ns with
 |nil=>exact .nil
 |cons a l ih=>exact .cons .int ih
theorem Rps.strs {ns:List Str}:Rps K H S (ns.map T.str) (ns.map V.str):=by
 induction ns with
 |nil=>exact .nil
 |cons a l ih=>exact .cons .str ih
end
inductive ORp (K:Fg) (H:Hp) (S:Sto) (a:Addr):O->Prop
 |lst {ts vs}:H a=some (.lst vs)->Rps K H S ts vs->ORp K H S a (.lst ts)
 |dK {kvs kts}:H a=some (.dK kvs)->Paired (λ(p:Key×T) (q:Key×V)=>p.1=q.1/\Rp K H S p.2 q.2) kts kvs->ORp K H S a (.dK kts)
 |dT {kvs kts}:H a=some (.dT kvs)->Paired (λ(p:List Key×T) (q:List Key×V)=>p.1=q.1/\Rp K H S p.2 q.2) kts kvs->ORp K H S a (.dT kts)
 |fK {w od kvs kts}:H a=some (fzH w a od kvs)->Paired (λ(p:Key×T) (q:Key×V)=>p.1=q.1/\Rp K H S p.2 q.2) kts kvs->ORp K H S a (.fK w od kvs kts)
 |ins {C dx fs fts}:H a=some (.ins C dx fs)->Paired (λ(p:Str×T) (q:Str×V)=>p.1=q.1/\Rp K H S p.2 q.2) fts fs->ORp K H S a (.ins C fts)
section
variable {K:Fg}{H:Hp}{S:Sto}{v:V}{a:Addr}
theorem Rp.iint {i:Int}(r:Rp K H S (.int i) v):v=.int i:=by cases r;rfl
theorem Rp.istr {x:Str}(r:Rp K H S (.str x) v):v=.str x:=by cases r;rfl
theorem Rp.itup {ts:List T}(r:Rp K H S (.tup ts) v):∃ p vs,v=.ref p/\H p=some (.tup vs)/\Rps K H S ts vs:=by cases r with|tup n h p=>exact ⟨_,_,rfl,h,p⟩
end
def SRp (K:Fg) (H:Hp) (S:Sto):Prop:=∀ a o,S a=some o->ORp K H S a o
section
variable {K:Fg}{H H':Hp}{S S':Sto}{a:Addr}{o:O}
theorem ORp.some (r:ORp K H S a o):∃ u,H a=some u:=by cases r<;>exact ⟨_,‹_›⟩
theorem SRp.fresh (s:SRp K H S) (h:H a=none):S a=none:=by
 cases e:S a with
 |none=>rfl
 |some o=>obtain ⟨u,q⟩:=(s a o e).some;rw [h] at q;cases q
theorem ORp.fr (r:ORp K H S a o) (f:Fr H S H' S') (h:H' a=H a):ORp K H' S' a o:=by
 cases r with
 |lst e q=>exact .lst (h.trans e) (q.fr f)
 |dK e q=>exact .dK (h.trans e) (Paired.mapP q λ_ _ z=>⟨z.1,z.2.fr f⟩)
 |dT e q=>exact .dT (h.trans e) (Paired.mapP q λ_ _ z=>⟨z.1,z.2.fr f⟩)
 |fK e q=>exact .fK (h.trans e) (Paired.mapP q λ_ _ z=>⟨z.1,z.2.fr f⟩)
 |ins e q=>exact .ins (h.trans e) (Paired.mapP q λ_ _ z=>⟨z.1,z.2.fr f⟩)
theorem Fr.new {p:Addr}{u:HO}(h:H p=none):Fr H S (upd H p u) S:=λa o e n=>⟨by rw [aG (bL e h)];exact e,n⟩
theorem SRp.new {p:Addr}{u:HO}(s:SRp K H S) (h:H p=none):SRp K (upd H p u) S:=λa o e=>by
 obtain ⟨x,hx⟩:=(s a o e).some
 exact (s a o e).fr (Fr.new h) (aG (bL hx h))
theorem Fr.newT {p:Addr}{u:HO}{o:O}(h:H p=none):Fr H S (upd H p u) (put S p o):=λa _ e n =>
 ⟨by rw [aG (bL e h)];exact e,by rw [aA (bL e h)];exact n⟩
theorem SRp.newT {p:Addr}{u:HO}{o:O}(s:SRp K H S) (h:H p=none) (n:ORp K (upd H p u) (put S p o) p o):SRp K (upd H p u) (put S p o):=λa o' e=>by
 by_cases ha:a=p
 ·subst ha;rw [aF] at e;cases e;exact n
 ·rw [aA ha] at e
  exact (s a o' e).fr (Fr.newT h) (aG ha)
theorem Fr.write {p:Addr}{u:HO}{o:O}(h:S p≠none):Fr H S (upd H p u) (put S p o):=λa _ e n =>
 have ne:a≠p:=λz=>by subst z;exact h n
 ⟨by rw [aG ne];exact e,by rw [aA ne];exact n⟩
theorem SRp.write {p:Addr}{u:HO}{o:O}(s:SRp K H S) (h:S p≠none) (n:ORp K (upd H p u) (put S p o) p o):SRp K (upd H p u) (put S p o):=λa o' e=>by
 by_cases ha:a=p
 ·subst ha;rw [aF] at e;cases e;exact n
 ·rw [aA ha] at e
  exact (s a o' e).fr (Fr.write h) (aG ha)
def Le (S0 S:Sto):Prop:=∀ a o,S0 a=some o->S a=some o
theorem Le.refl {S}:Le S S:=λ_ _ h=>h
theorem Le.none {S0 S:Sto}(l:Le S0 S){a:Addr}(h:S a=none):S0 a=none:=by
 cases e:S0 a with
 |none=>rfl
 |some o=>rw [l a o e] at h;cases h
theorem Fr.le {S0:Sto}(l:Le S0 S):Fr H S H S0:=λ_ _ h n=>⟨h,l.none n⟩
theorem SRp.le {S0:Sto}(s:SRp K H S) (l:Le S0 S):SRp K H S0:=λa o e=>(s a o (l a o e)).fr (Fr.le l) rfl
end
abbrev StT:=List (Option T)
abbrev WE:=StT->Sto->(T->Sto->Prop)->Prop
abbrev WT:=StT->Sto->(Bool->Sto->Prop)->Prop
abbrev WA:=StT->Sto->(List T->Sto->Prop)->Prop
structure EndsT where
 nx:StT->Sto->Prop
 rt:T->Sto->Prop
 bk:StT->Sto->Prop:=λ_ _=>False
 ct:StT->Sto->Prop:=λ_ _=>False
abbrev WS:=EndsT->StT->Sto->Prop
def Cov (K:Fg) (H:Hp) (S:Sto) (U:St) (LP:StT):Prop:=LP.length=U.length/\∀ (i:Nat) (t:T),LP[i]?=some (some t)->∃ v:V,U[i]?=some (some v)/\Rp K H S t v
theorem Cov.fr {K H S H' S' U LP}(c:Cov K H S U LP) (f:Fr H S H' S'):Cov K H' S' U LP:=⟨c.1,λi t e=>by
 obtain ⟨v,h,r⟩:=c.2 i t e
 exact ⟨v,h,r.fr f⟩⟩
theorem Cov.set {K H S U LP t v}(c:Cov K H S U LP) (r:Rp K H S t v) (i:Nat):Cov K H S (U.set i (some v)) (LP.set i (some t)):=by
 refine ⟨by simp [c.1],λj u e=>?_⟩
 by_cases h:i=j
 ·subst h
  by_cases hl:i<LP.length
  ·rw [List.getElem?_set_self hl] at e
   cases e
   exact ⟨v,List.getElem?_set_self (by rw [<- c.1];exact hl),r⟩
  ·rw [List.getElem?_eq_none (by simp;omega)] at e;cases e
 ·rw [List.getElem?_set_ne h] at e ⊢
  exact c.2 j u e
abbrev Bh (K:Fg) (H:Hp) (S:Sto) (Qt:T->Sto->Prop) (Q:VK):Prop:=∀ v H' t S',Fr H S H' S'->SRp K H' S'->Rp K H' S' t v->Qt t S'->Q v H'
def lE (K:Fg) (w:WE):TE:=λU H Q=>∃ S LP Qt,SRp K H S/\Cov K H S U LP/\w LP S Qt/\Bh K H S Qt Q
def lT (K:Fg) (w:WT):TT:=λU H Q=>∃ S LP Qt,SRp K H S/\Cov K H S U LP/\w LP S Qt/\∀ b H' S',Fr H S H' S'->SRp K H' S'->Qt b S'->Q b H'
def lA (K:Fg) (w:WA):TA:=λU H Q=>∃ S LP Qt,SRp K H S/\Cov K H S U LP/\w LP S Qt/\∀ vs H' ts S',Fr H S H' S'->SRp K H' S'->Rps K H' S' ts vs->Qt ts S'->Q vs H'
structure EndsOk (K:Fg) (H:Hp) (S:Sto) (Dt:EndsT) (D:Ends):Prop where
 nx:∀ LO H' L1 S',Fr H S H' S'->SRp K H' S'->Cov K H' S' LO L1->Dt.nx L1 S'->D.nx LO H'
 rt:∀ v H' t S',Fr H S H' S'->SRp K H' S'->Rp K H' S' t v->Dt.rt t S'->D.rt v H'
 bk:∀ LO H' L1 S',Fr H S H' S'->SRp K H' S'->Cov K H' S' LO L1->Dt.bk L1 S'->D.bk LO H'
 ct:∀ LO H' L1 S',Fr H S H' S'->SRp K H' S'->Cov K H' S' LO L1->Dt.ct L1 S'->D.ct LO H'
theorem EndsOk.fr {K H S H' S' Dt D}(e:EndsOk K H S Dt D) (f:Fr H S H' S'):EndsOk K H' S' Dt D :=
 ⟨λLO H2 L1 S2 g=>e.nx LO H2 L1 S2 (f.trans g),λv H2 t S2 g=>e.rt v H2 t S2 (f.trans g),λLO H2 L1 S2 g=>e.bk LO H2 L1 S2 (f.trans g),λLO H2 L1 S2 g=>e.ct LO H2 L1 S2 (f.trans g)⟩
def lS (K:Fg) (w:WS):TS:=λD U H=>∃ S LP Dt,SRp K H S/\Cov K H S U LP/\w Dt LP S/\EndsOk K H S Dt D
def QE (K:Fg) (X:Cx) (e:Expr) (w:WE):Prop:=PE X e (lE K w)
def QT (K:Fg) (X:Cx) (e:Expr) (w:WT):Prop:=PT X e (lT K w)
def QW (K:Fg) (X:Cx) (e:Expr) (w:WT):Prop:=PW X e (lT K w)
def QA (K:Fg) (X:Cx) (es:List Expr) (w:WA):Prop:=PA X es (lA K w)
def QS (K:Fg) (X:Cx) (st:Stmt) (w:WS):Prop:=PS X st (lS K w)
def QSs (K:Fg) (X:Cx) (st:List Stmt) (w:WS):Prop:=PSs X st (lS K w)
theorem PE.of {X:Cx}{e:Expr}{t t':TE}(h:PE X e t) (i:∀ U H Q,t' U H Q->t U H Q):PE X e t':=λpins s U H Q I q=>h pins s U H Q I (i U H Q q)
theorem PT.of {X:Cx}{e:Expr}{t t':TT}(h:PT X e t) (i:∀ U H Q,t' U H Q->t U H Q):PT X e t':=λpins s U H Q I q=>h pins s U H Q I (i U H Q q)
theorem PW.of {X:Cx}{e:Expr}{t t':TT}(h:PW X e t) (i:∀ U H Q,t' U H Q->t U H Q):PW X e t':=λwh pins s U H Q I q=>h wh pins s U H Q I (i U H Q q)
theorem PA.of {X:Cx}{e:List Expr}{t t':TA}(h:PA X e t) (i:∀ U H Q,t' U H Q->t U H Q):PA X e t':=λp pins s U H Q I q=>h p pins s U H Q I (i U H Q q)
theorem PS.of {X:Cx}{e:Stmt}{t t':TS}(h:PS X e t) (i:∀ D U H,t' D U H->t D U H):PS X e t':=λpins s U H D I q=>h pins s U H D I (i D U H q)
theorem PSs.of {X:Cx}{e:List Stmt}{t t':TS}(h:PSs X e t) (i:∀ D U H,t' D U H->t D U H):PSs X e t':=λpins s U H D I q=>h pins s U H D I (i D U H q)
section
variable {K:Fg}{X:Cx}{a b c e:Expr}{wa wb wc:WE}{pos:Pos}
def wV (i:Nat):WE:=λU S Q=>∃ t,U[i]?=some (some t)/\Q t S
def wC (t:T):WE:=λ_ S Q=>Q t S
theorem IA {i:Nat}{x:Str}(h:PE X (.Name x pos) (wF i)):QE K X (.Name x pos) (wV i):=PE.of h λU H Q zz62=>by
 obtain ⟨S,LP,Qt,s,c,⟨t,e,q⟩,hq⟩:=zz62
 obtain ⟨v,e2,r⟩:=c.2 i t e
 exact ⟨v,e2,hq v H t S .refl s r q⟩
theorem af {i j}:QE K X (.Constant (.int i) j pos) (wC (.int i)):=PE.of EO λU H Q zz63=>by obtain ⟨S,LP,Qt,s,c,q,hq⟩:=zz63;exact hq _ H _ S .refl s .int q
theorem bP {i j}:QE K X (.Constant (.bool i) j pos) (wC (.bl i)):=PE.of HR λU H Q zz64=>by obtain ⟨S,LP,Qt,s,c,q,hq⟩:=zz64;exact hq _ H _ S .refl s .bl q
theorem ik {j}:QE K X (.Constant .none j pos) (wC .non):=PE.of EQ λU H Q zz65=>by obtain ⟨S,LP,Qt,s,c,q,hq⟩:=zz65;exact hq _ H _ S .refl s .non q
theorem ai {x j}:QE K X (.Constant (.str x) j pos) (wC (.str x)):=PE.of dF λU H Q zz66=>by obtain ⟨S,LP,Qt,s,c,q,hq⟩:=zz66;exact hq _ H _ S .refl s .str q
theorem oh {x:Str}{t:T}{v:V}(h:PE X (.Name x pos) (tC v)) (r:∀ H S,Rp K H S t v):QE K X (.Name x pos) (wC t):=PE.of h λU H Q zz67=>by obtain ⟨S,LP,Qt,s,c,q,hq⟩:=zz67;exact hq _ H _ S .refl s (r _ _) q
abbrev G2:=T->T->Sto->(T->Sto->Prop)->Prop
def l2 (K:Fg) (g:G2):R2:=λx y H Q=>∃ S tx ty Qt,SRp K H S/\Rp K H S tx x/\Rp K H S ty y/\g tx ty S Qt/\Bh K H S Qt Q
def w2 (g:G2) (wa wb:WE):WE:=λU S Q=>wa U S λx S1=>wb U S1 λy S2=>g x y S2 Q
theorem km {g:G2}{U H Q}(h:lE K (w2 g wa wb) U H Q):tOp (l2 K g) (lE K wa) (lE K wb) U H Q:=by
 obtain ⟨S,LP,Qt,s,c,q,hq⟩:=h
 refine ⟨S,LP,_,s,c,q,λx H1 tx S1 f1 s1 r1 q1=>?_⟩
 refine ⟨S1,LP,_,s1,c.fr f1,q1,λy H2 ty S2 f2 s2 r2 q2=>?_⟩
 exact ⟨S2,tx,ty,Qt,s2,r1.fr f2,r2,q2,λv H' t S' f=>hq v H' t S' ((f1.trans f2).trans f)⟩
theorem aC {op:Operator}{g:G2}(ho:OpR X (binaryOp op) (l2 K g)) (ha:QE K X a wa) (hb:QE K X b wb):QE K X (.BinOp a op b pos) (w2 g wa wb):=PE.of (Ic ho ha hb) λ_ _ _ h=>km h
theorem bN {op:CmpOp}{g:G2}(ho:OpR X (compareOp op) (l2 K g)) (ha:QE K X a wa) (hb:QE K X b wb) (hm:behindInMarks op b=false:=by exact L2.nW _):QE K X (.Compare a [op] [b] pos) (w2 g wa wb):=PE.of (Cf ho ha hb hm) λ_ _ _ h=>km h
def wB (w:WE):WT:=λU S Q=>w U S λx S1=>∃ k,x=.bl k/\Q k S1
theorem IB {w:WE}{U H Q}(h:lT K (wB w) U H Q):oY (lE K w) U H Q:=by
 obtain ⟨S,LP,Qt,s,c,q,hq⟩:=h
 refine ⟨S,LP,_,s,c,q,λx H1 tx S1 f1 s1 r1 q1=>?_⟩
 obtain ⟨k,rfl,q1⟩:=q1
 cases r1
 exact ⟨k,rfl,hq k H1 S1 f1 s1 q1⟩
theorem aI {op:CmpOp}{g:G2}(ho:OpR X (compareOp op) (l2 K g)) (ha:QE K X a wa) (hb:QE K X b wb) (hm:behindInMarks op b=false:=by exact L2.nW _):QT K X (.Compare a [op] [b] pos) (wB (w2 g wa wb)) :=
 PT.of (Cg ho ha hb hm) λU H Q h=>by
  obtain ⟨S,LP,Qt,s,c,q,hq⟩:=h
  exact km ⟨S,LP,_,s,c,q,λv H' t S' f s' r zz68=>by obtain ⟨k,e,q'⟩:=zz68;exact by subst e;cases r;exact ⟨k,rfl,hq k H' S' f s' q'⟩⟩
def jS (g g':G2) (wa wb wc:WE):WE:=λU S Q=>wa U S λx S1=>wb U S1 λy S2=>g x y S2 λz S3=>∃ k,z=.bl k/\if k=true then wc U S3 λu S4=>g' y u S4 Q else Q (.bl false) S3
theorem qS {g g':G2}{U H Q}(h:lE K (jS g g' wa wb wc) U H Q):nX (l2 K g) (l2 K g') (lE K wa) (lE K wb) (lE K wc) U H Q:=by
 obtain ⟨S,LP,Qt,s,c,q,hq⟩:=h
 refine ⟨S,LP,_,s,c,q,λx H1 tx S1 f1 s1 r1 q1=>?_⟩
 refine ⟨S1,LP,_,s1,c.fr f1,q1,λy H2 ty S2 f2 s2 r2 q2=>?_⟩
 refine ⟨S2,tx,ty,_,s2,r1.fr f2,r2,q2,λz H3 tz S3 f3 s3 r3 q3=>?_⟩
 obtain ⟨k,rfl,q3⟩:=q3
 cases r3
 refine ⟨k,rfl,?_⟩
 cases k with
 |false=>exact hq _ _ _ _ ((f1.trans f2).trans f3) s3 .bl q3
 |true =>
  refine ⟨S3,LP,_,s3,c.fr ((f1.trans f2).trans f3),q3,λu H4 tu S4 f4 s4 r4 q4=>?_⟩
  exact ⟨S4,ty,tu,Qt,s4,(r2.fr f3).fr f4,r4,q4,λv H' t S' f=>hq v H' t S' ((((f1.trans f2).trans f3).trans f4).trans f)⟩
theorem sK {op Ql:CmpOp}{g g':G2}(ho:OpR X (compareOp op) (l2 K g)) (P1:OpR X (compareOp Ql) (l2 K g')) (ha:QE K X a wa) (hb:QE K X b wb) (hc:QE K X c wc) (hm:lastMarks [op,Ql] [b,c]=false:=by with_unfolding_all rfl) :
  QE K X (.Compare a [op,Ql] [b,c] pos) (jS g g' wa wb wc):=PE.of (AA ho P1 ha hb hc hm) λ_ _ _ h=>qS h
theorem gK {op Ql:CmpOp}{g g':G2}(ho:OpR X (compareOp op) (l2 K g)) (P1:OpR X (compareOp Ql) (l2 K g')) (ha:QE K X a wa) (hb:QE K X b wb) (hc:QE K X c wc) (hm:lastMarks [op,Ql] [b,c]=false:=by with_unfolding_all rfl) :
  QT K X (.Compare a [op,Ql] [b,c] pos) (wB (jS g g' wa wb wc)):=PT.of (AB ho P1 ha hb hc hm) λU H Q h=>by
  obtain ⟨S,LP,Qt,s,c,q,hq⟩:=h
  exact qS ⟨S,LP,_,s,c,q,λv H' t S' f s' r zz69=>by obtain ⟨k,e,q'⟩:=zz69;exact by subst e;cases r;exact ⟨k,rfl,hq k H' S' f s' q'⟩⟩
theorem a0 (h:QE K X e wa) (he:∀ whole,isTrue e X.env whole=(do let v <- whole;standAt e.pos;holding [v] (truthy v)):=by intro _;rfl):QT K X e (wB wa):=PT.of (ER h he) λ_ _ _ h=>IB h
def wP (t u:WT):WT:=λU S Q=>t U S λc S1=>if c=true then u U S1 Q else Q false S1
def wOr (t u:WT):WT:=λU S Q=>t U S λc S1=>if c=true then Q true S1 else u U S1 Q
def wQ (t:WT):WT:=λU S Q=>t U S λc S1=>Q (!c) S1
variable {ta tb:WT}{rest:List Expr}
theorem gX (ha:QT K X a ta):QW K X (.BoolOp .And [a] pos) ta:=B9 ha
theorem io (ha:QT K X a ta):QW K X (.BoolOp .Or [a] pos) ta:=ES ha
theorem iq (ha:QT K X a ta) (hb:QW K X (.BoolOp .And (b::rest) pos) tb):QW K X (.BoolOp .And (a::b::rest) pos) (wP ta tb):=PW.of (ET ha hb) λU H Q zz70=>by
 obtain ⟨S,LP,Qt,s,c,q,hq⟩:=zz70
 refine ⟨S,LP,_,s,c,q,λk H1 S1 f1 s1 q1=>?_⟩
 cases k with
 |true=>exact ⟨S1,LP,_,s1,c.fr f1,q1,λb H' S' f=>hq b H' S' (f1.trans f)⟩
 |false=>exact hq false H1 S1 f1 s1 q1
theorem iK (ha:QT K X a ta) (hb:QW K X (.BoolOp .Or (b::rest) pos) tb):QW K X (.BoolOp .Or (a::b::rest) pos) (wOr ta tb):=PW.of (HS ha hb) λU H Q zz71=>by
 obtain ⟨S,LP,Qt,s,c,q,hq⟩:=zz71
 refine ⟨S,LP,_,s,c,q,λk H1 S1 f1 s1 q1=>?_⟩
 cases k with
 |false=>exact ⟨S1,LP,_,s1,c.fr f1,q1,λb H' S' f=>hq b H' S' (f1.trans f)⟩
 |true=>exact hq true H1 S1 f1 s1 q1
theorem dq (h:QW K X e ta):QT K X e ta:=h _
theorem br (ha:QT K X a ta):QT K X (.UnaryOp .Not a pos) (wQ ta):=PT.of (EU ha) λU H Q zz72=>by obtain ⟨S,LP,Qt,s,c,q,hq⟩:=zz72;exact ⟨S,LP,_,s,c,q,λk H1 S1 f1 s1 q1=>hq _ H1 S1 f1 s1 q1⟩
def vL (wa wb:WE):WE:=λU S Q=>wa U S λx S1=>∃ k,x=.bl k/\if k=true then wb U S1 Q else Q (.bl false) S1
def wR (wa wb:WE):WE:=λU S Q=>wa U S λx S1=>∃ k,x=.bl k/\if k=true then Q (.bl true) S1 else wb U S1 Q
def vM (wa:WE):WE:=λU S Q=>wa U S λx S1=>∃ k,x=.bl k/\Q (.bl (!k)) S1
theorem cC {op}(h:QE K X a wa):QE K X (.BoolOp op [a] pos) wa:=EV h
theorem db (ha:QE K X a wa) (hb:QE K X (.BoolOp .And (b::rest) pos) wb):QE K X (.BoolOp .And (a::b::rest) pos) (vL wa wb):=PE.of (EW ha hb) λU H Q zz73=>by
 obtain ⟨S,LP,Qt,s,c,q,hq⟩:=zz73
 refine ⟨S,LP,_,s,c,q,λx H1 tx S1 f1 s1 r1 q1=>?_⟩
 obtain ⟨k,rfl,q1⟩:=q1
 cases r1
 refine ⟨k,rfl,?_⟩
 cases k with
 |true=>exact ⟨S1,LP,_,s1,c.fr f1,q1,λv H' t S' f=>hq v H' t S' (f1.trans f)⟩
 |false=>exact hq _ H1 _ S1 f1 s1 .bl q1
theorem o9 (ha:QE K X a wa) (hb:QE K X (.BoolOp .Or (b::rest) pos) wb):QE K X (.BoolOp .Or (a::b::rest) pos) (wR wa wb):=PE.of (HW ha hb) λU H Q zz74=>by
 obtain ⟨S,LP,Qt,s,c,q,hq⟩:=zz74
 refine ⟨S,LP,_,s,c,q,λx H1 tx S1 f1 s1 r1 q1=>?_⟩
 obtain ⟨k,rfl,q1⟩:=q1
 cases r1
 refine ⟨k,rfl,?_⟩
 cases k with
 |false=>exact ⟨S1,LP,_,s1,c.fr f1,q1,λv H' t S' f=>hq v H' t S' (f1.trans f)⟩
 |true=>exact hq _ H1 _ S1 f1 s1 .bl q1
theorem gY (ha:QE K X a wa):QE K X (.UnaryOp .Not a pos) (vM wa):=PE.of (EX ha) λU H Q zz75=>by
 obtain ⟨S,LP,Qt,s,c,q,hq⟩:=zz75
 refine ⟨S,LP,_,s,c,q,λx H1 tx S1 f1 s1 r1 q1=>?_⟩
 obtain ⟨k,rfl,q1⟩:=q1
 cases r1
 exact ⟨k,rfl,hq _ H1 _ S1 f1 s1 .bl q1⟩
def wIf (t:WT) (wa wb:WE):WE:=λU S Q=>t U S λc S1=>if c=true then wa U S1 Q else wb U S1 Q
theorem cw {c:Expr}(hc:QT K X c ta) (ha:QE K X a wa) (hb:QE K X b wb):QE K X (.IfExp c a b pos) (wIf ta wa wb):=PE.of (Ay hc ha hb) λU H Q zz76=>by
 obtain ⟨S,LP,Qt,s,c,q,hq⟩:=zz76
 refine ⟨S,LP,_,s,c,q,λk H1 S1 f1 s1 q1=>?_⟩
 cases k with
 |true=>exact ⟨S1,LP,_,s1,c.fr f1,q1,λv H' t S' f=>hq v H' t S' (f1.trans f)⟩
 |false=>exact ⟨S1,LP,_,s1,c.fr f1,q1,λv H' t S' f=>hq v H' t S' (f1.trans f)⟩
def eu:WA:=λ_ S Q=>Q [] S
def vN (wa:WE) (wr:WA):WA:=λU S Q=>wa U S λx S1=>wr U S1 λxs S2=>Q (x::xs) S2
variable {es:List Expr}{wr:WA}
theorem ae:QA K X [] eu:=PA.of nY λU H Q zz77=>by obtain ⟨S,LP,Qt,s,c,q,hq⟩:=zz77;exact hq [] H [] S .refl s .nil q
theorem ac (ha:QE K X e wa) (hr:QA K X es wr) (hs:starEach (e::es) X.env=(false,eval e X.env)::starEach es X.env:=by exact L2.CC rfl):QA K X (e::es) (vN wa wr):=PA.of (jx ha hr hs) λU H Q zz78=>by
 obtain ⟨S,LP,Qt,s,c,q,hq⟩:=zz78
 refine ⟨S,LP,_,s,c,q,λx H1 tx S1 f1 s1 r1 q1=>?_⟩
 exact ⟨S1,LP,_,s1,c.fr f1,q1,λvs H2 ts S2 f2 s2 r2 q2=>hq _ H2 _ S2 (f1.trans f2) s2 (.cons (r1.fr f2) r2) q2⟩
def wS (wr:WA):WE:=λU S Q=>wr U S λts S1=>ts.length<=sizeLine/\Q (.tup ts) S1
theorem aL {x1}(h:QA K X es wr):QE K X (.Tuple es x1 pos) (wS wr):=PE.of (Fj h) λU H Q zz79=>by
 obtain ⟨S,LP,Qt,s,c,q,hq⟩:=zz79
 refine ⟨S,LP,_,s,c,q,λvs H1 ts S1 f1 s1 r1 q1=>?_⟩
 refine ⟨by rw [r1.length];exact q1.1,λp hp=>hq _ _ (.tup ts) S1 (f1.trans (Fr.new hp)) (s1.new hp) (.tup (s1.fresh hp) aK (r1.fr (Fr.new hp))) q1.2⟩
def wT (wr:WA):WE:=λU S Q=>wr U S λts S1=>ts.length<=sizeLine/\Q (.lst ts) S1
def vO (wr:WA):WE:=λU S Q=>wr U S λts S1=>ts.length<=sizeLine/\∀ p,S1 p=none->Q (.ref p) (put S1 p (.lst ts))
theorem a9 (h:QA K X es wr):QE K X (.List es pos) (wT wr):=PE.of (uf h) λU H Q zz80=>by
 obtain ⟨S,LP,Qt,s,c,q,hq⟩:=zz80
 refine ⟨S,LP,_,s,c,q,λvs H1 ts S1 f1 s1 r1 q1=>?_⟩
 refine ⟨by rw [r1.length];exact q1.1,λp hp=>hq _ _ (.lst ts) S1 (f1.trans (Fr.new hp)) (s1.new hp) (.lst (s1.fresh hp) aK (r1.fr (Fr.new hp))) q1.2⟩
theorem gZ (h:QA K X es wr):QE K X (.List es pos) (vO wr):=PE.of (uf h) λU H Q zz81=>by
 obtain ⟨S,LP,Qt,s,c,q,hq⟩:=zz81
 refine ⟨S,LP,_,s,c,q,λvs H1 ts S1 f1 s1 r1 q1=>?_⟩
 refine ⟨by rw [r1.length];exact q1.1,λp hp=>hq _ _ (.ref p) _ (f1.trans (Fr.newT hp)) (s1.newT hp (.lst aK (r1.fr (Fr.newT hp)))) .ref (q1.2 p (s1.fresh hp))⟩
end
section
variable {K:Fg}{X:Cx}{e:Expr}{we:WE}{st:Stmt}{rest:List Stmt}{w u:WS}{pos:Pos}
def vP:WS:=λD U S=>D.nx U S
def kK (w u:WS):WS:=λD U S=>w { D with nx:=u D } U S
theorem au:QSs K X [] vP:=PSs.of B' λD U H zz82=>by obtain ⟨S,LP,Dt,s,c,q,he⟩:=zz82;exact he.nx U H LP S .refl s c q
theorem aj (h1:QS K X st w) (h2:QSs K X rest u):QSs K X (st::rest) (kK w u):=PSs.of (Az h1 h2) λD U H ⟨S,LP,Dt,s,c,q,he⟩ =>
 ⟨S,LP,{ Dt with nx:=u Dt },s,c,q,⟨λ_ _ L1 S' f s' c' q'=>⟨S',L1,Dt,s',c',q',he.fr f⟩,he.rt,he.bk,he.ct⟩⟩
theorem ag (h1:QS K X st w):QSs K X [st] w:=Ca h1
def vQ (we:WE):WS:=λD U S=>we U S λ_ S1=>D.nx U S1
theorem bd (he:QE K X e we) (hs:swapsWith e none pos.line X.env=pure false:=by rfl):QS K X (.Expr e pos) (vQ we):=PS.of (Cb he hs) λD U H ⟨S,LP,Dt,s,c,q,he⟩ =>
 ⟨S,LP,_,s,c,q,λ_ H1 _ S1 f1 s1 _ q1=>he.nx U H1 LP S1 f1 s1 (c.fr f1) q1⟩
def wU (we:WE):WS:=λD U S=>we U S D.rt
theorem ap (he:QE K X e we):QS K X (.Return (some e) pos) (wU we):=PS.of (EY he) λD U H zz83=>by obtain ⟨S,LP,Dt,s,c,q,he⟩:=zz83;exact ⟨S,LP,_,s,c,q,he.rt⟩
def wW (t:WT) (w u:WS):WS:=λD U S=>t U S λb S1=>if b=true then w D U S1 else u D U S1
theorem ao {c:Expr}{a b:List Stmt}{t:WT}(hc:QT K X c t) (ha:QSs K X a w) (hb:QSs K X b u):QS K X (.If c a b pos) (wW t w u):=PS.of (HZ hc ha hb) λD U H zz84=>by
 obtain ⟨S,LP,Dt,s,c,q,he⟩:=zz84
 refine ⟨S,LP,_,s,c,q,λk H1 S1 f1 s1 q1=>?_⟩
 cases k with
 |true=>exact ⟨S1,LP,Dt,s1,c.fr f1,q1,he.fr f1⟩
 |false=>exact ⟨S1,LP,Dt,s1,c.fr f1,q1,he.fr f1⟩
def uo:WS:=λ_ _ _=>False
theorem bY:QS K X st uo:=λ_ _ _ _ _ _ zz85=>by obtain ⟨_,_,_,_,_,q,_⟩:=zz85;exact q.elim
theorem cr {SA:List Stmt}:QSs K X SA uo:=λ_ _ _ _ _ _ zz86=>by obtain ⟨_,_,_,_,_,q,_⟩:=zz86;exact q.elim
abbrev WG:=T->StT->Sto->(StT->Sto->Prop)->Prop
abbrev WGs:=List T->StT->Sto->(StT->Sto->Prop)->Prop
def lG (K:Fg) (g:WG):TG:=λv U H Q=>∃ S t LP Qt,SRp K H S/\Rp K H S t v/\Cov K H S U LP/\g t LP S Qt/\∀ LO H' L1 S',Fr H S H' S'->SRp K H' S'->Cov K H' S' LO L1->Qt L1 S'->Q LO H'
def lGs (K:Fg) (g:WGs):TGs:=λvs U H Q=>∃ S ts LP Qt,SRp K H S/\Rps K H S ts vs/\Cov K H S U LP/\g ts LP S Qt/\∀ LO H' L1 S',Fr H S H' S'->SRp K H' S'->Cov K H' S' LO L1->Qt L1 S'->Q LO H'
def QG (K:Fg) (X:Cx) (tg:Expr) (g:WG):Prop:=PG X tg (lG K g)
def QGs (K:Fg) (X:Cx) (tg:List Expr) (g:WGs):Prop:=PGs X tg (lGs K g)
theorem PG.of {X:Cx}{e:Expr}{t t':TG}(h:PG X e t) (i:∀ v U H Q,t' v U H Q->t v U H Q):PG X e t':=λpins s U H v u Q I r q=>h pins s U H v u Q I r (i v U H Q q)
theorem PGs.of {X:Cx}{e:List Expr}{t t':TGs}(h:PGs X e t) (i:∀ v U H Q,t' v U H Q->t v U H Q):PGs X e t':=λpins s U H v u Q I r q=>h pins s U H v u Q I r (i v U H Q q)
def wgN (i:Nat):WG:=λt U S Q=>Q (U.set i (some t)) S
theorem CS {i:Nat}{x:Str}(h:PG X (.Name x pos) (kf i)):QG K X (.Name x pos) (wgN i):=PG.of h λv U H Q zz87=>by obtain ⟨S,t,LP,Qt,s,r,c,q,hq⟩:=zz87;exact hq _ H _ S .refl s (c.set r i) q
def vR:WGs:=λts U S Q=>ts=[]/\Q U S
def ur (g:WG) (h:WGs):WGs:=λts U S Q=>∃ t r,ts=t::r/\g t U S λLO S'=>h r LO S' Q
variable {tg:Expr}{tgs:List Expr}{g:WG}{gs:WGs}
theorem jB:QGs K X [] vR:=PGs.of Cd λv U H Q zz88=>by
 obtain ⟨S,t,LP,Qt,s,r,c,⟨e,q⟩,hq⟩:=zz88
 subst e;cases r
 exact ⟨rfl,hq _ H _ S .refl s c q⟩
theorem dD (h1:QG K X tg g) (h2:QGs K X tgs gs) (h:∀ {t u},PG X tg t->PGs X tgs u->PGs X (tg::tgs) (vI t u)):QGs K X (tg::tgs) (ur g gs):=PGs.of (h h1 h2) λv U H Q zz89=>by
 obtain ⟨S,t,LP,Qt,s,r,c,⟨y,ys,e,q⟩,hq⟩:=zz89
 subst e
 cases r with
 |cons r rs =>
  refine ⟨_,_,rfl,S,y,LP,_,s,r,c,q,λLO H' L1 S' f s' c' q'=>?_⟩
  exact ⟨S',ys,L1,Qt,s',rs.fr f,c',q',λMz H2 Oh S2 f2=>hq Mz H2 Oh S2 (f.trans f2)⟩
def vS (n:Nat) (g:WGs):WG:=λt U S Q=>∃ ts,t=.tup ts/\ts.length=n/\g ts U S Q
theorem jT {es:List Expr}{k n:Nat}(h:∀ {t},PGs X es t->PG X (.Tuple es k pos) (pE K n t)) (h1:QGs K X es gs):QG K X (.Tuple es k pos) (vS n gs):=PG.of (h h1) λv U H Q zz90=>by
 obtain ⟨S,t,LP,Qt,s,r,c,⟨ts,e,l,q⟩,hq⟩:=zz90
 subst e
 cases r with
 |tup n' hp rs=>exact ⟨_,_,rfl,SqT.of hp,by rw [rs.length];exact l,S,ts,LP,Qt,s,rs,c,q,hq⟩
def fg (we:WE) (g:WG):WS:=λD U S=>we U S λt S1=>g t U S1 D.nx
theorem CT {D U H}(h:lS K (fg we g) D U H):gx (lE K we) (lG K g) D U H:=by
 obtain ⟨S,LP,Dt,s,c,q,he⟩:=h
 refine ⟨S,LP,_,s,c,q,λv H1 t S1 f1 s1 r1 q1=>?_⟩
 exact ⟨S1,t,LP,_,s1,r1,c.fr f1,q1,λLO H' L1 S' f=>he.nx LO H' L1 S' (f1.trans f)⟩
theorem IC (h:∀ {t g},PE X e t->PG X tg g->PS X (.Assign [tg] e pos) (gx t g)) (he:QE K X e we) (hg:QG K X tg g):QS K X (.Assign [tg] e pos) (fg we g):=PS.of (h he hg) λ_ _ _ h=>CT h
theorem ID {i:Nat}{x:Str}{MA:Pos}(hN:X.N.Nodup) (hi:X.N[i]?=some x) (hx:Loc X.env.scope x) (he:QE K X e we) (hs:swapsWith e (some (.Name x MA)) pos.line X.env=pure false:=by rfl)
  (hf:X.fn x=true\/X.env.scope.names.lookup x=some .local:=by first|exact .inl rfl|exact .inr rfl|assumption):QS K X (.Assign [.Name x MA] e pos) (fg we (wgN i)):=PS.of (E3 hN hi hx he hs hf) λD U H h=>by
 obtain ⟨S,LP,Dt,s,c,q,he⟩:=h
 exact ⟨S,LP,_,s,c,q,λv H1 t S1 f1 s1 r1 q1=>he.nx _ H1 _ S1 f1 s1 ((c.fr f1).set r1 i) q1⟩
end
end T2
namespace T2
open PySem PySem.Spec PyProof.Rows L2
abbrev WSp:=List T->Sto->(T->Sto->Prop)->Prop
def lSp (K:Fg) (w:WSp):Sp:=λvs H Q _=>∃ S ts Qt,SRp K H S/\Rps K H S ts vs/\w ts S Qt/\Bh K H S Qt Q
noncomputable def b7 (N:List Str) (ts:List T):StT:=ts.map some++List.replicate (N.length - ts.length) none
theorem mL {K:Fg}{H:Hp}{S:Sto}{N:List Str}{ts:List T}{vs:List V}(r:Rps K H S ts vs):Cov K H S (L2.ca N vs) (b7 N ts):=by
 have l:=r.length
 refine ⟨by unfold L2.ca b7;simp [l],λi t e=>?_⟩
 unfold b7 at e
 by_cases hi:i<ts.length
 ·rw [List.getElem?_append_left (by simpa using hi),List.getElem?_map] at e
  cases q:ts[i]? with
  |none=>rw [q] at e;cases e
  |some a =>
   rw [q] at e;cases e
   obtain ⟨v,hv,rv⟩:=r.get q
   refine ⟨v,?_,rv⟩
   unfold L2.ca
   rw [List.getElem?_append_left (by simp;omega),List.getElem?_map,hv];rfl
 ·rw [List.getElem?_append_right (by simpa using hi),List.getElem?_replicate] at e
  split at e<;>cases e
def Fin (Q:T->Sto->Prop) (t:T) (S:Sto):Prop:=(∃ S0,Le S0 S/\Q t S0)\/∃ p ts S0,t=.ref p/\S p=some (.lst ts)/\Le S0 S/\S0 p=none/\Q (.lst ts) S0
theorem Fin.mk {Q:T->Sto->Prop}{t:T}{S:Sto}(h:Q t S):Fin Q t S:=.inl ⟨S,.refl,h⟩
theorem Fin.le {Q:T->Sto->Prop}{t:T}{S S0:Sto}(l:Le S0 S) (h:Q t S0):Fin Q t S:=.inl ⟨S0,l,h⟩
theorem Fin.frz {Q:T->Sto->Prop}{p:Addr}{ts:List T}{S S0:Sto}(e:S p=some (.lst ts)) (l:Le S0 S) (n:S0 p=none) (h:Q (.lst ts) S0):Fin Q (.ref p) S:=.inr ⟨p,ts,S0,rfl,e,l,n,h⟩
theorem Fin.ends {K:Fg}{H H':Hp}{S S':Sto}{Qt:T->Sto->Prop}{Q:VK}(b:Bh K H S Qt Q){v:V}{t:T}(f:Fr H S H' S') (s:SRp K H' S') (r:Rp K H' S' t v) (q:Fin Qt t S'):Q v H':=by
 rcases q with ⟨S0,l,q⟩|⟨p,ts,S0,rfl,e,l,n,q⟩
 ·exact b v H' t S0 (f.trans (Fr.le l)) (s.le l) (r.fr (Fr.le l)) q
 ·cases r
  cases s p _ e with
  |lst hp rs=>exact b _ H' (.lst ts) S0 (f.trans (Fr.le l)) (s.le l) (.lst n hp (rs.fr (Fr.le l))) q
section
variable {P:Program}{w:World}{K:Fg}{mg:Str->Option Value}{base:Heap}
theorem FE {x qual:Str}{st:Stmt}{f:Addr}{fd:FuncData}{N ps:List Str}{k:Nat}{LV:WSp}(F:Fun K x qual st f fd) (Sc:FnScope N ps (av st)) (len:∀ ts S Q,LV ts S Q->ts.length=ps.length)
  (Nr:∀ (cdv:Value) (A:Around) (outer:List Env) (s:Shared) (H:Hp) (E:XK),Room k (A.deeper (envOfC qual (av st) s.heap.objs.size f cdv)) ->
   ∃ u,QSs K (c3 CX0 P w K mg base N qual (av st) f cdv A outer s H E).nox (bR st) u/\∀ ts S Q,LV ts S Q->u { nx:=λ_ S'=>Fin Q .non S',rt:=Fin Q } (b7 N ts) S):FnOk P w K mg base CX0 (k+1) f fd ps (lSp K LV):=by
 refine Fun.ok F Sc (λvs H Q E ⟨S,ts,Qt,s,r,q,_⟩=>by rw [r.length];exact len _ _ _ q) λcdv A outer s H vs Q E hr ⟨S,ts,Qt,sr,r,q,b⟩=>?_
 obtain ⟨u,hu,hq⟩:=Nr cdv A outer s H E hr
 refine ⟨_,hu,S,b7 N ts,_,sr,mL r,hq ts S Qt q,⟨λ_ H' _ S' f s' _ q'=>Fin.ends b f s' .non q',λv H' t S' f s' r' q'=>Fin.ends b f s' r' q',λ_ _ _ _ _ _ _ q'=>q'.elim,λ_ _ _ _ _ _ _ q'=>q'.elim⟩⟩
end
section
variable {K:Fg}{X:Cx}{k:Nat}{f C:Addr}{fd:FuncData}{ps:List Str}{LV:WSp}{NJ:List T}{dvs:List V}{ds:List Value}{x m:Str}{p pos apos:Pos}{e o:Expr}{es:List Expr}{wa:WE}{wr:WA}
def ir (LV:WSp) (NJ:List T) (wr:WA):WE:=λU S Q=>wr U S λts S1=>LV (ts++NJ) S1 Q
theorem AW {U H Q}(hd:∀ H S,Rps K H S NJ dvs) (h:lE K (ir LV NJ wr) U H Q):o5 (lSp K LV) dvs E0 (lA K wr) U H Q:=by
 obtain ⟨S,LP,Qt,s,c,q,hq⟩:=h
 refine ⟨S,LP,_,s,c,q,λvs H1 ts S1 f1 s1 r1 q1=>?_⟩
 exact ⟨S1,_,Qt,s1,r1.append (hd _ _),q1,λv H' t S' f=>hq v H' t S' (f1.trans f)⟩
theorem FF (hd:∀ H S,Rps K H S NJ dvs) (hp:PE X e (o5 (lSp K LV) dvs E0 (lA K wr))):QE K X e (ir LV NJ wr):=PE.of hp λ_ _ _ h=>AW hd h
def d3 (G:Addr->Prop) (m:Str) (LV:WSp) (NJ:List T) (wa:WE) (wr:WA):WE:=λU S Q=>wa U S λx S1=>∃ a C fs,x=.ref a/\S1 a=some (.ins C fs)/\G C/\fs.lookup m=none/\wr U S1 λts S2=>LV (x::(ts++NJ)) S2 Q
end
theorem cq {K:Fg}{H:Hp}{S:Sto}{m:Str}:∀ {fts:List (Str×T)}{fs:List (Str×V)},Paired (λ(p:Str×T) (q:Str×V)=>p.1=q.1/\Rp K H S p.2 q.2) fts fs->fts.lookup m=none->fs.lookup m=none:=by
 intro kts kvs pr
 induction pr with
 |nil=>intro _;exact rfl
 |@cons p q2 l l' er t ih =>
  intro h
  obtain ⟨a,b⟩:=p;obtain ⟨c,d⟩:=q2;obtain ⟨e,r⟩:=er
  simp only at e;subst e
  rw [List.lookup_cons] at h ⊢
  by_cases z:(m==a)=true
  ·rw [z] at h;cases h
  ·simp only [Bool.not_eq_true] at z
   rw [z] at h ⊢
   exact ih h
theorem mM {K:Fg}{H:Hp}{S:Sto}{m:Str}{t:T}:∀ {fts:List (Str×T)}{fs:List (Str×V)},Paired (λ(p:Str×T) (q:Str×V)=>p.1=q.1/\Rp K H S p.2 q.2) fts fs->fts.lookup m=some t->∃ v,fs.lookup m=some v/\Rp K H S t v:=by
 intro kts kvs pr
 induction pr with
 |nil=>intro h;cases h
 |@cons p q2 l l' er ps ih =>
  intro h
  obtain ⟨a,b⟩:=p;obtain ⟨c,d⟩:=q2;obtain ⟨e,r⟩:=er
  simp only at e;subst e
  rw [List.lookup_cons] at h ⊢
  by_cases z:(m==a)=true
  ·rw [z] at h ⊢;cases h;exact ⟨d,rfl,r⟩
  ·simp only [Bool.not_eq_true] at z
   rw [z] at h ⊢
   exact ih h
noncomputable def cf (f:Str) (v:T):List (Str×T)->List (Str×T)
 |[]=>[(f,v)]
 |(g,u)::r=>if g=f then (g,v)::r else (g,u)::cf f v r
theorem y9 {K:Fg}{H:Hp}{S:Sto}{f:Str}{t:T}{v:V}(r:Rp K H S t v):∀ {fts:List (Str×T)}{fs:List (Str×V)},Paired (λ(p:Str×T) (q:Str×V)=>p.1=q.1/\Rp K H S p.2 q.2) fts fs ->
  Paired (λ(p:Str×T) (q:Str×V)=>p.1=q.1/\Rp K H S p.2 q.2) (cf f t fts) (bw f v fs):=by
 intro kts kvs pr
 induction pr with
 |nil=>exact .cons ⟨rfl,r⟩ .nil
 |@cons p q2 l l' er ps ih =>
  obtain ⟨a,b⟩:=p;obtain ⟨c,d⟩:=q2;obtain ⟨e,q⟩:=er
  simp only at e;subst e
  unfold cf bw
  by_cases z:a=f
  ·rw [if_pos z,if_pos z];exact .cons ⟨rfl,r⟩ ps
  ·rw [if_neg z,if_neg z];exact .cons ⟨rfl,q⟩ (ih)
theorem Paired.len {α β:Type}{F:α->β->Prop}:∀ {l:List α}{l':List β},Paired F l l'->l'.length=l.length
 |_,_,.nil=>rfl
 |_,_,.cons _ t=>by simp [Paired.len t]
section
variable {K:Fg}{X:Cx}{CX:CXT}{k:Nat}{f:Addr}{fd:FuncData}{ps:List Str}{sp:Sp}{LV:WSp}{NJ:List T}{dvs:List V}{ds:List Value}{E:XK}{x m:Str}{p pos apos:Pos}{e o:Expr}{es:List Expr}{wa:WE}{wr:WA}{ta:TE}{t:TA}{G:Addr->Prop}
def fQ (G:Addr->Prop) (m:Str) (sp:Sp) (dvs:List V) (E:XK) (ta:TE) (t:TA):TE:=λU H Q=>ta U H λx H1=>∃ a C dx fs,x=.ref a/\H1 a=some (.ins C dx fs)/\G C/\fs.lookup m=none /\
 t U H1 λvs H2=>sp (x::(vs++dvs)) H2 Q E
theorem rN {pl:Sem Bool}(he:PE X o ta) (hG:∀ C,G C->Cls X.K C/\Meth X.K C m f) (F:FnOk X.prog X.w X.K X.mg X.base CX k f fd ps sp) (hr:Room k X.A) (hb:aw X.K fd ps ds) (hd:am dvs ds) (hx:dY CX X E) (ha:PA X (e::es) t)
  (QM:starEach (e::es) X.env=(false,eval e X.env)::starEach es X.env:=by rfl) (M6:(backTo pos (starEach es X.env)).any (·.1)=false:=by rfl)
  (ht:eval (.Call (.Attribute o m apos) (e::es) [] pos) X.env=(do
   let ov <- eval o X.env
   standAt apos.atName
   let (f,first) <- holding [ov] (getMethod ov m pl)
   callWith pos f first (backTo pos (starEach (e::es) X.env)) (backToKw pos (keywordEach [] X.env))):=by rfl) :
  PE X (.Call (.Attribute o m apos) (e::es) [] pos) (fQ G m sp dvs E ta t):=by
 intro pins s U H Q I h
 refine PySem.W.methodCall_KW (pl:=pl) (thn (he pins s U H _ I h) λu s1 ⟨x,H1,I1,rx,a,C,dx,fs,ex,ea,g,l,q⟩=>?_) ht
 subst ex
 obtain rfl:u=Value.ref a:=rx
 obtain ⟨c,hm⟩:=hG C g
 refine jg I1 ea c hm l ?_
 refine PySem.W.callWith_K (first:=[.ref a]) (h₀:=X.base) I.ok.mod.kin hm.kp (thn (ha pos pins s1 U H1 _ I1 q) λus s2 ⟨vs,H2,I2,r,q2⟩=>⟨I2.kIn,?_⟩) QM M6
 exact nZ (us:=.ref a::us) (vs:=.ref a::vs) F hr hb hd hx I2 (.cons rfl r) q2
theorem zU {pl:Sem Bool}(he:PE X o ta) (hG:∀ C,G C->Cls X.K C/\Meth X.K C m f) (F:FnOk X.prog X.w X.K X.mg X.base CX k f fd ps sp) (hr:Room k X.A) (hb:aw X.K fd ps ds) (hd:am dvs ds) (hx:dY CX X E)
  (ht:eval (.Call (.Attribute o m apos) [] [] pos) X.env=(do
   let ov <- eval o X.env
   standAt apos.atName
   let (f,first) <- holding [ov] (getMethod ov m pl)
   callWith pos f first (backTo pos (starEach [] X.env)) (backToKw pos (keywordEach [] X.env))):=by rfl) :
  PE X (.Call (.Attribute o m apos) [] [] pos) (fQ G m sp dvs E ta dO):=by
 intro pins s U H Q I h
 refine PySem.W.methodCall_KW (pl:=pl) (thn (he pins s U H _ I h) λu s1 ⟨x,H1,I1,rx,a,C,dx,fs,ex,ea,g,l,q⟩=>?_) ht
 subst ex
 obtain rfl:u=Value.ref a:=rx
 obtain ⟨c,hm⟩:=hG C g
 refine jg I1 ea c hm l ?_
 exact PySem.W.callWith_K0 (first:=[.ref a]) I1.kIn hm.kp (nZ (us:=[.ref a]) (vs:=[.ref a]) F hr hb hd hx I1 (.cons rfl .nil) q)
theorem AX {U H Q}(hd:∀ H S,Rps K H S NJ dvs) (h:lE K (d3 G m LV NJ wa wr) U H Q):fQ G m (lSp K LV) dvs E0 (lE K wa) (lA K wr) U H Q:=by
 obtain ⟨S,LP,Qt,s,c,q,hq⟩:=h
 refine ⟨S,LP,_,s,c,q,λx H1 tx S1 f1 s1 r1 q1=>?_⟩
 obtain ⟨a,C,fs,rfl,ea,g,l,q1⟩:=q1
 cases r1
 cases s1 a _ ea with
 |ins eh pr =>
  refine ⟨a,C,_,_,rfl,eh,g,cq pr l,S1,LP,_,s1,c.fr f1,q1,λvs H2 ts S2 f2 s2 r2 q2=>?_⟩
  exact ⟨S2,_,Qt,s2,.cons .ref (r2.append (hd _ _)),q2,λv H' t S' f=>hq v H' t S' ((f1.trans f2).trans f)⟩
theorem ut (hd:∀ H S,Rps K H S NJ dvs) (hp:PE X e (fQ G m (lSp K LV) dvs E0 (lE K wa) (lA K wr))):QE K X e (d3 G m LV NJ wa wr):=PE.of hp λ_ _ _ h=>AX hd h
theorem zV {U H Q}(hd:∀ H S,Rps K H S NJ dvs) (h:lE K (d3 G m LV NJ wa eu) U H Q):fQ G m (lSp K LV) dvs E0 (lE K wa) dO U H Q:=by
 obtain ⟨S,LP,Qt,s,c,q,hq⟩:=h
 refine ⟨S,LP,_,s,c,q,λx H1 tx S1 f1 s1 r1 q1=>?_⟩
 obtain ⟨a,C,fs,rfl,ea,g,l,q1⟩:=q1
 cases r1
 cases s1 a _ ea with
 |ins eh pr =>
  refine ⟨a,C,_,_,rfl,eh,g,cq pr l,?_⟩
  exact ⟨S1,_,Qt,s1,.cons .ref (Rps.append .nil (hd _ _)),q1,λv H' t S' f=>hq v H' t S' (f1.trans f)⟩
theorem CU (hd:∀ H S,Rps K H S NJ dvs) (hp:PE X e (fQ G m (lSp K LV) dvs E0 (lE K wa) dO)):QE K X e (d3 G m LV NJ wa eu):=PE.of hp λ_ _ _ h=>zV hd h
def ix (C:Addr) (LV:WSp) (NJ:List T) (wr:WA):WE:=λU S Q=>wr U S λts S1=>∀ x,S1 x=none->LV (.ref x::(ts++NJ)) (put S1 x (.ins C [])) (λt S2=>t=.non/\Q (.ref x) S2)
theorem nA {H:Hp}{S:Sto}{C x dx:Addr}(hx:H x=none) (hd:H dx=none):Fr H S (upd (upd H dx (.own x)) x (.ins C dx [])) (put S x (.ins C [])):=λa o e n =>
 ⟨by rw [aG (bL e hx),aG (bL e hd)];exact e,by rw [aA (bL e hx)];exact n⟩
theorem AY {H:Hp}{S:Sto}{C x dx:Addr}(s:SRp K H S) (hx:H x=none) (hd:H dx=none):SRp K (upd (upd H dx (.own x)) x (.ins C dx [])) (put S x (.ins C [])):=λa o e=>by
 by_cases ha:a=x
 ·subst ha;rw [aF] at e;cases e;exact .ins aK .nil
 ·rw [aA ha] at e
  obtain ⟨u,hu⟩:=(s a o e).some
  exact (s a o e).fr (nA hx hd) (by rw [aG ha,aG (bL hu hd)])
theorem sL {C:Addr}{S:Sto}{H:Hp}{ts:List T}{vs:List V}{Qt:T->Sto->Prop}{Q:VK}(hd:∀ H S,Rps K H S NJ dvs) (s:SRp K H S) (r:Rps K H S ts vs) (b:Bh K H S Qt Q)
  (q:∀ x,S x=none->LV (.ref x::(ts++NJ)) (put S x (.ins C [])) (λt S2=>t=.non/\Qt (.ref x) S2)) (x dx:Addr) (hx:H x=none) (SB:H dx=none) :
  lSp K LV (.ref x::(vs++dvs)) (upd (upd H dx (.own x)) x (.ins C dx [])) (λv H2=>v=.non/\Q (.ref x) H2) E0:=by
 refine ⟨_,_,_,AY s hx SB,.cons .ref ((r.fr (nA hx SB)).append (hd _ _)),q x (s.fresh hx),λv H' t S' f s' r' q'=>?_⟩
 obtain ⟨rfl,q'⟩:=q'
 cases r'
 exact ⟨rfl,b _ H' _ S' ((nA hx SB).trans f) s' .ref q'⟩
theorem FG {C:Addr}(hd:∀ H S,Rps K H S NJ dvs) (hp:PE X e (kh C (lSp K LV) dvs E0 (lA K wr))):QE K X e (ix C LV NJ wr):=PE.of hp λU H Q zz91=>by
 obtain ⟨S,LP,Qt,s,c,q,hq⟩:=zz91
 refine ⟨S,LP,_,s,c,q,λvs H1 ts S1 f1 s1 r1 q1 x dx hx SB _=>?_⟩
 exact sL hd s1 r1 (λv H' t S' f=>hq v H' t S' (f1.trans f)) q1 x dx hx SB
theorem CV {C:Addr}(hd:∀ H S,Rps K H S NJ dvs) (hp:PE X e (kh C (lSp K LV) dvs E0 dO)):QE K X e (ix C LV NJ eu):=PE.of hp λU H Q ⟨S,LP,Qt,s,c,q,hq⟩=>λx dx hx SB _ =>
 sL hd s .nil hq q x dx hx SB
def kL (G:Addr->Prop) (wa:WE) (f:Str):WE:=λU S Q=>wa U S λx S1=>∃ a C fs v,x=.ref a/\S1 a=some (.ins C fs)/\G C/\fs.lookup f=some v/\Q v S1
theorem IE {f:Str}(hK:X.K=K) (hG:∀ C,G C->Cls K C/\aN K C f) (he:QE K X o wa) (hb:attributeBase o f X.env (eval o X.env)=eval o X.env):QE K X (.Attribute o f pos) (kL G wa f):=by
 subst hK
 refine PE.of (Ff he hb) λU H Q zz92=>?_
 obtain ⟨S,LP,Qt,s,c,q,hq⟩:=zz92
 refine ⟨S,LP,_,s,c,q,λx H1 tx S1 f1 s1 r1 q1=>?_⟩
 obtain ⟨a,C,fs,v,rfl,ea,g,l,q1⟩:=q1
 cases r1
 cases s1 a _ ea with
 |ins eh pr =>
  obtain ⟨u,lu,ru⟩:=mM pr l
  exact ⟨a,C,_,_,u,rfl,eh,(hG C g).1,(hG C g).2,lu,hq u H1 v S1 f1 s1 ru q1⟩
def vT (G:Addr->Prop) (wa wv:WE) (f:Str):WS:=λD U S=>wv U S λy S1=>wa U S1 λx S2=>∃ a C fs,x=.ref a/\S2 a=some (.ins C fs)/\G C/\fs.length<1000/\D.nx U (put S2 a (.ins C (cf f y fs)))
theorem mO {H:Hp}{S:Sto}{a C dx:Addr}{fts:List (Str×T)}{fs:List (Str×V)}{f:Str}{t:T}{v:V}(s:SRp K H S) (ea:S a=some (.ins C fts)) (eh:H a=some (.ins C dx fs))
  (pr:Paired (λ(p:Str×T) (q:Str×V)=>p.1=q.1/\Rp K H S p.2 q.2) fts fs) (r:Rp K H S t v):Fr H S (upd H a (.ins C dx (bw f v fs))) (put S a (.ins C (cf f t fts)))/\SRp K (upd H a (.ins C dx (bw f v fs))) (put S a (.ins C (cf f t fts))):=by
 have hn:S a≠none:=by rw [ea];simp
 refine ⟨Fr.write hn,s.write hn (.ins aK ?_)⟩
 exact Paired.mapP (y9 r pr) λ_ _ z=>⟨z.1,z.2.fr (Fr.write hn)⟩
theorem b8 {f:Str}{wv:WE}{value:Expr}{MA:Pos}(hK:X.K=K) (hG:∀ C,G C->Cls K C/\aN K C f) (ha:QE K X o wa) (hv:QE K X value wv) (hs:swapsWith value (some (.Attribute o f MA)) pos.line X.env=pure false:=by rfl) :
  QS K X (.Assign [.Attribute o f MA] value pos) (vT G wa wv f):=by
 subst hK
 refine PS.of (Fh ha hv hs) λD U H zz93=>?_
 obtain ⟨S,LP,Dt,s,c,q,he⟩:=zz93
 refine ⟨S,LP,_,s,c,q,λy H1 ty S1 f1 s1 r1 q1=>?_⟩
 refine ⟨S1,LP,_,s1,c.fr f1,q1,λx H2 tx S2 f2 s2 r2 q2=>?_⟩
 obtain ⟨a,C,fs,rfl,ea,g,l,q2⟩:=q2
 cases r2
 cases s2 a _ ea with
 |ins eh pr =>
  obtain ⟨fw,sw⟩:=mO (f:=f) s2 ea eh pr (r1.fr f2)
  exact ⟨a,C,_,_,rfl,eh,(hG C g).1,(hG C g).2,by rw [Paired.len pr];exact l,he.nx _ _ LP _ ((f1.trans f2).trans fw) sw (c.fr ((f1.trans f2).trans fw)) q2⟩
def rO (G:Addr->Prop) (wa wv:WE) (f:Str):WS:=λD U S=>wa U S λx S1=>∃ a C fs i,x=.ref a/\S1 a=some (.ins C fs)/\G C/\fs.lookup f=some (.int i) /\
 wv U S1 λy S2=>∃ j M7,y=.int j/\S2 a=some (.ins C M7)/\M7.length<1000/\D.nx U (put S2 a (.ins C (cf f (.int (i+j)) M7)))
theorem qT {f:Str}{wv:WE}{value:Expr}{NP:Pos}(hK:X.K=K) (hG:∀ C,G C->Cls K C/\aN K C f) (ha:QE K X o wa) (hv:QE K X value wv):QS K X (.AugAssign (.Attribute o f NP) .Add value pos) (rO G wa wv f):=by
 subst hK
 refine PS.of (qF ha hv Fi) λD U H zz94=>?_
 obtain ⟨S,LP,Dt,s,c,q,he⟩:=zz94
 refine ⟨S,LP,_,s,c,q,λx H1 tx S1 f1 s1 r1 q1=>?_⟩
 obtain ⟨a,C,fs,i,rfl,ea,g,l,q1⟩:=q1
 cases r1
 cases s1 a _ ea with
 |ins eh pr =>
  obtain ⟨u,lu,ru⟩:=mM pr l
  cases ru
  refine ⟨a,C,_,_,_,rfl,eh,(hG C g).1,(hG C g).2,lu,S1,LP,_,s1,c.fr f1,q1,λy H2 ty S2 f2 s2 r2 q2=>?_⟩
  obtain ⟨j,M7,rfl,ea2,l2,q2⟩:=q2
  cases r2
  cases s2 a _ ea2 with
  |ins eh2 pr2 =>
   obtain ⟨fw,sw⟩:=mO (f:=f) (t:=.int (i+j)) (v:=.int (i+j)) s2 ea2 eh2 pr2 .int
   exact ⟨i,j,rfl,rfl,_,_,eh2,by rw [Paired.len pr2];exact l2,he.nx _ _ LP _ ((f1.trans f2).trans fw) sw (c.fr ((f1.trans f2).trans fw)) q2⟩
end
noncomputable def aT (S:Sto):T->Option (List T)
 |.lst ts=>some ts
 |.scr ns=>some (ns.map T.int)
 |.ref a=>match S a with
  |some (.lst ts)=>some ts
  |_=>none
 |_=>none
theorem fR {S:Sto}{p:Addr}{ts:List T}(e:S p=some (.lst ts)):aT S (.ref p)=some ts:=by delta aT;dsimp only;rw [e]
noncomputable def cW (S:Sto):T->Option (List T)
 |.lst ts=>some ts
 |.ref a=>match S a with
  |some (.lst ts)=>some ts
  |_=>none
 |_=>none
theorem jC {K H S t v ts}(s:SRp K H S) (r:Rp K H S t v) (e:cW S t=some ts):∃ p vs,v=.ref p/\H p=some (.lst vs)/\Rps K H S ts vs:=by
 cases r with
 |lst n h q=>cases e;exact ⟨_,_,rfl,h,q⟩
 |ref =>
  rename_i a
  delta cW at e
  dsimp only at e
  cases q:S a with
  |none=>rw [q] at e;cases e
  |some o =>
   rw [q] at e
   cases o with
   |lst us=>cases e;cases s a _ q with
    |lst h rs=>exact ⟨a,_,rfl,h,rs⟩
   |_=>cases e
 |_=>cases e
theorem cz {K H S t v ts}(s:SRp K H S) (r:Rp K H S t v) (e:aT S t=some ts):∃ p vs,v=.ref p/\SqL K H p vs/\Rps K H S ts vs:=by
 cases r with
 |scr h=>cases e;exact ⟨_,_,rfl,h.sq,Rps.ints⟩
 |lst n h q=>cases e;exact ⟨_,_,rfl,SqL.of h,q⟩
 |ref =>
  obtain ⟨p,vs,e1,e2,e3⟩:=jC s (Rp.ref (K:=K) (H:=H) (S:=S)) (show cW S (.ref _)=some ts from e)
  exact ⟨p,vs,e1,SqL.of e2,e3⟩
 |_=>cases e
def aZ (tr:Bool) (ts:List T) (S:Sto) (Q:T->Sto->Prop):Prop:=match tr with
 |false=>Q (.lst ts) S
 |true=>∀ p,S p=none->Q (.ref p) (put S p (.lst ts))
theorem dH {K H S ts vs tr Qt}{Q:VK}(s:SRp K H S) (r:Rps K H S ts vs) (n:aZ tr ts S Qt) (b:Bh K H S Qt Q):∀ p,H p=none->Q (.ref p) (upd H p (.lst vs)):=λp hp=>by
 cases tr with
 |false=>exact b _ _ (.lst ts) S (Fr.new hp) (s.new hp) (.lst (s.fresh hp) aK (r.fr (Fr.new hp))) n
 |true=>exact b _ _ (.ref p) _ (Fr.newT hp) (s.newT hp (.lst aK (r.fr (Fr.newT hp)))) .ref (n p (s.fresh hp))
section
variable {K:Fg}{X:Cx}
def gI (C:Int->Int->Prop) (f:Int->Int->T):G2:=λx y S Q=>match x,y with
 |.int i,.int j=>C i j/\Q (f i j) S
 |_,_=>False
theorem kn {f:Value->Value->Sem Value}{C:Int->Int->Prop}{g:Int->Int->Int}(h:OpR X f (rI C λi j=>.int (g i j))):OpR X f (l2 K (gI C λi j=>.int (g i j))):=by
 rintro pins s U H x y v u Q I rx ry ⟨S,tx,ty,Qt,sr,hx,hy,hg,b⟩
 cases hx<;>first|exact hg.elim|skip
 cases hy<;>first|exact hg.elim|skip
 exact h pins s U H _ _ v u Q I rx ry ⟨_,_,rfl,rfl,hg.1,b _ H _ S .refl sr .int hg.2⟩
theorem FH {f:Value->Value->Sem Value}{g:Int->Int->Int}(h:OpR X f (rI0 λi j=>.int (g i j))):OpR X f (l2 K (gI (λ_ _=>True) λi j=>.int (g i j))):=by
 rintro pins s U H x y v u Q I rx ry ⟨S,tx,ty,Qt,sr,hx,hy,hg,b⟩
 cases hx<;>first|exact hg.elim|skip
 cases hy<;>first|exact hg.elim|skip
 exact h pins s U H _ _ v u Q I rx ry ⟨_,_,rfl,rfl,b _ H _ S .refl sr .int hg.2⟩
def e8:G2:=gI (λ_ _=>True) λi j=>.int (i - j)
def wX:G2:=gI (λ_ j=>0<j/\j<18446744073709551616) λi j=>.int (i / j)
def wY:G2:=gI (λ_ j=>0<j) λi j=>.int (i % j)
def wZ:G2:=gI wI λi j=>.int (i ^ j.toNat)
def w5:G2:=gI (λ_ j=>0<=j) λi j=>.int (i / 2 ^ j.toNat)
theorem d4:OpR X (binaryOp .Sub) (l2 K e8):=FH E6
theorem di:OpR X (binaryOp .FloorDiv) (l2 K wX):=kn AL
theorem dJ:OpR X (binaryOp .Mod) (l2 K wY):=kn E8
theorem pc:OpR X (binaryOp .Pow) (l2 K wZ):=kn E9
theorem IF:OpR X (binaryOp .RShift) (l2 K w5):=kn Fa
def kM (tr:Bool):G2:=λx y S Q=>match x,y with
 |.int i,.int j=>Q (.int (i+j)) S
 |.str a,.str c=>a.length+c.length<=sizeLine/\Q (.str (a++c)) S
 |x,y=>∃ ts us,cW S x=some ts/\cW S y=some us/\ts.length+us.length<=sizeLine/\aZ tr (ts++us) S Q
theorem bi (tr:Bool):OpR X (binaryOp .Add) (l2 K (kM tr)):=by
 rintro pins s U H x y v u Q I rx ry ⟨S,tx,ty,Qt,sr,hx,hy,hg,b⟩
 have lists:(∃ ts us,cW S tx=some ts/\cW S ty=some us/\ts.length+us.length<=sizeLine/\aZ tr (ts++us) S Qt)->wpAny (model X.prog X.w) X.A (binaryOp .Add v u) (EP X pins U Q) X.xe s:=by
  rintro ⟨ts,us,e1,e2,hz,n⟩
  obtain ⟨p,vs,rfl,h1,r1⟩:=jC sr hx e1
  obtain ⟨q,ws,rfl,h2,r2⟩:=jC sr hy e2
  exact Fp pins s U H _ _ v u Q I rx ry ⟨p,q,vs,ws,rfl,rfl,h1,h2,by rw [r1.length,r2.length];exact hz,dH sr (r1.append r2) n b⟩
 cases tx with
 |int i =>
  cases ty with
  |int j=>cases hx;cases hy;exact E5 pins s U H _ _ v u Q I rx ry ⟨i,j,rfl,rfl,b _ H _ S .refl sr .int hg⟩
  |_=>exact lists hg
 |str a =>
  cases ty with
  |str c=>cases hx;cases hy;exact yZ pins s U H _ _ v u Q I rx ry ⟨a,c,rfl,rfl,hg.1,b _ H _ S .refl sr .str hg.2⟩
  |_=>exact lists hg
 |_=>exact lists hg
def w6 (tr:Bool):G2:=λx y S Q=>match x,y with
 |.int i,.int j=>iI i j/\Q (.int (i * j)) S
 |x,.int k=>∃ ts,cW S x=some ts /\ -(2 ^ 63)<=k/\k<2 ^ 63/\ts.length * k.toNat<=sizeLine/\aZ tr (List.replicate k.toNat ts).flatten S Q
 |_,_=>False
theorem Rps.rep {H S ts vs}(r:Rps K H S ts vs):∀ n:Nat,Rps K H S (List.replicate n ts).flatten (List.replicate n vs).flatten
 |0=>.nil
 |n+1=>by simp only [List.replicate_succ,List.flatten_cons];exact r.append (Rps.rep r n)
theorem d5 (tr:Bool):OpR X (binaryOp .Mult) (l2 K (w6 tr)):=by
 rintro pins s U H x y v u Q I rx ry ⟨S,tx,ty,Qt,sr,hx,hy,hg,b⟩
 have lists:∀ k,ty=.int k->(∃ ts,cW S tx=some ts /\ -(2 ^ 63)<=k/\k<2 ^ 63/\ts.length * k.toNat<=sizeLine/\aZ tr (List.replicate k.toNat ts).flatten S Qt)->wpAny (model X.prog X.w) X.A (binaryOp .Mult v u) (EP X pins U Q) X.xe s:=by
  rintro k rfl ⟨ts,e1,k1,k2,hz,n⟩
  obtain ⟨p,vs,rfl,h1,r1⟩:=jC sr hx e1
  cases hy
  exact Fq pins s U H _ _ v u Q I rx ry ⟨p,k,vs,rfl,rfl,h1,k1,k2,by rw [r1.length];exact hz,dH sr (r1.rep _) n b⟩
 cases ty with
 |int k =>
  cases tx with
  |int i=>cases hx;cases hy;exact E7 pins s U H _ _ v u Q I rx ry ⟨i,k,rfl,rfl,hg.1,b _ H _ S .refl sr .int hg.2⟩
  |_=>exact lists k rfl hg
 |_=>cases tx<;>exact hg.elim
mutual
noncomputable def c6:T->Option PyData
 |.non=>some .none
 |.bl b=>some (.bool b)
 |.int i=>some (.int i)
 |.str x=>some (.str x)
 |.tup ts=>(bF ts).map .tuple
 |.lst ts=>(bF ts).map .list
 |.scr ns=>some (.list (ns.map .int))
 |_=>none
noncomputable def bF:List T->Option (List PyData)
 |[]=>some []
 |t::ts=>match c6 t,bF ts with
  |some d,some ds=>some (d::ds)
  |_,_=>none
end
noncomputable def eA (S:Sto) (t:T):Option PyData:=match t with
 |.ref a=>match S a with
  |some (.lst ts)=>(bF ts).map .list
  |_=>none
 |t=>c6 t
theorem rP {ts:List T}:c6 (.tup ts)=(bF ts).map .tuple:=rfl
theorem rQ {ts:List T}:c6 (.lst ts)=(bF ts).map .list:=rfl
theorem sM {t:T}{ts:List T}:bF (t::ts)=(match c6 t,bF ts with|some d,some ds=>some (d::ds)|_,_=>none):=rfl
theorem sN {t:T}{ts:List T}{d:PyData}{ds:List PyData}(h1:c6 t=some d) (h2:bF ts=some ds):bF (t::ts)=some (d::ds):=by rw [sM,h1,h2]
theorem CW {t:T}{ts:List T}{es:List PyData}(e:bF (t::ts)=some es):∃ d ds,c6 t=some d/\bF ts=some ds/\es=d::ds:=by
 rw [sM] at e
 cases h1:c6 t with
 |none=>rw [h1] at e;cases e
 |some d =>
  cases h2:bF ts with
  |none=>rw [h1,h2] at e;cases e
  |some dl=>rw [h1,h2] at e;cases e;exact ⟨d,dl,rfl,rfl,rfl⟩
theorem AZ {H:Hp}{ns:List Int}:DatVs K H (ns.map V.int) (ns.map PyData.int):=by
 induction ns with
 |nil=>exact .nil
 |cons a l ih=>exact .cons (.int a) ih
mutual
theorem nB {H S}:∀ {t v d},Rp K H S t v->c6 t=some d->DatV K H v d
 |_,_,_,.non,e=>by cases e;exact .non
 |_,_,_,.bl,e=>by cases e;exact .bl _
 |_,_,_,.int,e=>by cases e;exact .int _
 |_,_,_,.str,e=>by cases e;exact .str _
 |_,_,_,.ty,e=>by cases e
 |_,_,_,.ref,e=>by cases e
 |_,_,_,.tup n h r,e=>by
  simp only [rP,rQ,Option.map_eq_some_iff] at e
  obtain ⟨ds,e,rfl⟩:=e
  exact .tup (SqT.of h) (jn r e)
 |_,_,_,.lst n h r,e=>by
  simp only [rP,rQ,Option.map_eq_some_iff] at e
  obtain ⟨ds,e,rfl⟩:=e
  exact .lst (SqL.of h) (jn r e)
 |_,_,_,.scr h,e=>by cases e;exact .lst h.sq AZ
theorem jn {H S}:∀ {ts vs ds},Rps K H S ts vs->bF ts=some ds->DatVs K H vs ds
 |_,_,_,.nil,e=>by cases e;exact .nil
 |_,_,_,.cons (t:=t) (ts:=ts) a r,e=>by
  obtain ⟨d,dl,h1,h2,rfl⟩:=CW e
  exact .cons (nB a h1) (jn r h2)
end
theorem jD {H S t v d}(s:SRp K H S) (r:Rp K H S t v) (e:eA S t=some d):DatV K H v d:=by
 cases t with
 |ref a =>
  cases r
  delta eA at e
  dsimp only at e
  cases q:S a with
  |none=>rw [q] at e;cases e
  |some o =>
   rw [q] at e
   cases o with
   |lst us =>
    simp only [Option.map_eq_some_iff] at e
    obtain ⟨ds,e,rfl⟩:=e
    cases s a _ q with
    |lst h rs=>exact .lst (SqL.of h) (jn rs e)
   |_=>cases e
 |_=>exact nB r e
def gEq (neg:Bool):G2:=λx y S Q=>match x,y with
 |.int i,.int j=>Q (.bl (neg ^^ decide (i=j))) S
 |.str i,.str j=>Q (.bl (neg ^^ decide (i=j))) S
 |.bl i,.bl j=>Q (.bl (neg ^^ decide (i=j))) S
 |x,y=>∃ dx dy,eA S x=some dx/\eA S y=some dy/\dx.canLay0=true/\dy.canLay0=true/\min dx.depth dy.depth<=64/\Q (.bl (neg ^^ PyData.eqv dx dy)) S
theorem eB (hK:X.K=K) (hu:X.A.units+64<cLine):OpR X (compareOp .Eq) (l2 K (gEq false)):=by
 subst hK
 rintro pins s U H x y v u Q I rx ry ⟨S,tx,ty,Qt,sr,hx,hy,hg,b⟩
 have deep:(∃ dx dy,eA S tx=some dx/\eA S ty=some dy/\dx.canLay0=true/\dy.canLay0=true/\min dx.depth dy.depth<=64/\Qt (.bl (false ^^ PyData.eqv dx dy)) S)->wpAny (model X.prog X.w) X.A (compareOp .Eq v u) (EP X pins U Q) X.xe s:=by
  rintro ⟨dx,dy,e1,e2,c1,c2,hd,q⟩
  exact Ft hu pins s U H _ _ v u Q I rx ry ⟨dx,dy,jD sr hx e1,jD sr hy e2,c1,c2,hd,b _ H _ S .refl sr .bl q⟩
 cases tx with
 |int i =>
  cases ty with
  |int j=>cases hx;cases hy;exact oW pins s U H _ _ v u Q I rx ry ⟨rfl,b _ H _ S .refl sr .bl (by have hg:Qt (.bl (false ^^ decide (i=j))) S:=hg;simpa using hg)⟩
  |_=>exact deep hg
 |str i =>
  cases ty with
  |str j=>cases hx;cases hy;exact oW pins s U H _ _ v u Q I rx ry ⟨rfl,b _ H _ S .refl sr .bl (by have hg:Qt (.bl (false ^^ decide (i=j))) S:=hg;simpa using hg)⟩
  |_=>exact deep hg
 |bl i =>
  cases ty with
  |bl j=>cases hx;cases hy;exact oW pins s U H _ _ v u Q I rx ry ⟨rfl,b _ H _ S .refl sr .bl (by have hg:Qt (.bl (false ^^ decide (i=j))) S:=hg;simpa using hg)⟩
  |_=>exact deep hg
 |_=>exact deep hg
theorem pH (hK:X.K=K) (hu:X.A.units+64<cLine):OpR X (compareOp .NotEq) (l2 K (gEq true)):=by
 subst hK
 rintro pins s U H x y v u Q I rx ry ⟨S,tx,ty,Qt,sr,hx,hy,hg,b⟩
 have deep:(∃ dx dy,eA S tx=some dx/\eA S ty=some dy/\dx.canLay0=true/\dy.canLay0=true/\min dx.depth dy.depth<=64/\Qt (.bl (true ^^ PyData.eqv dx dy)) S)->wpAny (model X.prog X.w) X.A (compareOp .NotEq v u) (EP X pins U Q) X.xe s:=by
  rintro ⟨dx,dy,e1,e2,c1,c2,hd,q⟩
  exact Fu hu pins s U H _ _ v u Q I rx ry ⟨dx,dy,jD sr hx e1,jD sr hy e2,c1,c2,hd,b _ H _ S .refl sr .bl q⟩
 cases tx with
 |int i =>
  cases ty with
  |int j=>cases hx;cases hy;exact oX pins s U H _ _ v u Q I rx ry ⟨rfl,b _ H _ S .refl sr .bl (by have hg:Qt (.bl (true ^^ decide (i=j))) S:=hg;simpa using hg)⟩
  |_=>exact deep hg
 |str i =>
  cases ty with
  |str j=>cases hx;cases hy;exact oX pins s U H _ _ v u Q I rx ry ⟨rfl,b _ H _ S .refl sr .bl (by have hg:Qt (.bl (true ^^ decide (i=j))) S:=hg;simpa using hg)⟩
  |_=>exact deep hg
 |bl i =>
  cases ty with
  |bl j=>cases hx;cases hy;exact oX pins s U H _ _ v u Q I rx ry ⟨rfl,b _ H _ S .refl sr .bl (by have hg:Qt (.bl (true ^^ decide (i=j))) S:=hg;simpa using hg)⟩
  |_=>exact deep hg
 |_=>exact deep hg
noncomputable def ltS (a c:Str):Bool:=decide (a.cps.toList<c.cps.toList)
def gLt:G2:=λx y S Q=>match x,y with
 |.int i,.int j=>Q (.bl (decide (i<j))) S
 |.str a,.str c=>Q (.bl (ltS a c)) S
 |_,_=>False
def gLe:G2:=λx y S Q=>match x,y with
 |.int i,.int j=>Q (.bl (decide (i<=j))) S
 |.str a,.str c=>Q (.bl (!ltS c a)) S
 |_,_=>False
def gGt:G2:=λx y S Q=>match x,y with
 |.int i,.int j=>Q (.bl (decide (j<i))) S
 |_,_=>False
def gGe:G2:=λx y S Q=>match x,y with
 |.int i,.int j=>Q (.bl (decide (j<=i))) S
 |_,_=>False
theorem cI:OpR X (compareOp .Lt) (l2 K gLt):=by
 rintro pins s U H x y v u Q I rx ry ⟨S,tx,ty,Qt,sr,hx,hy,hg,b⟩
 cases hx<;>first|exact hg.elim|skip
 ·cases hy<;>first|exact hg.elim|skip
  exact Ig pins s U H _ _ v u Q I rx ry ⟨_,_,rfl,rfl,b _ H _ S .refl sr .bl hg⟩
 ·cases hy<;>first|exact hg.elim|skip
  exact zC pins s U H _ _ v u Q I rx ry ⟨_,_,rfl,rfl,b _ H _ S .refl sr .bl hg⟩
theorem cy:OpR X (compareOp .LtE) (l2 K gLe):=by
 rintro pins s U H x y v u Q I rx ry ⟨S,tx,ty,Qt,sr,hx,hy,hg,b⟩
 cases hx<;>first|exact hg.elim|skip
 ·cases hy<;>first|exact hg.elim|skip
  exact Ih pins s U H _ _ v u Q I rx ry ⟨_,_,rfl,rfl,b _ H _ S .refl sr .bl hg⟩
 ·cases hy<;>first|exact hg.elim|skip
  exact zO pins s U H _ _ v u Q I rx ry ⟨_,_,rfl,rfl,b _ H _ S .refl sr .bl hg⟩
theorem gA:OpR X (compareOp .Gt) (l2 K gGt):=by
 rintro pins s U H x y v u Q I rx ry ⟨S,tx,ty,Qt,sr,hx,hy,hg,b⟩
 cases hx<;>first|exact hg.elim|skip
 cases hy<;>first|exact hg.elim|skip
 exact Ii pins s U H _ _ v u Q I rx ry ⟨_,_,rfl,rfl,b _ H _ S .refl sr .bl hg⟩
theorem w9:OpR X (compareOp .GtE) (l2 K gGe):=by
 rintro pins s U H x y v u Q I rx ry ⟨S,tx,ty,Qt,sr,hx,hy,hg,b⟩
 cases hx<;>first|exact hg.elim|skip
 cases hy<;>first|exact hg.elim|skip
 exact Ij pins s U H _ _ v u Q I rx ry ⟨_,_,rfl,rfl,b _ H _ S .refl sr .bl hg⟩
def isN:T->Bool
 |.non=>true
 |_=>false
def gIs (neg:Bool):G2:=λx y S Q=>match y with
 |.non=>Q (.bl (neg ^^ isN x)) S
 |_=>False
theorem IG {H S t v}(r:Rp K H S t v):decide (v=V.non)=isN t:=by cases r<;>simp [isN]
theorem xa:OpR X (compareOp .Is) (l2 K (gIs false)):=by
 rintro pins s U H x y v u Q I rx ry ⟨S,tx,ty,Qt,sr,hx,hy,hg,b⟩
 cases hy<;>first|exact hg.elim|skip
 refine Fd pins s U H _ _ v u Q I rx ry ⟨rfl,b _ H _ S .refl sr .bl ?_⟩
 rw [IG hx];simpa [gIs] using hg
def xb (wa:WE):WE:=λU S Q=>wa U S λx S1=>match x with
 |.int i=>Q (.int (-i)) S1
 |_=>False
theorem cX {a:Expr}{wa:WE}{pos:Pos}(ha:QE K X a wa):QE K X (.UnaryOp .USub a pos) (xb wa):=PE.of (Ie Fc ha) λU H Q zz95=>by
 obtain ⟨S,LP,Qt,s,c,q,hq⟩:=zz95
 refine ⟨S,LP,_,s,c,q,λx H1 tx S1 f1 s1 r1 q1=>?_⟩
 cases r1<;>first|exact q1.elim|skip
 exact ⟨_,rfl,hq _ H1 _ S1 f1 s1 .int q1⟩
def ixT (S:Sto) (x y:T):Option T:=match x,y with
 |.tup ts,.int i=>atI ts i
 |.str z,.int i=>if z.length<=sizeLine then (atI z.cps.toList i).map λc=>.str ⟨#[c]⟩ else none
 |x,.int i=>(aT S x).bind λts=>atI ts i
 |_,_=>none
theorem FI {S:Sto}{p:Addr}{ts:List T}{i:Int}(e:S p=some (.lst ts)):ixT S (.ref p) (.int i)=atI ts i:=by
 show (aT S (.ref p)).bind (λts=>atI ts i)=_
 rw [fR e];rfl
theorem uu {S:Sto}{ts:List T}{i:Int}:ixT S (.lst ts) (.int i)=atI ts i:=rfl
def gIx:G2:=λx y S Q=>∃ r,ixT S x y=some r/\Q r S
theorem uv {H S ts vs i t}(r:Rps K H S ts vs) (e:atI ts i=some t):∃ v,atI vs i=some v/\Rp K H S t v:=by
 unfold atI at e ⊢
 rw [r.length]
 cases q:ixN ts.length i with
 |none=>rw [q] at e;cases e
 |some j =>
  rw [q] at e
  simp only [Option.bind_some] at e ⊢
  exact r.get e
theorem KW (hK:X.K=K):IxR X (l2 K gIx):=by
 subst hK
 rintro value slice pins s U H x y v u Q I rx ry ⟨S,tx,ty,Qt,sr,hx,hy,⟨r,e,q⟩,b⟩ hs
 have lists:∀ i,ty=.int i->(aT S tx).bind (λts=>atI ts i)=some r->wpAny (model X.prog X.w) X.A (subscriptTail value slice v u) (EP X pins U Q) X.xe s:=by
  rintro i rfl e
  cases hy
  cases h1:aT S tx with
  |none=>rw [h1] at e;cases e
  |some ts =>
   rw [h1] at e
   obtain ⟨p,vs,rfl,hq,rs⟩:=cz sr hx h1
   obtain ⟨w',e2,r2⟩:=uv rs e
   exact Cw value slice pins s U H _ _ v u Q I rx ry ⟨p,vs,i,w',rfl,rfl,hq,e2,b _ H _ S .refl sr r2 q⟩ hs
 cases ty with
 |int i =>
  cases tx with
  |tup ts =>
   cases hy
   cases hx with
   |tup n hp rs =>
    obtain ⟨w',e2,r2⟩:=uv rs (show atI ts i=some r from e)
    exact Fl value slice pins s U H _ _ v u Q I rx ry ⟨_,_,i,w',rfl,rfl,SqT.of hp,e2,b _ H _ S .refl sr r2 q⟩ hs
  |str z =>
   cases hy
   cases hx
   delta ixT at e
   dsimp only at e
   split at e
   ·next hz =>
    simp only [Option.map_eq_some_iff] at e
    obtain ⟨c,e,rfl⟩:=e
    exact Fm value slice pins s U H _ _ v u Q I rx ry ⟨z,i,c,rfl,rfl,hz,e,b _ H _ S .refl sr .str q⟩ hs
   ·cases e
  |_=>exact lists i rfl e
 |_=>cases tx<;>cases e
theorem KY {a c:Expr}{wa wc:WE}{pos:Pos}(hK:X.K=K) (ha:QE K X a wa) (hc:QE K X c wc) (hs:ny c):QE K X (.Subscript a c pos) (w2 gIx wa wc):=PE.of (Il (KW hK) ha hc hs) λ_ _ _ h=>km h
abbrev WO:=StT->Sto->(Option Int->Sto->Prop)->Prop
def lO (K:Fg) (w:WO):TO:=λU H Q=>∃ S LP Qt,SRp K H S/\Cov K H S U LP/\w LP S Qt/\∀ b H' S',Fr H S H' S'->SRp K H' S'->Qt b S'->Q b H'
def QO (K:Fg) (X:Cx) (e:Option Expr) (w:WO):Prop:=PO X e (lO K w)
theorem PO.of {e:Option Expr}{t t':TO}(h:PO X e t) (i:∀ U H Q,t' U H Q->t U H Q):PO X e t':=λpins s U H Q I q=>h pins s U H Q I (i U H Q q)
def woN:WO:=λ_ S Q=>Q none S
def woS (wa:WE):WO:=λU S Q=>wa U S λx S1=>match x with
 |.int i=>Q (some i) S1
 |_=>False
theorem eP:QO K X none woN:=PO.of Cu λU H Q zz96=>by obtain ⟨S,LP,Qt,s,c,q,hq⟩:=zz96;exact hq none H S .refl s q
theorem dE {e:Expr}{wa:WE}(h:QE K X e wa):QO K X (some e) (woS wa):=PO.of (Cv h) λU H Q zz97=>by
 obtain ⟨S,LP,Qt,s,c,q,hq⟩:=zz97
 refine ⟨S,LP,_,s,c,q,λx H1 tx S1 f1 s1 r1 q1=>?_⟩
 cases r1<;>first|exact q1.elim|skip
 exact ⟨_,rfl,hq _ H1 S1 f1 s1 q1⟩
def fh (ts:List T) (lo hi:Option Int):List T:=(ts.drop (HT.sIx ts.length 0 lo)).take (HT.sIx ts.length ts.length hi - HT.sIx ts.length 0 lo)
theorem FJ {H S ts vs lo hi}(r:Rps K H S ts vs):Rps K H S (fh ts lo hi) (gz vs lo hi):=by
 unfold fh gz
 rw [r.length]
 exact (r.drop _).take _
def gSl (tr:Bool) (x:T) (lo hi:Option Int) (S:Sto) (Q:T->Sto->Prop):Prop:=match x with
 |.str z=>z.length<=sizeLine/\Q (.str (Txt.slice z lo hi)) S
 |x=>∃ ts,aT S x=some ts/\aZ tr (fh ts lo hi) S Q
def l3 (K:Fg) (g:T->Option Int->Option Int->Sto->(T->Sto->Prop)->Prop):V->Option Int->Option Int->Hp->VK->Prop:=λx lo hi H Q=>∃ S tx Qt,SRp K H S/\Rp K H S tx x/\g tx lo hi S Qt/\Bh K H S Qt Q
theorem KZ (tr:Bool) (hK:X.K=K):SlR X (l3 K (gSl tr)):=by
 subst hK
 rintro pins s U H x v vl vu lo hi sl Q I rx hs pl pu ⟨S,tx,Qt,sr,hx,hg,b⟩
 have lists:(∃ ts,aT S tx=some ts/\aZ tr (fh ts lo hi) S Qt)->wL X.K x lo hi H Q:=by
  rintro ⟨ts,e,n⟩
  obtain ⟨p,vs,rfl,hq,rs⟩:=cz sr hx e
  exact ⟨p,vs,rfl,hq,dH sr (FJ rs) n b⟩
 cases tx with
 |str z=>cases hx;exact Fw pins s U H _ v vl vu lo hi sl Q I rx hs pl pu ⟨z,rfl,hg.1,b _ H _ S .refl sr .str hg.2⟩
 |_=>exact Cy pins s U H _ v vl vu lo hi sl Q I rx hs pl pu (lists hg)
def wSl (tr:Bool) (wa:WE) (wl wh:WO):WE:=λU S Q=>wa U S λx S1=>wl U S1 λl S2=>wh U S2 λh S3=>gSl tr x l h S3 Q
theorem dX (tr:Bool){e:Expr}{lo hi:Option Expr}{wa:WE}{wl wh:WO}{p2 pos:Pos}(hK:X.K=K) (he:QE K X e wa) (hl:QO K X lo wl) (hu:QO K X hi wh):QE K X (.Subscript e (.Slice lo hi none p2) pos) (wSl tr wa wl wh) :=
 PE.of (AH (KZ tr hK) he hl hu) λU H Q zz98=>by
  obtain ⟨S,LP,Qt,s,c,q,hq⟩:=zz98
  refine ⟨S,LP,_,s,c,q,λx H1 tx S1 f1 s1 r1 q1=>?_⟩
  refine ⟨S1,LP,_,s1,c.fr f1,q1,λl H2 S2 f2 s2 q2=>?_⟩
  refine ⟨S2,LP,_,s2,c.fr (f1.trans f2),q2,λh H3 S3 f3 s3 q3=>?_⟩
  exact ⟨S3,tx,Qt,s3,(r1.fr f2).fr f3,q3,λv H' t S' f=>hq v H' t S' (((f1.trans f2).trans f3).trans f)⟩
end
structure Src where
 items:List T
 grd:Sto->Prop
abbrev WI:=StT->Sto->(Src->Sto->Prop)->Prop
structure Iter (K:Fg) (J:It) (src:Src) (H1:Hp) (S1:Sto):Prop where
 go:∀ H S i,Fr H1 S1 H S->SRp K H S->src.grd S->i<src.items.length->J.go i H
 yld:∀ H S i x H',Fr H1 S1 H S->SRp K H S->src.grd S->i<src.items.length->J.yld i H x H'->∃ t,src.items[i]?=some t/\Fr H S H' S/\SRp K H' S/\Rp K H' S t x
 stop:∀ H S,Fr H1 S1 H S->SRp K H S->src.grd S->J.stop src.items.length H
def lI (K:Fg) (w:WI):TI:=λU H R=>∃ S LP Rt,SRp K H S/\Cov K H S U LP/\w LP S Rt/\∀ J H1 src S1,Fr H S H1 S1->SRp K H1 S1->Iter K J src H1 S1->Rt src S1->R J H1
def QI (K:Fg) (X:Cx) (tg iter:Expr) (w:WI):Prop:=PI X tg iter (lI K w)
section
variable {K:Fg}{X:Cx}{tg:Expr}
theorem PI.of {e:Expr}{t t':TI}(h:PI X tg e t) (i:∀ U H Q,t' U H Q->t U H Q):PI X tg e t':=λpins s U H Q I q=>h pins s U H Q I (i U H Q q)
theorem sO {α:Type}{l:List α}{i:Nat}{t:α}(h:l[i]?=some t):l.drop i=t::l.drop (i+1):=by
 obtain ⟨hl,e⟩:=List.getElem?_eq_some_iff.mp h
 rw [<- e];exact List.drop_eq_getElem_cons hl
def dP (grd:Sto->Prop) (g:WG) (wb:WS) (D:EndsT):List T->StT->Sto->Prop
 |[],U,S=>grd S/\D.nx U S
 |t::ts,U,S=>grd S/\g t U S λMz S2=>wb { nx:=dP grd g wb D ts,rt:=D.rt,bk:=D.nx,ct:=dP grd g wb D ts } Mz S2
def pI (wi:WI) (g:WG) (wb:WS):WS:=λD U S=>wi U S λsrc S1=>dP src.grd g wb D src.items U S1
theorem CY {wi:WI}{g:WG}{wb:WS}{D U H}(h:lS K (pI wi g wb) D U H):wG (lI K wi) (lG K g) (lS K wb) D U H:=by
 obtain ⟨S,LP,Dt,s,c,q,he⟩:=h
 refine ⟨S,LP,_,s,c,q,λJ H1 src S1 f1 s1 it q1=>?_⟩
 refine ⟨λi m U H=>m=src.items.length - i/\i<=src.items.length/\∃ S LP,Fr H1 S1 H S/\SRp K H S/\Cov K H S U LP/\dP src.grd g wb Dt (src.items.drop i) LP S,
  ⟨_,rfl,Nat.zero_le _,S1,LP,.refl,s1,c.fr f1,by simpa using q1⟩,?_⟩
 rintro i m U H ⟨rfl,hi,S2,Oh,f2,s2,c2,q2⟩
 by_cases hl:i<src.items.length
 ·have e1:src.items[i]?=some src.items[i]:=by simp [hl]
  rw [sO e1] at q2
  obtain ⟨hg,q2⟩:=q2
  refine .inr ⟨it.go H S2 i f2 s2 hg hl,λLO H'=>∃ S LP,Fr H1 S1 H' S/\SRp K H' S/\Cov K H' S LO LP/\dP src.grd g wb Dt (src.items.drop (i+1)) LP S,λLO H' n=>⟨src.items.length - (i+1),by omega,rfl,hl,n⟩,λx H' y=>?_⟩
  obtain ⟨t,et,f3,s3,r3⟩:=it.yld H S2 i x H' f2 s2 hg hl y
  rw [e1] at et;cases et
  refine ⟨S2,_,Oh,_,s3,r3,c2.fr f3,q2,λσ4 H4 QU S4 f4 s4 c4 q4=>?_⟩
  have fA:=(f2.trans f3).trans f4
  refine ⟨S4,QU,_,s4,c4,q4,⟨λLO H' L1 S' f s' c' q'=>⟨S',L1,fA.trans f,s',c',q'⟩,λv H' t S' f=>he.rt v H' t S' ((f1.trans fA).trans f),λLO H' L1 S' f=>he.nx LO H' L1 S' ((f1.trans fA).trans f),λLO H' L1 S' f s' c' q'=>⟨S',L1,fA.trans f,s',c',q'⟩⟩⟩
 ·have e:i=src.items.length:=by omega
  subst e
  rw [List.drop_eq_nil_of_le (Nat.le_refl _)] at q2
  exact .inl ⟨it.stop H S2 f2 s2 q2.1,he.nx U H Oh S2 (f1.trans f2) s2 c2 q2.2⟩
theorem cD {iter:Expr}{body:List Stmt}{wi:WI}{g:WG}{wb:WS}{pos:Pos}(hp:PassesOwn (model X.prog X.w) X.A X.env X.xe) (hc:X.calm=true) (hi:QI K X tg iter wi) (hg:QG K X tg g) (hb:QSs K X body wb)
  (hs:∀ x,foldedSetIterable iter X.env x=pure x:=by intro _;rfl):QS K X (.For tg iter body [] pos) (pI wi g wb):=PS.of (E4 hp hc hi hg hb hs) λ_ _ _ h=>CY h
def g5 (t:T) (ts:List T) (S:Sto):Prop:=match t with
 |.ref a=>S a=some (.lst ts)
 |_=>True
def wiL (wa:WE):WI:=λU S R=>wa U S λx S1=>∃ ts,aT S1 x=some ts/\R ⟨ts,g5 x ts⟩ S1
theorem zW {S S':Sto}{x:T}{ts:List T}(e:aT S x=some ts) (h:g5 x ts S'):aT S' x=some ts:=by
 cases x with
 |ref a=>exact fR h
 |lst us=>exact e
 |scr us=>exact e
 |_=>cases e
theorem zX {H1:Hp}{S1:Sto}{x:T}{a:Addr}{ts:List T}(r:Rp K H1 S1 x (.ref a)) (e:aT S1 x=some ts):Iter K (Itl K a) ⟨ts,g5 x ts⟩ H1 S1:=by
 have main:∀ H S,Fr H1 S1 H S->SRp K H S->g5 x ts S->∃ vs,SqL K H a vs/\Rps K H S ts vs:=λH S f s g=>by
  obtain ⟨p,vs,ep,hq,rs⟩:=cz s (r.fr f) (zW e g)
  cases ep
  exact ⟨vs,hq,rs⟩
 refine ⟨λH S i f s g hl=>?_,λH S i y H' f s g hl hy=>?_,λH S f s g=>?_⟩
 ·obtain ⟨vs,hq,rs⟩:=main H S f s g
  obtain ⟨v,hv,_⟩:=rs.get (i:=i) (t:=ts[i]) (by simp [show i<ts.length from hl])
  exact ⟨vs,v,hq,hv⟩
 ·obtain ⟨vs,hq,rs⟩:=main H S f s g
  obtain ⟨rfl,hy⟩:=hy
  obtain ⟨t,et,rt⟩:=rs.getV (hy vs hq)
  exact ⟨t,et,.refl,s,rt⟩
 ·obtain ⟨vs,hq,rs⟩:=main H S f s g
  exact ⟨vs,hq,by rw [rs.length];exact Nat.le_refl _⟩
theorem cB {l:Expr}{wa:WE}(hK:X.K=K) (hl:QE K X l wa):QI K X tg l (wiL wa):=by
 subst hK
 refine PI.of (Ce hl) λU H R zz99=>?_
 obtain ⟨S,LP,Rt,s,c,q,hq⟩:=zz99
 refine ⟨S,LP,_,s,c,q,λv H1 t S1 f1 s1 r1 q1=>?_⟩
 obtain ⟨ts,e,q1⟩:=q1
 obtain ⟨p,vs,rfl,hS,rs⟩:=cz s1 r1 e
 exact ⟨p,rfl,⟨vs,hS⟩,hq _ H1 _ S1 f1 s1 (zX r1 e) q1⟩
def bT (lo:Int) (n:Nat):List T:=(List.range n).map λ(i:Nat)=>T.int (lo+i)
theorem qy {lo:Int}{n:Nat}{H1 S1}:Iter K (Itr lo n) ⟨bT lo n,λ_=>True⟩ H1 S1:=by
 refine ⟨λH S i f s g hl=>by simpa [bT,Itr] using hl,λH S i y H' f s g hl hy=>?_,λH S f s g=>by simp [bT,Itr]⟩
 obtain ⟨rfl,rfl⟩:=hy
 have hl':i<n:=by simpa [bT] using hl
 exact ⟨.int (lo+i),by simp [bT,hl'],.refl,s,.int⟩
def xc (wa:WE):WI:=λU S R=>wa U S λx S1=>match x with
 |.int j=>-(2 ^ 62)<=j/\j<2 ^ 62/\R ⟨bT 0 j.toNat,λ_=>True⟩ S1
 |_=>False
def xf (wa wb:WE):WI:=λU S R=>wa U S λx S1=>wb U S1 λy S2=>match x,y with
 |.int i,.int j=>(-(2 ^ 62)<=i/\i<2 ^ 62 /\ -(2 ^ 62)<=j/\j<2 ^ 62)/\R ⟨bT i (j - i).toNat,λ_=>True⟩ S2
 |_,_=>False
theorem dB {a:Expr}{wa:WE}{p pos:Pos}(hg:Gl X "range") (hm:X.mg "range"=none) (ha:QE K X a wa) (hs:starEach [a] X.env=[(false,eval a X.env)]:=by rfl) (RJ:starEach [a] X.env=(false,eval a X.env)::starEach [] X.env:=by rfl) :
  QI K X tg (.Call (.Name "range" p) [a] [] pos) (xc wa) :=
 PI.of (zy hg hm (jx ha nY RJ) hs) λU H R zz100=>by
  obtain ⟨S,LP,Rt,s,c,q,hq⟩:=zz100
  refine ⟨S,LP,_,s,c,q,λx H1 tx S1 f1 s1 r1 q1=>?_⟩
  cases r1<;>first|exact q1.elim|skip
  exact ⟨_,rfl,q1.1,q1.2.1,hq _ H1 _ S1 f1 s1 qy q1.2.2⟩
theorem qU {a b:Expr}{wa wb:WE}{p pos:Pos}(hg:Gl X "range") (hm:X.mg "range"=none) (ha:QE K X a wa) (hb:QE K X b wb) (hs:starEach [a,b] X.env=[(false,eval a X.env),(false,eval b X.env)]:=by rfl)
  (Sq:starEach [b] X.env=[(false,eval b X.env)]:=by rfl) (RJ:starEach [a,b] X.env=(false,eval a X.env)::starEach [b] X.env:=by rfl) (hs3:starEach [b] X.env=(false,eval b X.env)::starEach [] X.env:=by rfl):QI K X tg (.Call (.Name "range" p) [a,b] [] pos) (xf wa wb) :=
 PI.of (zA hg hm (jx ha (jx hb nY hs3) RJ) hs Sq) λU H R zz101=>by
  obtain ⟨S,LP,Rt,s,c,q,hq⟩:=zz101
  refine ⟨S,LP,_,s,c,q,λx H1 tx S1 f1 s1 r1 q1=>?_⟩
  refine ⟨S1,LP,_,s1,c.fr f1,q1,λy H2 ty S2 f2 s2 r2 q2=>?_⟩
  cases r1<;>first|exact q2.elim|skip
  cases r2<;>first|exact q2.elim|skip
  exact ⟨_,_,rfl,q2.1,hq _ H2 _ S2 (f1.trans f2) s2 qy q2.2⟩
def cT (z:Str):List T:=z.cps.toList.map λc=>T.str ⟨#[c]⟩
def wiS (wa:WE):WI:=λU S R=>wa U S λx S1=>match x with
 |.str z=>R ⟨cT z,λ_=>True⟩ S1
 |_=>False
theorem uw {l:Expr}{wa:WE}(hl:QE K X l wa):QI K X tg l (wiS wa):=PI.of (Fv hl) λU H R zz102=>by
 obtain ⟨S,LP,Rt,s,c,q,hq⟩:=zz102
 refine ⟨S,LP,_,s,c,q,λx H1 tx S1 f1 s1 r1 q1=>?_⟩
 cases r1<;>first|exact q1.elim|skip
 refine ⟨_,rfl,hq _ H1 _ S1 f1 s1 ⟨λH S i f s g hl=>by simpa [cT,Its] using hl,λH S i y H' f s g hl hy=>?_,λH S f s g=>by simp [cT,Its]⟩ q1⟩
 obtain ⟨rfl,c,ec,rfl⟩:=hy
 exact ⟨.str ⟨#[c]⟩,by simp [cT,ec],.refl,s,.str⟩
def QTs (K:Fg) (X:Cx) (N3:List Expr) (w:WT):Prop:=PTs X N3 (lT K w)
def ko:WT:=λ_ S Q=>Q true S
theorem cQ:QTs K X [] ko:=λpins s U H Q I zz103=>by obtain ⟨S,LP,Qt,sr,c,q,hq⟩:=zz103;exact CH pins s U H Q I (hq true H S .refl sr q)
theorem jE {c:Expr}{w:WT}(h:QT K X c w):QTs K X [c] w:=CI h
noncomputable def fJ (n:Nat) (LS:List Nat) (U:StT):StT:=List.replicate n none++LS.map λi=>(U[i]?).join
def dj (grd:Sto->Prop) (g:WG) (tt:WT) (te:WE) (Q:List T->Sto->Prop):List T->List T->StT->Sto->Prop
 |[],LQ,_,S=>grd S/\Q LQ S
 |x::xs,LQ,U,S=>grd S/\g x U S λMz S2=>tt Mz S2 λb S3=>if b=true then te Mz S3 λy S4=>LQ.length<sizeLine/\dj grd g tt te Q xs (LQ++[y]) Mz S4 else dj grd g tt te Q xs LQ Mz S3
def kr (tr:Bool) (wi:WI) (n:Nat) (LS:List Nat) (g:WG) (tt:WT) (te:WE):WE:=λU S Q=>wi U S λsrc S1=>dj src.grd g tt te (λts S2=>aZ tr ts S2 Q) src.items [] (fJ n LS U) S1
theorem A0 {H S U LP n LS}(c:Cov K H S U LP):Cov K H S (fO n LS U) (fJ n LS LP):=by
 refine ⟨by simp [fO,fJ],λi t e=>?_⟩
 unfold fJ at e
 unfold fO
 by_cases hi:i<n
 ·rw [List.getElem?_append_left (by simpa using hi),List.getElem?_replicate] at e
  rw [if_pos hi] at e;cases e
 ·rw [List.getElem?_append_right (by simpa using hi)] at e ⊢
  simp only [List.length_replicate,List.getElem?_map] at e ⊢
  cases q:LS[i - n]? with
  |none=>rw [q] at e;cases e
  |some j =>
   rw [q] at e
   simp only [Option.map_some,Option.some.injEq] at e ⊢
   cases z:LP[j]? with
   |none=>rw [z] at e;cases e
   |some o =>
    rw [z] at e
    simp only [Option.join_some] at e
    subst e
    obtain ⟨v,hv,rv⟩:=c.2 j t z
    exact ⟨v,by rw [hv];rfl,rv⟩
mutual
theorem Rp.chg {H S D φ o}(e:H D=some (.ext φ)):∀ {t v},Rp K H S t v->Rp K (upd H D o) S t v
 |_,_,.non=>.non
 |_,_,.bl=>.bl
 |_,_,.int=>.int
 |_,_,.str=>.str
 |_,_,.ty=>.ty
 |_,_,.ref=>.ref
 |_,_,.tup n h r=>.tup n (by rw [aG (dg h e (by intro z;cases z))];exact h) (Rps.chg e r)
 |_,_,.lst n h r=>.lst n (by rw [aG (dg h e (by intro z;cases z))];exact h) (Rps.chg e r)
 |_,_,.scr h=>.scr (by
   rcases h with ⟨n,o',h⟩|h
   ·exact .inl ⟨n,o',by rw [aG (dg h e (by intro z;cases z))];exact h⟩
   ·exact .inr h)
theorem Rps.chg {H S D φ o}(e:H D=some (.ext φ)):∀ {ts vs},Rps K H S ts vs->Rps K (upd H D o) S ts vs
 |_,_,.nil=>.nil
 |_,_,.cons a b=>.cons (Rp.chg e a) (Rps.chg e b)
end
theorem SRp.chg {H S D φ o}(e:H D=some (.ext φ)) (n:S D=none) (s:SRp K H S):SRp K (upd H D o) S:=λa o' h=>by
 have ha:a≠D:=λz=>by rw [z,n] at h;cases h
 cases s a o' h with
 |lst h' r=>exact .lst (by rw [aG ha];exact h') (Rps.chg e r)
 |dK h' r=>exact .dK (by rw [aG ha];exact h') (Paired.mapP r λ_ _ z=>⟨z.1,Rp.chg e z.2⟩)
 |dT h' r=>exact .dT (by rw [aG ha];exact h') (Paired.mapP r λ_ _ z=>⟨z.1,Rp.chg e z.2⟩)
 |fK h' r=>exact .fK (by rw [aG ha];exact h') (Paired.mapP r λ_ _ z=>⟨z.1,Rp.chg e z.2⟩)
 |ins h' r=>exact .ins (by rw [aG ha];exact h') (Paired.mapP r λ_ _ z=>⟨z.1,Rp.chg e z.2⟩)
theorem Cov.chg {H S D φ o U LP}(e:H D=some (.ext φ)) (c:Cov K H S U LP):Cov K (upd H D o) S U LP:=⟨c.1,λi t h=>by
 obtain ⟨v,h1,r⟩:=c.2 i t h
 exact ⟨v,h1,Rp.chg e r⟩⟩
theorem Fr.at {H S H1 S1 D o}(f:Fr H1 S1 H S) (hD:H1 D=none):Fr H1 S1 (upd H D o) S:=λa u h n=>by
 rw [aG (bL h hD)];exact f a u h n
mutual
theorem Rp.trk {H S D φ o p}(e:H D=some (.ext φ)):∀ {t v},Rp K H S t v->Rp K (upd H D o) (put S D p) t v
 |_,_,.non=>.non
 |_,_,.bl=>.bl
 |_,_,.int=>.int
 |_,_,.str=>.str
 |_,_,.ty=>.ty
 |_,_,.ref=>.ref
 |_,_,.tup n h r=>.tup (by rw [aA (dg h e (by intro z;cases z))];exact n) (by rw [aG (dg h e (by intro z;cases z))];exact h) (Rps.trk e r)
 |_,_,.lst n h r=>.lst (by rw [aA (dg h e (by intro z;cases z))];exact n) (by rw [aG (dg h e (by intro z;cases z))];exact h) (Rps.trk e r)
 |_,_,.scr h=>.scr (by
   rcases h with ⟨n,o',h⟩|h
   ·exact .inl ⟨by rw [aA (dg h e (by intro z;cases z))];exact n,o',by rw [aG (dg h e (by intro z;cases z))];exact h⟩
   ·exact .inr h)
theorem Rps.trk {H S D φ o p}(e:H D=some (.ext φ)):∀ {ts vs},Rps K H S ts vs->Rps K (upd H D o) (put S D p) ts vs
 |_,_,.nil=>.nil
 |_,_,.cons a b=>.cons (Rp.trk e a) (Rps.trk e b)
end
theorem SRp.trk {H S D φ zs LQ}(e:H D=some (.ext φ)) (s:SRp K H S) (r:Rps K H S LQ zs):SRp K (upd H D (.lst zs)) (put S D (.lst LQ)):=λa o' h=>by
 by_cases ha:a=D
 ·subst ha;rw [aF] at h;cases h;exact .lst aK (Rps.trk e r)
 ·rw [aA ha] at h
  cases s a o' h with
  |lst h' r=>exact .lst (by rw [aG ha];exact h') (Rps.trk e r)
  |dK h' r=>exact .dK (by rw [aG ha];exact h') (Paired.mapP r λ_ _ z=>⟨z.1,Rp.trk e z.2⟩)
  |dT h' r=>exact .dT (by rw [aG ha];exact h') (Paired.mapP r λ_ _ z=>⟨z.1,Rp.trk e z.2⟩)
  |fK h' r=>exact .fK (by rw [aG ha];exact h') (Paired.mapP r λ_ _ z=>⟨z.1,Rp.trk e z.2⟩)
  |ins h' r=>exact .ins (by rw [aG ha];exact h') (Paired.mapP r λ_ _ z=>⟨z.1,Rp.trk e z.2⟩)
theorem rR {tr:Bool}{wi:WI}{n:Nat}{LS:List Nat}{g:WG}{tt:WT}{te:WE}{U H Q}(h:lE K (kr tr wi n LS g tt te) U H Q):og (lI K wi) n LS (lG K g) (lT K tt) (lE K te) U H Q:=by
 obtain ⟨S,LP,Qt,s,c,q,hq⟩:=h
 refine ⟨S,LP,_,s,c,q,λJ H1 src S1 f1 s1 it q1=>?_⟩
 intro D hD
 refine ⟨λi m zs σc H=>m=src.items.length - i/\i<=src.items.length/\H D=some (bX D zs)/\∃ S LP LQ,S D=none/\Fr H1 S1 H S/\Rps K H S LQ zs/\SRp K H S/\Cov K H S σc LP/\dj src.grd g tt te (λts S2=>aZ tr ts S2 Qt) (src.items.drop i) LQ LP S,
  ⟨_,rfl,Nat.zero_le _,aK,S1,fJ n LS LP,[],s1.fresh hD,Fr.new hD,.nil,s1.new hD,A0 ((c.fr f1).fr (Fr.new hD)),by simpa using q1⟩,?_⟩
 rintro i m zs σc H ⟨rfl,hi,e2,S2,Oh,LQ,n2,f2,r2,s2,c2,q2⟩
 refine ⟨e2,?_⟩
 by_cases hl:i<src.items.length
 ·have e1:src.items[i]?=some src.items[i]:=by simp [hl]
  rw [sO e1] at q2
  obtain ⟨hg,q2⟩:=q2
  refine .inr ⟨it.go H S2 i f2 s2 hg hl,λzs' LO H'=>H' D=some (bX D zs')/\∃ S LP LQ,S D=none/\Fr H1 S1 H' S/\Rps K H' S LQ zs'/\SRp K H' S/\Cov K H' S LO LP/\dj src.grd g tt te (λts S2=>aZ tr ts S2 Qt) (src.items.drop (i+1)) LQ LP S,
   λzs' LO H' n=>⟨src.items.length - (i+1),by omega,rfl,hl,n⟩,λx H' y=>?_⟩
  obtain ⟨t,et,f3,s3,r3⟩:=it.yld H S2 i x H' f2 s2 hg hl y
  rw [e1] at et;cases et
  have e3:=f3 D _ e2 n2
  refine ⟨S2,_,Oh,_,s3,r3,c2.fr f3,q2,λσ4 H4 QU S4 f4 s4 c4 q4=>?_⟩
  have e4:=f4 D _ e3.1 e3.2
  refine ⟨S4,QU,_,s4,c4,q4,λb H5 S5 f5 s5 q5=>?_⟩
  have e5:=f5 D _ e4.1 e4.2
  have fB:=((f3.trans f4).trans f5)
  cases b with
  |false=>exact ⟨e5.1,S5,QU,LQ,e5.2,f2.trans fB,r2.fr fB,s5,c4.fr f5,q5⟩
  |true =>
   refine ⟨S5,QU,_,s5,c4.fr f5,q5,λy H6 ty S6 f6 s6 r6 q6=>?_⟩
   have e6:=f6 D _ e5.1 e5.2
   have fC:=fB.trans f6
   exact ⟨e6.1,by rw [r2.length];exact q6.1,aK,S6,QU,LQ++[ty],e6.2,Fr.at (f2.trans fC) hD,Rps.chg e6.1 ((r2.fr fC).append (.cons r6 .nil)),s6.chg e6.1 e6.2,((c4.fr f5).fr f6).chg e6.1,q6.2⟩
 ·have e:i=src.items.length:=by omega
  subst e
  rw [List.drop_eq_nil_of_le (Nat.le_refl _)] at q2
  refine .inl ⟨it.stop H S2 f2 s2 q2.1,?_⟩
  have fE:Fr H1 S1 (upd H D (.lst zs)) S2:=Fr.at f2 hD
  cases tr with
  |false=>exact hq _ _ (.lst LQ) S2 (f1.trans fE) (s2.chg e2 n2) (.lst n2 aK (Rps.chg e2 r2)) q2.2
  |true =>
   have fr1:Fr H1 S1 (upd H D (.lst zs)) (put S2 D (.lst LQ)):=λa o h nn=>by
    have ha:a≠D:=bL h hD
    rw [aA ha];exact fE a o h nn
   exact hq _ _ (.ref D) _ (f1.trans fr1) (SRp.trk e2 s2 r2) .ref (q2.2 D n2)
theorem cU (tr:Bool){Os iter LR:Expr}{N3:List Expr}{scope:Scope}{pos:Pos}{wi:WI}{g:WG}{tt:WT}{te:WE}(Nc:List Str) (n:Nat) (LS:List Nat) (NG:X.calm=true) (hi:QI K X LR iter wi) (hg:∀ C s₀ H₀ ex,QG K (X.comp scope Nc C s₀ H₀ ex) LR g)
  (ht:∀ C s₀ H₀ ex,QTs K (X.comp scope Nc C s₀ H₀ ex) N3 tt) (he:∀ C s₀ H₀ ex,QE K (X.comp scope Nc C s₀ H₀ ex) Os te) (Sz:fN X.env.scope scope=true:=by rfl) (QQ:eX X.N Nc scope n LS=true:=by rfl) (hs:∀ x,foldedSetIterable iter X.env x=pure x:=by intro _;rfl) :
  QE K X (.ListComp Os [⟨LR,iter,N3,0⟩] scope pos) (kr tr wi n LS g tt te):=PE.of (AS Nc n LS NG hi hg ht he Sz QQ hs) λ_ _ _ h=>rR h
theorem jh (tr:Bool){Os iter LR:Expr}{N3:List Expr}{scope:Scope}{pos:Pos}{wi:WI}{g:WG}{tt:WT}{te:WE}{i:Nat}{x:Str}{px Rc:Pos}(Nc:List Str) (n:Nat) (LS:List Nat) (NG:X.calm=true) (hN:X.N.Nodup) (hix:X.N[i]?=some x) (hx:Loc X.env.scope x)
  (hi:QI K X LR iter wi) (hg:∀ C s₀ H₀ ex,QG K (X.comp scope Nc C s₀ H₀ ex) LR g)
  (ht:∀ C s₀ H₀ ex,QTs K (X.comp scope Nc C s₀ H₀ ex) N3 tt) (he:∀ C s₀ H₀ ex,QE K (X.comp scope Nc C s₀ H₀ ex) Os te)
  (hsw:swapsWith (.ListComp Os [⟨LR,iter,N3,0⟩] scope pos) (some (.Name x px)) Rc.line X.env=pure true:=by rfl) (Sz:fN X.env.scope scope=true:=by rfl) (QQ:eX X.N Nc scope n LS=true:=by rfl) (hs:∀ x,foldedSetIterable iter X.env x=pure x:=by intro _;rfl)
  (hf:X.fn x=true\/X.env.scope.names.lookup x=some .local:=by first|exact .inl rfl|exact .inr rfl|assumption) :
  QS K X (.Assign [.Name x px] (.ListComp Os [⟨LR,iter,N3,0⟩] scope pos) Rc) (fg (kr tr wi n LS g tt te) (wgN i)):=PS.of (AT Nc n LS NG hN hix hx hi hg ht he hsw Sz QQ hs hf) λD U H h=>by
 obtain ⟨S,LP,Dt,s,c,q,he⟩:=h
 exact rR ⟨S,LP,_,s,c,q,λv H1 t S1 f1 s1 r1 q1=>he.nx _ H1 _ S1 f1 s1 ((c.fr f1).set r1 i) q1⟩
end
end T2
namespace L2
open PySem PySem.Spec PyProof.Rows
section
variable {X:Cx}
def CZ:V->List V->Hp->VK->Prop:=λx vs H Q=>∃ a b,x=.str a/\vs=[.str b]/\Q (.bl (Txt.startswith a b)) H
theorem xZ:MtR X "str.startswith" CZ:=by
 intro pins s U H x vs v us Q I rx rv h
 obtain ⟨a,b,rfl,rfl,q⟩:=h
 obtain ⟨t,rfl⟩:=rx
 obtain ⟨u,rfl,t2,rfl⟩:=bV rv
 exact SC.startswith ⟨.bl _,H,I,rfl,q⟩
end
end L2
namespace T2
open PySem PySem.Spec PyProof.Rows L2
section
variable {K:Fg}{X:Cx}
noncomputable def bO:T->Bool
 |.non=>true
 |.bl _=>true
 |.int _=>true
 |.str _=>true
 |_=>false
noncomputable def eqF:T->T->Bool
 |.non,.non=>true
 |.bl a,.bl b=>a==b
 |.bl a,.int b=>(if a then 1 else 0)==b
 |.int a,.bl b=>a==(if b then 1 else 0)
 |.int a,.int b=>a==b
 |.str a,.str b=>a==b
 |_,_=>false
theorem IH {a b:Str}:eqF (.str a) (.str b)=(a==b):=rfl
theorem g6 {H S t v}(r:Rp K H S t v) (f:bO t=true):dh v=true:=by cases r<;>first|rfl|cases f
theorem II {H S t v t' v'}(r:Rp K H S t v) (r':Rp K H S t' v') (f:bO t=true) (f':bO t'=true):eqV v v'=eqF t t':=by
 cases r<;>first|(cases f;done)|(cases r'<;>first|(cases f';done)|rfl)
theorem iL {H S t v}(r:Rp K H S t v) (f:bO t=true):∀ {ts vs},Rps K H S ts vs->ts.all bO=true->vs.all dh=true/\inV v vs=ts.any λy=>eqF y t
 |_,_,.nil,_=>⟨rfl,rfl⟩
 |_,_,.cons a b,h=>by
  rw [List.all_cons,Bool.and_eq_true] at h
  obtain ⟨h1,h2⟩:=iL r f b h.2
  refine ⟨by rw [List.all_cons,g6 a h.1,h1];rfl,?_⟩
  unfold inV at h2 ⊢
  rw [List.any_cons,List.any_cons,h2,II a r h.1 f]
noncomputable def cx:T->Option Key
 |.int i=>some (.inl i)
 |.str x=>some (.inr x)
 |_=>none
def gIn (neg:Bool):G2:=λx y S Q=>(∃ i j,x=.str i/\y=.str j/\Q (.bl (neg ^^ !(Builtin.Str.occurrences j i 0 j.length 1).isEmpty)) S) \/
 (∃ ts,y=.tup ts/\bO x=true/\ts.all bO=true/\Q (.bl (neg ^^ ts.any λy=>eqF y x)) S) \/
 ∃ ts,aT S y=some ts/\bO x=true/\ts.all bO=true/\Q (.bl (neg ^^ ts.any λy=>eqF y x)) S
theorem pJ (hK:X.K=K):OpR X (compareOp .In) (l2 K (gIn false)):=by
 subst hK
 rintro pins s U H x y v u Q I rx ry ⟨S,tx,ty,Qt,sr,hx,hy,hg,b⟩
 rcases hg with ⟨i,j,rfl,rfl,q⟩|⟨ts,rfl,fx,ft,q⟩|⟨ts,e,fx,ft,q⟩
 ·obtain rfl:=hx.istr
  obtain rfl:=hy.istr
  exact zD pins s U H _ _ v u Q I rx ry ⟨i,j,rfl,rfl,b _ H _ S .refl sr .bl (by simpa using q)⟩
 ·obtain ⟨p,vs,rfl,hp,rs⟩:=hy.itup
  obtain ⟨h1,h2⟩:=iL hx fx rs ft
  refine qK pins s U H _ _ v u Q I rx ry ⟨_,_,rfl,.inr (SqT.of hp),g6 hx fx,h1,?_⟩
  rw [h2]
  exact b _ H _ S .refl sr .bl (by simpa using q)
 ·obtain ⟨p,vs,rfl,hq,rs⟩:=cz sr hy e
  obtain ⟨h1,h2⟩:=iL hx fx rs ft
  refine qK pins s U H _ _ v u Q I rx ry ⟨p,vs,rfl,.inl hq,g6 hx fx,h1,?_⟩
  rw [h2]
  exact b _ H _ S .refl sr .bl (by simpa using q)
theorem nC (hK:X.K=K):OpR X (compareOp .NotIn) (l2 K (gIn true)):=by
 subst hK
 rintro pins s U H x y v u Q I rx ry ⟨S,tx,ty,Qt,sr,hx,hy,hg,b⟩
 rcases hg with ⟨i,j,rfl,rfl,q⟩|⟨ts,rfl,fx,ft,q⟩|⟨ts,e,fx,ft,q⟩
 ·obtain rfl:=hx.istr
  obtain rfl:=hy.istr
  exact ye pins s U H _ _ v u Q I rx ry ⟨i,j,rfl,rfl,b _ H _ S .refl sr .bl (by simpa using q)⟩
 ·obtain ⟨p,vs,rfl,hp,rs⟩:=hy.itup
  obtain ⟨h1,h2⟩:=iL hx fx rs ft
  refine qb pins s U H _ _ v u Q I rx ry ⟨_,_,rfl,.inr (SqT.of hp),g6 hx fx,h1,?_⟩
  rw [h2]
  exact b _ H _ S .refl sr .bl (by simpa using q)
 ·obtain ⟨p,vs,rfl,hq,rs⟩:=cz sr hy e
  obtain ⟨h1,h2⟩:=iL hx fx rs ft
  refine qb pins s U H _ _ v u Q I rx ry ⟨p,vs,rfl,.inl hq,g6 hx fx,h1,?_⟩
  rw [h2]
  exact b _ H _ S .refl sr .bl (by simpa using q)
abbrev GC:=List T->Sto->(T->Sto->Prop)->Prop
def lC (K:Fg) (g:GC):List V->Hp->VK->Prop:=λxs H Q=>∃ S ts Qt,SRp K H S/\Rps K H S ts xs/\g ts S Qt/\Bh K H S Qt Q
def wCB (g:GC) (wr:WA):WE:=λU S Q=>wr U S λts S1=>g ts S1 Q
theorem FK {g:GC}{wr:WA}{U H Q}(h:lE K (wCB g wr) U H Q):tCB (lC K g) (lA K wr) U H Q:=by
 obtain ⟨S,LP,Qt,s,c,q,hq⟩:=h
 refine ⟨S,LP,_,s,c,q,λvs H1 ts S1 f1 s1 r1 q1=>?_⟩
 exact ⟨S1,ts,Qt,s1,r1,q1,λv H' t S' f=>hq v H' t S' (f1.trans f)⟩
theorem xg {g:GC}{wr:WA}{e:Expr}(hp:PE X e (tCB (lC K g) (lA K wr))):QE K X e (wCB g wr):=PE.of hp λ_ _ _ h=>FK h
def iM (S:Sto):T->Option Int
 |.str z=>if z.length<=sizeLine then some z.length else none
 |.tup ts=>some ts.length
 |t=>(aT S t).map λts=>ts.length
def eC:GC:=λts S Q=>match ts with
 |[x]=>∃ n,iM S x=some n/\Q (.int n) S
 |_=>False
theorem a8 (hK:X.K=K):bf X (.builtin "len") (lC K eC):=by
 subst hK
 rintro pins s U H xs us Q I r ⟨S,ts,Qt,sr,rs,hg,b⟩
 cases rs with
 |nil=>exact hg.elim
 |cons a l =>
  cases l with
  |cons _ _=>exact hg.elim
  |nil =>
   obtain ⟨n,e,q⟩:=hg
   rename_i t v
   have lists:(aT S t).map (λts=>(ts.length:Int))=some n->wpAny (model X.prog X.w) X.A (call (.builtin "len") us) (EP X pins U Q) X.xe s:=by
    intro e3
    rw [Option.map_eq_some_iff] at e3
    obtain ⟨ts,e3,rfl⟩:=e3
    obtain ⟨p,vs,rfl,hq,rs⟩:=cz sr a e3
    exact qc pins s U H _ us Q I r ⟨p,vs,rfl,.inl hq,by rw [rs.length];exact b _ H _ S .refl sr .int q⟩
   cases t with
   |str z =>
    cases a
    delta iM at e
    dsimp only at e
    split at e
    ·next hz=>cases e;exact yg pins s U H _ us Q I r ⟨z,rfl,hz,b _ H _ S .refl sr .int q⟩
    ·cases e
   |tup ts =>
    cases a with
    |tup n' hp rs=>cases e;exact qc pins s U H _ us Q I r ⟨_,_,rfl,.inr (SqT.of hp),by rw [rs.length];exact b _ H _ S .refl sr .int q⟩
   |_=>exact lists e
noncomputable def tyT (S:Sto):T->Option Value
 |.non=>some (.type "NoneType")
 |.bl _=>some (.type "bool")
 |.int _=>some (.type "int")
 |.str _=>some (.type "str")
 |.tup _=>some (.type "tuple")
 |.lst _=>some (.type "list")
 |.ref a=>match S a with
  |some (.lst _)=>some (.type "list")
  |some (.dK _)=>some (.type "dict")
  |some (.dT _)=>some (.type "dict")
  |_=>none
 |_=>none
def xh (K:Fg):GC:=λts S Q=>match ts with
 |[x,.ty n]=>∃ t b,tyT S x=some t/\PySem.W.kitOne K t (.type n)=some b/\Q (.bl b) S
 |_=>False
theorem uA {H S t v ty}(s:SRp K H S) (r:Rp K H S t v) (e:tyT S t=some ty):TyOf K H v ty:=by
 cases r with
 |non=>cases e;exact .non
 |bl=>cases e;exact .bl _
 |int=>cases e;exact .int _
 |str=>cases e;exact .str _
 |tup n h _=>cases e;exact .tup h
 |lst n h _=>cases e;exact .lst h
 |ty=>cases e
 |scr _=>cases e
 |ref =>
  rename_i a
  delta tyT at e
  dsimp only at e
  cases q:S a with
  |none=>rw [q] at e;cases e
  |some o =>
   rw [q] at e
   cases o with
   |lst us=>cases e;cases s a _ q with
    |lst h rs=>exact .lst h
   |dK us=>cases e;cases s a _ q with
    |dK h rs=>exact .dK h
   |dT us=>cases e;cases s a _ q with
    |dT h rs=>exact .dT h
   |fK _ _ _ _=>cases e
   |ins _ _=>cases e
theorem dk (hK:X.K=K):bf X (.builtin "isinstance") (lC K (xh K)):=by
 subst hK
 rintro pins s U H xs us Q I r ⟨S,ts,Qt,sr,rs,hg,b⟩
 cases rs with
 |nil=>exact hg.elim
 |cons a l =>
  cases l with
  |nil=>exact hg.elim
  |cons a2 l2 =>
   cases l2 with
   |cons _ _=>cases a2<;>exact hg.elim
   |nil =>
    cases a2<;>first|exact hg.elim|skip
    obtain ⟨t,k,e,hk,q⟩:=hg
    exact yF pins s U H _ us Q I r ⟨_,_,t,k,rfl,⟨_,rfl,λz h=>h,hk⟩,uA sr a e,b _ H _ S .refl sr .bl q⟩
def vU (tr:Bool):GC:=λts S Q=>match ts with
 |[.tup us]=>aZ tr us S Q
 |[x]=>∃ us,aT S x=some us/\aZ tr us S Q
 |_=>False
theorem FL (tr:Bool) (hK:X.K=K):bf X (.type "list") (lC K (vU tr)):=by
 subst hK
 rintro pins s U H xs us Q I r ⟨S,ts,Qt,sr,rs,hg,b⟩
 cases rs with
 |nil=>exact hg.elim
 |cons a l =>
  cases l with
  |cons _ _=>cases a<;>exact hg.elim
  |nil =>
   rename_i t v
   have lists:(∃ us,aT S t=some us/\aZ tr us S Qt)->wpAny (model X.prog X.w) X.A (call (.type "list") us) (EP X pins U Q) X.xe s:=by
    rintro ⟨ws,e,n⟩
    obtain ⟨p,vs,rfl,hq,rs⟩:=cz sr a e
    exact qd pins s U H _ us Q I r ⟨p,vs,rfl,.inl hq,dH sr rs n b⟩
   cases t with
   |tup ws =>
    cases a with
    |tup n' hp rs=>exact qd pins s U H _ us Q I r ⟨_,_,rfl,.inr (SqT.of hp),dH sr rs hg b⟩
   |_=>exact lists hg
noncomputable def eD:List T->Option (List Bool)
 |[]=>some []
 |.bl i::ts=>(eD ts).map (i::·)
 |_=>none
theorem FM {i:Bool}{ts:List T}:eD (.bl i::ts)=(eD ts).map (i::·):=rfl
theorem uB {H S}:∀ {ts vs ns},Rps K H S ts vs->eD ts=some ns->vs=ns.map V.bl
 |_,_,_,.nil,e=>by cases e;rfl
 |_,_,_,.cons a b,e=>by
  cases a<;>first|(cases e;done)|skip
  simp only [FM,Option.map_eq_some_iff] at e
  obtain ⟨ns,e,rfl⟩:=e
  rw [List.map_cons,<- uB b e]
noncomputable def eZ:List T->Option (List Str)
 |[]=>some []
 |.str i::ts=>(eZ ts).map (i::·)
 |_=>none
theorem sP {i:Str}{ts:List T}:eZ (.str i::ts)=(eZ ts).map (i::·):=rfl
theorem sQ {H S}:∀ {ts vs ns},Rps K H S ts vs->eZ ts=some ns->vs=ns.map V.str
 |_,_,_,.nil,e=>by cases e;rfl
 |_,_,_,.cons a b,e=>by
  cases a<;>first|(cases e;done)|skip
  simp only [sP,Option.map_eq_some_iff] at e
  obtain ⟨ns,e,rfl⟩:=e
  rw [List.map_cons,<- sQ b e]
def xi:GC:=λts S Q=>match ts with
 |[x]=>∃ us bs,aT S x=some us/\eD us=some bs/\Q (.bl (bs.all id)) S
 |_=>False
theorem vV (hK:X.K=K) (hc:X.calm=true):bf X (.builtin "all") (lC K xi):=by
 subst hK
 rintro pins s U H xs us Q I r ⟨S,ts,Qt,sr,rs,hg,b⟩
 cases rs with
 |nil=>exact hg.elim
 |cons a l =>
  cases l with
  |cons _ _=>exact hg.elim
  |nil =>
   obtain ⟨ws,ns,e,en,q⟩:=hg
   obtain ⟨p,vs,rfl,hq,rs⟩:=cz sr a e
   exact zP hc pins s U H _ us Q I r ⟨p,ns,rfl,by rw [<- uB rs en];exact hq,b _ H _ S .refl sr .bl q⟩
def xj:GC:=λts S Q=>∃ i j,ts=[.int i,.int j]/\Q (.int (if j<i then j else i)) S
theorem vW (hc:X.calm=true):bf X (.builtin "min") (lC K xj):=by
 rintro pins s U H xs us Q I r ⟨S,ts,Qt,sr,rs,⟨i,j,rfl,q⟩,b⟩
 cases rs with
 |cons a l =>
  cases l with
  |cons a2 l2 =>
   cases l2
   obtain rfl:=a.iint
   obtain rfl:=a2.iint
   exact zE hc pins s U H _ us Q I r ⟨_,_,rfl,b _ H _ S .refl sr .int q⟩
def xk:GC:=λts S Q=>match ts with
 |[.int i]=>Q (.int i) S
 |[.bl k]=>Q (.int (if k then 1 else 0)) S
 |_=>False
theorem IJ:bf X (.type "int") (lC K xk):=by
 rintro pins s U H xs us Q I r ⟨S,ts,Qt,sr,rs,hg,b⟩
 cases rs with
 |nil=>exact hg.elim
 |cons a l =>
  cases l with
  |cons _ _=>cases a<;>exact hg.elim
  |nil =>
   cases a<;>first|exact hg.elim|skip
   ·exact qE pins s U H _ us Q I r (.inr ⟨_,rfl,b _ H _ S .refl sr .int hg⟩)
   ·exact qE pins s U H _ us Q I r (.inl ⟨_,rfl,b _ H _ S .refl sr .int hg⟩)
abbrev GM:=T->List T->Sto->(T->Sto->Prop)->Prop
def lM (K:Fg) (g:GM):V->List V->Hp->VK->Prop:=λx xs H Q=>∃ S t ts Qt,SRp K H S/\Rp K H S t x/\Rps K H S ts xs/\g t ts S Qt/\Bh K H S Qt Q
def tyM (ty:String) (S:Sto) (x:T):Prop:=match x with
 |.str _=>ty="str"
 |.lst _=>ty="list"
 |.ref a=>match S a with
  |some (.lst _)=>ty="list"
  |some (.dK _)=>ty="dict"
  |some (.dT _)=>ty="dict"
  |_=>False
 |_=>False
def wBM (ty:String) (g:GM) (wa:WE) (wr:WA):WE:=λU S Q=>wa U S λx S1=>tyM ty S1 x/\wr U S1 λts S2=>g x ts S2 Q
theorem IK {H S t v ty}(s:SRp K H S) (r:Rp K H S t v) (h:tyM ty S t):tyV K ty v H:=by
 cases r with
 |str=>exact h
 |lst n hp _=>exact .inl ⟨h,_,SqL.of hp⟩
 |ref =>
  rename_i a
  delta tyM at h
  dsimp only at h
  cases q:S a with
  |none=>rw [q] at h;exact h.elim
  |some o =>
   rw [q] at h
   cases o with
   |lst us=>cases s a _ q with
    |lst hp _=>exact .inl ⟨h,_,SqL.of hp⟩
   |dK us=>cases s a _ q with
    |dK hp _=>exact .inr (.inr (.inl ⟨h,.inl ⟨_,hp⟩⟩))
   |dT us=>cases s a _ q with
    |dT hp _=>exact .inr (.inr (.inl ⟨h,.inr ⟨_,hp⟩⟩))
   |fK _ _ _ _=>exact h.elim
   |ins _ _=>exact h.elim
 |_=>exact h.elim
theorem FN {ty:String}{g:GM}{wa:WE}{wr:WA}{U H Q}(h:lE K (wBM ty g wa wr) U H Q):tBM K ty (lM K g) (lE K wa) (lA K wr) U H Q:=by
 obtain ⟨S,LP,Qt,s,c,q,hq⟩:=h
 refine ⟨S,LP,_,s,c,q,λx H1 tx S1 f1 s1 r1 q1=>?_⟩
 refine ⟨IK s1 r1 q1.1,S1,LP,_,s1,c.fr f1,q1.2,λvs H2 ts S2 f2 s2 r2 q2=>?_⟩
 exact ⟨S2,tx,ts,Qt,s2,r1.fr f2,r2,q2,λv H' t S' f=>hq v H' t S' ((f1.trans f2).trans f)⟩
theorem K0 {ty:String}{g:GM}{wa:WE}{wr:WA}{e:Expr}(hp:PE X e (tBM K ty (lM K g) (lE K wa) (lA K wr))):QE K X e (wBM ty g wa wr):=PE.of hp λ_ _ _ h=>FN h
def uC (tr:Bool):GM:=λx ts S Q=>match x,ts with
 |.str a,[.str c]=>c.length≠0/\a.length<=1000/\aZ tr ((Txt.split a c).map T.str) S Q
 |_,_=>False
theorem sR (tr:Bool):MtR X "str.split" (lM K (uC tr)):=by
 rintro pins s U H x vs v us Q I rx rv ⟨S,t,ts,Qt,sr,hx,rs,hg,b⟩
 cases hx<;>first|exact hg.elim|skip
 cases rs with
 |nil=>exact hg.elim
 |cons a l =>
  cases l with
  |cons _ _=>cases a<;>exact hg.elim
  |nil =>
   cases a<;>first|exact hg.elim|skip
   exact AM pins s U H _ _ v us Q I rx rv ⟨_,_,rfl,rfl,hg.1,hg.2.1,dH sr Rps.strs hg.2.2 b⟩
def vX:GM:=λx ts S Q=>match x,ts with
 |.str a,[y]=>∃ us zs,aT S y=some us/\eZ us=some zs/\JoinOk a zs=true/\Q (.str (Txt.join a zs)) S
 |_,_=>False
theorem FO (hK:X.K=K):MtR X "str.join" (lM K vX):=by
 subst hK
 rintro pins s U H x vs v us Q I rx rv ⟨S,t,ts,Qt,sr,hx,rs,hg,b⟩
 cases hx<;>first|exact hg.elim|skip
 cases rs with
 |nil=>exact hg.elim
 |cons a l =>
  cases l with
  |cons _ _=>exact hg.elim
  |nil =>
   obtain ⟨ws,zs,e,en,hj,q⟩:=hg
   obtain ⟨p,ys,rfl,hq,rs⟩:=cz sr a e
   exact CK pins s U H _ _ v us Q I rx rv ⟨_,p,zs,rfl,rfl,by rw [<- sQ rs en];exact hq,hj,b _ H _ S .refl sr .str q⟩
def sS:GM:=λx ts S Q=>match x,ts with
 |.str a,[.str c]=>Q (.bl (Txt.startswith a c)) S
 |_,_=>False
theorem rS:MtR X "str.startswith" (lM K sS):=by
 rintro pins s U H x vs v us Q I rx rv ⟨S,t,ts,Qt,sr,hx,rs,hg,b⟩
 cases hx<;>first|exact hg.elim|skip
 cases rs with
 |nil=>exact hg.elim
 |cons a l =>
  cases l with
  |cons _ _=>cases a<;>exact hg.elim
  |nil =>
   cases a<;>first|exact hg.elim|skip
   exact xZ pins s U H _ _ v us Q I rx rv ⟨_,_,rfl,rfl,b _ H _ S .refl sr .bl hg⟩
theorem uD {H S}{a:Addr}{ts:List T}(s:SRp K H S) (e:S a=some (.lst ts)):∃ vs,H a=some (.lst vs)/\Rps K H S ts vs:=by
 cases s a _ e with
 |lst h r=>exact ⟨_,h,r⟩
theorem zY {H S}{a:Addr}{ts us:List T}{ws:List V}{Qt:T->Sto->Prop}{Q:VK}{t:T}{v:V}(s:SRp K H S) (e:S a=some (.lst ts)) (r:Rps K H S us ws) (b:Bh K H S Qt Q) (rt:Rp K H S t v) (q:Qt t (put S a (.lst us))):Q v (upd H a (.lst ws)):=by
 have hn:S a≠none:=by rw [e];simp
 exact b _ _ t _ (Fr.write hn) (s.write hn (.lst aK (r.fr (Fr.write hn)))) (rt.fr (Fr.write hn)) q
def sT:GM:=λx ts S Q=>match x,ts with
 |.ref a,[y]=>∃ us,S a=some (.lst us)/\us.length<sizeLine/\Q .non (put S a (.lst (us++[y])))
 |_,_=>False
theorem jo:MtR X "list.append" (lM K sT):=by
 rintro pins s U H x vs v us Q I rx rv ⟨S,t,ts,Qt,sr,hx,rs,hg,b⟩
 cases hx<;>first|exact hg.elim|skip
 cases rs with
 |nil=>exact hg.elim
 |cons a l =>
  cases l with
  |cons _ _=>exact hg.elim
  |nil =>
   obtain ⟨ws,e,hl,q⟩:=hg
   obtain ⟨ys,hy,ry⟩:=uD sr e
   exact qM pins s U H _ _ v us Q I rx rv ⟨_,ys,_,rfl,rfl,hy,by rw [ry.length];exact hl,zY sr e (ry.append (.cons a .nil)) b .non q⟩
abbrev GS:=T->T->T->Sto->(Sto->Prop)->Prop
def fi (K:Fg) (g:GS):kH:=λo i v H Q=>∃ S to ti tv Qt,SRp K H S/\Rp K H S to o/\Rp K H S ti i/\Rp K H S tv v/\g to ti tv S Qt/\∀ H' S',Fr H S H' S'->SRp K H' S'->Qt S'->Q H'
def IL:GS:=λo i v S Q=>match o,i with
 |.ref a,.int k=>∃ us j,S a=some (.lst us)/\ixN us.length k=some j/\Q (put S a (.lst (us.set j v)))
 |_,_=>False
theorem FP:dn X (fi K IL):=by
 rintro pins s U H o i v ov iv u Q I ro ri rv ⟨S,to,ti,tv,Qt,sr,hO,hI,hV,hg,b⟩
 cases hO<;>first|exact hg.elim|skip
 cases hI<;>first|exact hg.elim|skip
 rename_i a k
 obtain ⟨us,j,e,hj,q⟩:=hg
 obtain ⟨ys,hy,ry⟩:=uD sr e
 have hn:S a≠none:=by rw [e];simp
 exact AI pins s U H _ _ _ ov iv u Q I ro ri rv ⟨_,ys,_,j,rfl,rfl,hy,by rw [ry.length];exact hj,b _ _ (Fr.write hn) (sr.write hn (.lst aK ((Rps.set hV j ry).fr (Fr.write hn)))) q⟩
def pe (k:Nat):GS:=λo i v S Q=>match o,i with
 |.ref a,.int j=>j=k/\∃ us,S a=some (.lst us)/\k<us.length/\Q (put S a (.lst (us.set k v)))
 |_,_=>False
theorem g7 (k:Nat):dn X (fi K (pe k)):=by
 rintro pins s U H o i v ov iv u Q I ro ri rv ⟨S,to,ti,tv,Qt,sr,hO,hI,hV,hg,b⟩
 refine FP pins s U H o i v ov iv u Q I ro ri rv ⟨S,to,ti,tv,Qt,sr,hO,hI,hV,?_,b⟩
 cases hO<;>first|exact hg.elim|skip
 cases hI<;>first|exact hg.elim|skip
 obtain ⟨rfl,us,e,hk,q⟩:=hg
 refine ⟨us,k,e,?_,q⟩
 unfold ixN
 rw [if_pos (by omega),if_pos (by omega)]
 rfl
def wgS (wo wi:WE) (g:GS):WG:=λt U S Q=>wo U S λo S1=>wi U S1 λi S2=>g o i t S2 λS3=>Q U S3
theorem FQ {o i:Expr}{wo wi:WE}{g:GS}{pos:Pos}(h:PG X (.Subscript o i pos) (L2.e8 (lE K wo) (lE K wi) (fi K g))):QG K X (.Subscript o i pos) (wgS wo wi g):=PG.of h λv U H Q zz104=>by
 obtain ⟨S,t,LP,Qt,s,r,c,q,hq⟩:=zz104
 refine ⟨S,LP,_,s,c,q,λx H1 tx S1 f1 s1 r1 q1=>?_⟩
 refine ⟨S1,LP,_,s1,c.fr f1,q1,λy H2 ty S2 f2 s2 r2 q2=>?_⟩
 exact ⟨S2,tx,ty,t,_,s2,r1.fr f2,r2,(r.fr f1).fr f2,q2,λH' S' f s' q'=>hq U H' LP S' ((f1.trans f2).trans f) s' (c.fr ((f1.trans f2).trans f)) q'⟩
end
theorem cb {w u:WS}{D:EndsT}{U:StT}{S:Sto}(M:StT->Sto->Prop) (h1:∀ X:StT->Sto->Prop,(∀ U S,M U S->X U S)->w { D with nx:=X } U S) (h2:∀ U S,M U S->u D U S):kK w u D U S:=h1 _ h2
theorem fL {α:Type}{grd:Sto->Prop}{g:WG}{wb:WS}{D:EndsT}{f:α->T}{ls:List α}{U:StT}{S:Sto}(Iv:List α->StT->Sto->Prop) (h0:Iv ls U S)
  (step:∀ a r U S (N:StT->Sto->Prop),Iv (a::r) U S->(∀ LO S',Iv r LO S'->N LO S')->grd S/\g (f a) U S λMz S2=>wb { nx:=N,rt:=D.rt,bk:=D.nx,ct:=N } Mz S2)
  (done:∀ U S,Iv [] U S->grd S/\D.nx U S):dP grd g wb D (ls.map f) U S:=by
 induction ls generalizing U S with
 |nil=>exact done U S h0
 |cons a r ih=>exact step a r U S _ h0 λLO S' iv=>ih iv
theorem fD {grd:Sto->Prop}{g:WG}{wb:WS}{D:EndsT}{lo:Int}{n:Nat}{U:StT}{S:Sto}(Iv:Nat->StT->Sto->Prop) (h0:Iv 0 U S)
  (step:∀ k U S (N:StT->Sto->Prop),k<n->Iv k U S->(∀ LO S',Iv (k+1) LO S'->N LO S')->grd S/\g (.int (lo+k)) U S λMz S2=>wb { nx:=N,rt:=D.rt,bk:=D.nx,ct:=N } Mz S2)
  (done:∀ U S,Iv n U S->grd S/\D.nx U S):dP grd g wb D (bT lo n) U S:=by
 unfold bT
 have main:∀ (m k:Nat) U S,k+m=n->Iv k U S->dP grd g wb D ((List.range' k m).map λ(i:Nat)=>T.int (lo+i)) U S:=by
  intro m
  induction m with
  |zero=>intro k U S e iv;rw [show k=n by omega] at iv;exact done U S iv
  |succ m ih =>
   intro k U S e iv
   rw [List.range'_succ,List.map_cons]
   exact step k U S _ (by omega) iv λLO S' iv'=>ih (k+1) LO S' (by omega) iv'
 rw [List.range_eq_range']
 exact main n 0 U S (by omega) h0
theorem gH {grd:Sto->Prop}{g:WG}{tt:WT}{te:WE}{Q:List T->Sto->Prop}{items LQ:List T}{U:StT}{S:Sto}(Iv:List T->List T->StT->Sto->Prop) (h0:Iv items LQ U S)
  (step:∀ t ts LQ U S (N:List T->StT->Sto->Prop),Iv (t::ts) LQ U S->(∀ QV LO S',Iv ts QV LO S'->N QV LO S') ->
   grd S/\g t U S λMz S2=>tt Mz S2 λb S3=>if b=true then te Mz S3 λy S4=>LQ.length<sizeLine/\N (LQ++[y]) Mz S4 else N LQ Mz S3)
  (done:∀ LQ U S,Iv [] LQ U S->grd S/\Q LQ S):dj grd g tt te Q items LQ U S:=by
 induction items generalizing LQ U S with
 |nil=>exact done LQ U S h0
 |cons t ts ih=>exact step t ts LQ U S _ h0 λQV LO S' iv=>ih iv
theorem c8 {α:Type}{grd:Sto->Prop}{g:WG}{tt:WT}{te:WE}{Q:List T->Sto->Prop}(f:α->T) (φ:α->Option T) (cs:StT){ls:List α}{S:Sto}(hg:grd S) (hz:ls.length<=sizeLine)
  (step:∀ a∈ls,∀ (u:Option T) (LQ:List T) (N:List T->StT->Sto->Prop),LQ.length<sizeLine->(∀ u',N (LQ++(φ a).toList) (u'::cs) S) ->
   g (f a) (u::cs) S λMz S2=>tt Mz S2 λb S3=>if b=true then te Mz S3 λy S4=>LQ.length<sizeLine/\N (LQ++[y]) Mz S4 else N LQ Mz S3)
  (done:Q (ls.filterMap φ) S):dj grd g tt te Q (ls.map f) [] (none::cs) S:=by
 refine gH (λitems LQ LO S'=>∃ pre NH u,ls=pre++NH/\items=NH.map f/\LQ=pre.filterMap φ/\LO=u::cs/\S'=S) ⟨[],ls,none,rfl,rfl,rfl,rfl,rfl⟩ ?_ ?_
 ·rintro t ts LQ LO S' N ⟨pre,NH,u,e,e2,rfl,rfl,rfl⟩ hN
  cases NH with
  |nil=>cases e2
  |cons a r =>
   simp only [List.map_cons,List.cons.injEq] at e2
   obtain ⟨rfl,rfl⟩:=e2
   refine ⟨hg,step a (by rw [e];simp) u _ N ?_ λu'=>hN _ _ _ ⟨pre++[a],r,u',by rw [e];simp,rfl,?_,rfl,rfl⟩⟩
   ·have h1:=List.length_filterMap_le φ pre
    have h2:=congrArg List.length e
    simp only [List.length_append,List.length_cons] at h2
    omega
   ·rw [List.filterMap_append];cases h:φ a<;>simp [h]
 ·rintro LQ LO S' ⟨pre,NH,u,e,e2,rfl,rfl,rfl⟩
  cases NH with
  |nil=>rw [List.append_nil] at e;subst e;exact ⟨hg,done⟩
  |cons a r=>cases e2
section
variable {U:StT}{S S0:Sto}{D:EndsT}{Q:T->Sto->Prop}{B:Bool->Sto->Prop}{L:List T->Sto->Prop}{t x y z:T}{p:Addr}
theorem IM {w u:WS}(h:w { D with nx:=u D } U S):kK w u D U S:=h
theorem FR (h:D.nx U S):vP D U S:=h
theorem FS {w:WE}(h:w U S λ_ S1=>D.nx U S1):vQ w D U S:=h
theorem IN {w:WE}(h:w U S D.rt):wU w D U S:=h
theorem IP {t:WT}{w u:WS}(h:t U S λb S1=>if b=true then w D U S1 else u D U S1):wW t w u D U S:=h
theorem IQ {w:WE}{g:WG}(h:w U S λt S1=>g t U S1 D.nx):fg w g D U S:=h
theorem pf {i:Nat}{Mz:StT}{Q:StT->Sto->Prop}(e:U.set i (some t)=Mz) (h:Q Mz S):wgN i t U S Q:=by subst e;exact h
theorem K1 {wo wi:WE}{g:GS}{Q:StT->Sto->Prop}(h:wo U S λo S1=>wi U S1 λi S2=>g o i t S2 λS3=>Q U S3):wgS wo wi g t U S Q:=h
theorem K2 {n:Nat}{g:WGs}{ts:List T}{Q:StT->Sto->Prop}(l:ts.length=n) (h:g ts U S Q):vS n g (.tup ts) U S Q:=⟨ts,rfl,l,h⟩
theorem C0 {g:WG}{h:WGs}{ts:List T}{Q:StT->Sto->Prop}(q:g t U S λLO S'=>h ts LO S' Q):ur g h (t::ts) U S Q:=⟨t,ts,rfl,q⟩
theorem FT {Q:StT->Sto->Prop}(q:Q U S):vR [] U S Q:=⟨rfl,q⟩
theorem IR {wi:WI}{g:WG}{wb:WS}(h:wi U S λsrc S1=>dP src.grd g wb D src.items U S1):pI wi g wb D U S:=h
theorem i_V {i:Nat}(e:U[i]?=some (some t)) (h:Q t S):wV i U S Q:=⟨t,e,h⟩
theorem i_C (h:Q t S):wC t U S Q:=h
theorem i_2 {g:G2}{wa wb:WE}(h:wa U S λx S1=>wb U S1 λy S2=>g x y S2 Q):w2 g wa wb U S Q:=h
theorem i_B {w:WE}(h:w U S λx S1=>∃ k,x=.bl k/\B k S1):wB w U S B:=h
theorem K3 {k:Bool}{C:Bool->Prop}(h:C k):∃ k',T.bl k=.bl k'/\C k':=⟨k,rfl,h⟩
theorem C1 {g g':G2}{wa wb wc:WE}(h:wa U S λx S1=>wb U S1 λy S2=>g x y S2 λz S3=>∃ k,z=.bl k/\if k=true then wc U S3 λu S4=>g' y u S4 Q else Q (.bl false) S3):jS g g' wa wb wc U S Q:=h
theorem IS {t u:WT}(h:t U S λc S1=>if c=true then u U S1 B else B false S1):wP t u U S B:=h
theorem K4 {t u:WT}(h:t U S λc S1=>if c=true then B true S1 else u U S1 B):wOr t u U S B:=h
theorem IT {t:WT}(h:t U S λc S1=>B (!c) S1):wQ t U S B:=h
theorem FU (h:B true S):ko U S B:=h
theorem FV {wa wb:WE}(h:wa U S λx S1=>∃ k,x=.bl k/\if k=true then wb U S1 Q else Q (.bl false) S1):vL wa wb U S Q:=h
theorem IU {wa wb:WE}(h:wa U S λx S1=>∃ k,x=.bl k/\if k=true then Q (.bl true) S1 else wb U S1 Q):wR wa wb U S Q:=h
theorem FW {wa:WE}(h:wa U S λx S1=>∃ k,x=.bl k/\Q (.bl (!k)) S1):vM wa U S Q:=h
theorem K5 {t:WT}{wa wb:WE}(h:t U S λc S1=>if c=true then wa U S1 Q else wb U S1 Q):wIf t wa wb U S Q:=h
theorem IV (h:L [] S):eu U S L:=h
theorem FX {wa:WE}{wr:WA}(h:wa U S λx S1=>wr U S1 λxs S2=>L (x::xs) S2):vN wa wr U S L:=h
theorem IW {wr:WA}(h:wr U S λts S1=>ts.length<=sizeLine/\Q (.tup ts) S1):wS wr U S Q:=h
theorem IX {wr:WA}(h:wr U S λts S1=>ts.length<=sizeLine/\Q (.lst ts) S1):wT wr U S Q:=h
theorem FY {wr:WA}(h:wr U S λts S1=>ts.length<=sizeLine/\∀ p,S1 p=none->Q (.ref p) (put S1 p (.lst ts))):vO wr U S Q:=h
theorem FZ {w:WSp}{NJ:List T}{wr:WA}(h:wr U S λts S1=>w (ts++NJ) S1 Q):ir w NJ wr U S Q:=h
theorem K6 {g:GC}{wr:WA}(h:wr U S λts S1=>g ts S1 Q):wCB g wr U S Q:=h
theorem K7 {ty:String}{g:GM}{wa:WE}{wr:WA}(h:wa U S λx S1=>tyM ty S1 x/\wr U S1 λts S2=>g x ts S2 Q):wBM ty g wa wr U S Q:=h
theorem IY {wa:WE}(h:wa U S λx S1=>match x with|.int i=>Q (.int (-i)) S1|_=>False):xb wa U S Q:=h
theorem K8 {tr:Bool}{wa:WE}{wl wh:WO}(h:wa U S λx S1=>wl U S1 λl S2=>wh U S2 λh S3=>gSl tr x l h S3 Q):wSl tr wa wl wh U S Q:=h
theorem K9 {O':Option Int->Sto->Prop}(h:O' none S):woN U S O':=h
theorem K' {wa:WE}{O':Option Int->Sto->Prop}(h:wa U S λx S1=>match x with|.int i=>O' (some i) S1|_=>False):woS wa U S O':=h
theorem F0 {tr:Bool}{wi:WI}{n:Nat}{LS:List Nat}{g:WG}{tt:WT}{te:WE}(h:wi U S λsrc S1=>dj src.grd g tt te (λts S2=>aZ tr ts S2 Q) src.items [] (fJ n LS U) S1):kr tr wi n LS g tt te U S Q:=h
theorem F6 {ts:List T}(h:Q (.lst ts) S):aZ false ts S Q:=h
variable {R:Src->Sto->Prop}
theorem La {wa:WE}(h:wa U S λx S1=>∃ ts,aT S1 x=some ts/\R ⟨ts,g5 x ts⟩ S1):wiL wa U S R:=h
theorem IZ {wa:WE}(h:wa U S λx S1=>match x with|.int j=>-(2 ^ 62)<=j/\j<2 ^ 62/\R ⟨bT 0 j.toNat,λ_=>True⟩ S1|_=>False):xc wa U S R:=h
theorem Lb {wa:WE}(h:wa U S λx S1=>match x with|.str z=>R ⟨cT z,λ_=>True⟩ S1|_=>False):wiS wa U S R:=h
variable {i j:Int}{a c:Str}{ts us:List T}
theorem Ja (h:Q (.int (i - j)) S):e8 (.int i) (.int j) S Q:=⟨trivial,h⟩
theorem Jb (h0:0<j) (h1:j<18446744073709551616) (h:Q (.int (i / j)) S):wX (.int i) (.int j) S Q:=⟨⟨h0,h1⟩,h⟩
theorem Jc (h0:0<j) (h:Q (.int (i % j)) S):wY (.int i) (.int j) S Q:=⟨h0,h⟩
theorem Jd (h0:0<=j) (h1:j<=1000000) (h2:i.natAbs<2 ^ 64) (h:Q (.int (i ^ j.toNat)) S):wZ (.int i) (.int j) S Q:=⟨⟨h0,h1,h2⟩,h⟩
theorem Je (h0:0<=j) (h:Q (.int (i / 2 ^ j.toNat)) S):w5 (.int i) (.int j) S Q:=⟨h0,h⟩
theorem F7 {tr:Bool}(h:Q (.int (i+j)) S):kM tr (.int i) (.int j) S Q:=h
theorem F8 {tr:Bool}(h0:a.length+c.length<=sizeLine) (h:Q (.str (a++c)) S):kM tr (.str a) (.str c) S Q:=⟨h0,h⟩
theorem F9 {tr:Bool}(e1:cW S x=some ts) (e2:cW S y=some us) (hz:ts.length+us.length<=sizeLine) (h:aZ tr (ts++us) S Q):kM tr x y S Q:=by
 cases x<;>first|(cases e1;done)|exact ⟨ts,us,e1,e2,hz,h⟩
theorem F' {tr:Bool}(h0:iI i j) (h:Q (.int (i * j)) S):w6 tr (.int i) (.int j) S Q:=⟨h0,h⟩
theorem Jf {n:Bool}(h:Q (.bl (n ^^ decide (i=j))) S):gEq n (.int i) (.int j) S Q:=h
theorem Jg {n:Bool}(h:Q (.bl (n ^^ decide (a=c))) S):gEq n (.str a) (.str c) S Q:=h
theorem Jh {n k l:Bool}(h:Q (.bl (n ^^ decide (k=l))) S):gEq n (.bl k) (.bl l) S Q:=h
theorem Ji (h:Q (.bl (decide (i<j))) S):gLt (.int i) (.int j) S Q:=h
theorem Jj (h:Q (.bl (decide (i<=j))) S):gLe (.int i) (.int j) S Q:=h
theorem Jk (h:Q (.bl (decide (j<i))) S):gGt (.int i) (.int j) S Q:=h
theorem Jl (h:Q (.bl (decide (j<=i))) S):gGe (.int i) (.int j) S Q:=h
theorem Jm (h:Q (.bl (!ltS c a)) S):gLe (.str a) (.str c) S Q:=h
theorem Lc {n:Bool}(h:Q (.bl (n ^^ isN x)) S):gIs n x .non S Q:=h
theorem gi (e:atI ts i=some t) (h:Q t S):gIx (.tup ts) (.int i) S Q:=⟨t,e,h⟩
theorem cE (e:atI ts i=some t) (h:Q t S):gIx (.lst ts) (.int i) S Q:=⟨t,e,h⟩
theorem iz (e:S p=some (.lst ts)) (e2:atI ts i=some t) (h:Q t S):gIx (.ref p) (.int i) S Q:=⟨t,(FI e).trans e2,h⟩
theorem Jn {d:Nat}(hz:a.length<=sizeLine) (e:atI a.cps.toList i=some d) (h:Q (.str ⟨#[d]⟩) S):gIx (.str a) (.int i) S Q:=⟨_,by show (if _ then _ else _)=_;rw [if_pos hz,e];rfl,h⟩
theorem Jo {tr:Bool}{lo hi:Option Int}(hz:a.length<=sizeLine) (h:Q (.str (Txt.slice a lo hi)) S):gSl tr (.str a) lo hi S Q:=⟨hz,h⟩
theorem vY {tr:Bool}{lo hi:Option Int}(h:aZ tr (fh ts lo hi) S Q):gSl tr (.lst ts) lo hi S Q:=⟨ts,rfl,h⟩
theorem jU {α:Type}{ls:List α}(h0:0<=i) (h1:i<ls.length):∃ z,atI ls i=some z/\z∈ls:=by
 have hj:i.toNat<ls.length:=by omega
 refine ⟨ls[i.toNat],?_,List.getElem_mem hj⟩
 have e:((i.toNat:Nat):Int)=i:=by omega
 have:=fH (xs:=ls) (j:=i.toNat) (v:=ls[i.toNat]) (by simp [hj])
 rw [e] at this
 exact this
theorem nD {α β:Type}{ls:List α}(f:α->β):atI (ls.map f) i=(atI ls i).map f:=by
 unfold atI
 rw [List.length_map]
 cases ixN ls.length i with
 |none=>rfl
 |some j=>simp [List.getElem?_map]
theorem d6 (P:T->Prop) (h0:0<=i) (h1:i<ts.length) (hp:∀ t∈ts,P t) (h:∀ t,P t->Q t S):gIx (.lst ts) (.int i) S Q:=by
 obtain ⟨z,e,hz⟩:=jU h0 h1
 exact ⟨z,by simp only [uu,e],h z (hp z hz)⟩
theorem Jp {α:Type}{f:α->T}{ls:List α}(h0:0<=i) (h1:i<ls.length) (h:∀ z,z∈ls->atI ls i=some z->Q (f z) S):gIx (.lst (ls.map f)) (.int i) S Q:=by
 obtain ⟨z,e,hz⟩:=jU h0 h1
 exact ⟨f z,by simp only [uu,nD,e,Option.map_some],h z hz e⟩
theorem vZ {ns:List Int}(h0:0<=i) (h1:i<ns.length) (h:∀ z,z∈ns->atI ns i=some z->Q (.int z) S):gIx (.scr ns) (.int i) S Q:=by
 obtain ⟨z,e,hz⟩:=jU h0 h1
 exact ⟨.int z,by show atI (ns.map T.int) i=_;simp only [nD,e,Option.map_some],h z hz e⟩
theorem C2 {Q:Sto->Prop}{k:Nat}(e0:i=k) (hk:k<ts.length) (e:ts.set k t=us) (h:Q (put S p (.lst us))):pe k (.ref p) (.int i) t (put S p (.lst ts)) Q:=⟨e0,ts,aF,hk,by rw [bM,e];exact h⟩
theorem Ga {Q:Sto->Prop}{k:Nat}(e1:S p=some (.lst ts)) (e0:i=k) (hk:k<ts.length) (e:ts.set k t=us) (h:Q (put S p (.lst us))):pe k (.ref p) (.int i) t S Q:=⟨e0,ts,e1,hk,by rw [e];exact h⟩
theorem Jq {n:Bool}(f:bO x=true) (f2:ts.all bO=true) (h:Q (.bl (n ^^ ts.any λy=>eqF y x)) S):gIn n x (.tup ts) S Q:=.inr (.inl ⟨ts,rfl,f,f2,h⟩)
theorem ph {n:Bool}(f:bO x=true) (f2:ts.all bO=true) (h:Q (.bl (n ^^ ts.any λy=>eqF y x)) S):gIn n x (.lst ts) S Q:=.inr (.inr ⟨ts,rfl,f,f2,h⟩)
theorem Jr {n:Bool}(e:S p=some (.lst ts)) (f:bO x=true) (f2:ts.all bO=true) (h:Q (.bl (n ^^ ts.any λy=>eqF y x)) S):gIn n x (.ref p) S Q:=.inr (.inr ⟨ts,fR e,f,f2,h⟩)
theorem Gc (hz:a.length<=sizeLine) (h:Q (.int a.length) S):eC [.str a] S Q:=⟨_,if_pos hz,h⟩
theorem Gd (h:Q (.int ts.length) S):eC [.tup ts] S Q:=⟨_,rfl,h⟩
theorem Ge (h:Q (.int ts.length) S):eC [.lst ts] S Q:=⟨_,rfl,h⟩
theorem sU (e:S p=some (.lst ts)):iM S (.ref p)=some (ts.length:Int):=by
 show (aT S (.ref p)).map (λts=>(ts.length:Int))=_
 rw [fR e];rfl
theorem C3:iM S (.lst ts)=some (ts.length:Int):=rfl
theorem C4 {ns:List Int}:iM S (.scr ns)=some ((ns.map T.int).length:Int):=rfl
theorem Gf {α:Type}{f:α->T}{ls:List α}(h:Q (.int ls.length) S):eC [.lst (ls.map f)] S Q:=⟨_,by rw [C3,List.length_map],h⟩
theorem Gg {ns:List Int}(h:Q (.int ns.length) S):eC [.scr ns] S Q:=⟨_,by rw [C4,List.length_map],h⟩
theorem Gh (e:S p=some (.lst ts)) (h:Q (.int ts.length) S):eC [.ref p] S Q:=⟨_,by simp only [sU e],h⟩
theorem v5 {K:Fg}{n:String}{v:Value}{b:Bool}(e:tyT S x=some v) (k:PySem.W.kitOne K v (.type n)=some b) (h:Q (.bl b) S):xh K [x,.ty n] S Q:=⟨v,b,e,k,h⟩
theorem Js (h:Q (.int (if j<i then j else i)) S):xj [.int i,.int j] S Q:=⟨_,_,rfl,h⟩
theorem uE {bs:List Bool}(e:eD ts=some bs) (h:Q (.bl (bs.all id)) S):xi [.lst ts] S Q:=⟨ts,bs,rfl,e,h⟩
theorem uF {k:Bool}(h:Q (.int (if k then 1 else 0)) S):xk [.bl k] S Q:=h
theorem C5 {tr:Bool}(e:S p=some (.lst ts)) (h:aZ tr ts S Q):vU tr [.ref p] S Q:=⟨ts,fR e,h⟩
theorem C6 {tr:Bool}(h0:c.length≠0) (h1:a.length<=1000) (h:aZ tr ((Txt.split a c).map T.str) S Q):uC tr (.str a) [.str c] S Q:=⟨h0,h1,h⟩
theorem C7 {zs:List Str}(e:eZ ts=some zs) (h0:JoinOk a zs=true) (h:Q (.str (Txt.join a zs)) S):vX (.str a) [.lst ts] S Q:=⟨ts,zs,rfl,e,h0,h⟩
theorem A1 (h:Q (.bl (Txt.startswith a c)) S):sS (.str a) [.str c] S Q:=h
theorem jp (e:S p=some (.lst ts)) (h0:ts.length<sizeLine) (h:Q .non (put S p (.lst (ts++[y])))):sT (.ref p) [y] S Q:=⟨ts,e,h0,h⟩
theorem Jt {Q:Prop}(h:Q):tyM "str" S (.str a)/\Q:=⟨rfl,h⟩
theorem Ju {Q:Prop}(e:S p=some (.lst ts)) (h:Q):tyM "list" S (.ref p)/\Q:=⟨by delta tyM;dsimp only;rw [e],h⟩
theorem Jv {A:List T->Prop}(h:A ts):∃ us,aT S (.lst ts)=some us/\A us:=⟨ts,rfl,h⟩
theorem Jw {A:List T->Prop}(e:S p=some (.lst ts)) (h:A ts):∃ us,aT S (.ref p)=some us/\A us:=⟨ts,fR e,h⟩
theorem Ld {ts:List T}{n:Nat}{Q:Prop}(e:ts.length<=sizeLine) (h:Q):ts.length<=sizeLine/\Q:=⟨e,h⟩
theorem Gi (hz:a.length<=sizeLine) (h0:0<=i) (h1:i<a.length) (h:∀ d,d∈a.cps.toList->atI a.cps.toList i=some d->Q (.str ⟨#[d]⟩) S):gIx (.str a) (.int i) S Q:=by
 obtain ⟨d,e,hd⟩:=jU (ls:=a.cps.toList) h0 (by simpa [Str.length] using h1)
 exact Jn hz e (h d hd e)
theorem C8 {α:Type}{f:α->T}{ls:List α}(e:S p=some (.lst (ls.map f))) (h:Q (.int ls.length) S):eC [.ref p] S Q:=⟨_,by simp only [sU e,List.length_map],h⟩
theorem Le.put {o:O}(h:S p=Option.none):Le S (T2.put S p o):=λa u e=>by
 have:a≠p:=λz=>by rw [z,h] at e;cases e
 rw [aA this];exact e
theorem Le.trans {S1 S2 S3:Sto}(a:Le S1 S2) (b:Le S2 S3):Le S1 S3:=λc o h=>b c o (a c o h)
theorem A2 {a b:Addr}{x y:O}(h:a≠b):T2.put (T2.put S a x) b y=T2.put (T2.put S b y) a x:=by
 funext c
 unfold T2.put
 by_cases h1:c=b
 ·by_cases h2:c=a
  ·exact absurd (h2.symm.trans h1) h
  ·simp [h1,h2,Ne.symm h]
 ·by_cases h2:c=a
  ·simp [h1,h2,h]
  ·simp [h1,h2]
theorem b6 {a b:Addr}{o:O}(h:T2.put S a o b=Option.none):b≠a/\S b=Option.none:=by
 have ne:b≠a:=λz=>by rw [z,aF] at h;cases h
 exact ⟨ne,by rw [aA ne] at h;exact h⟩
theorem C9 (z:Str) (ws:List Str):((ws.map T.str).any λy=>eqF y (.str z))=decide (z∈ws):=by
 induction ws with
 |nil=>rfl
 |cons a l ih =>
  rw [List.map_cons,List.any_cons,ih,Bool.eq_iff_iff]
  simp only [IH,Bool.or_eq_true,beq_iff_eq,decide_eq_true_eq,List.mem_cons]
  constructor
  ·rintro (h|h)
   ·exact .inl h.symm
   ·exact .inr h
  ·rintro (h|h)
   ·exact .inl h.symm
   ·exact .inr h
theorem zZ (ws:List Str):(ws.map T.str).all bO=true:=by
 induction ws with
 |nil=>rfl
 |cons a l ih=>rw [List.map_cons,List.all_cons,ih];rfl
theorem uG {n:Bool}(h:Q (.bl (n ^^ !(Builtin.Str.occurrences c a 0 c.length 1).isEmpty)) S):gIn n (.str a) (.str c) S Q:=.inl ⟨_,_,rfl,rfl,h⟩
theorem Gj {n:Bool}{ws:List Str}{zz:Str}(e:S p=some (.lst (ws.map T.str))) (h:Q (.bl (n ^^ decide (zz∈ws))) S):gIn n (.str zz) (.ref p) S Q:=Jr e rfl (zZ ws) (by rw [C9];exact h)
theorem Le.put2 {S1 S2:Sto}{o:O}(l:Le S1 S2):Le (T2.put S1 p o) (T2.put S2 p o):=λa u e=>by
 by_cases h:a=p
 ·subst h;rw [aF] at e ⊢;exact e
 ·rw [aA h] at e ⊢;exact l a u e
def iN {α:Type}(ls:List α) (lo hi:Option Int):List α:=(ls.drop (HT.sIx ls.length 0 lo)).take (HT.sIx ls.length ls.length hi - HT.sIx ls.length 0 lo)
theorem A3 {α:Type}{f:α->T}{ls:List α}{lo hi:Option Int}:fh (ls.map f) lo hi=(iN ls lo hi).map f:=by
 unfold fh iN
 rw [List.length_map,List.map_take,List.map_drop]
theorem nE {α:Type}{ls:List α}{k:Int}(h:0<=k):iN ls none (some k)=ls.take k.toNat:=by
 unfold iN
 have e:((k.toNat:Nat):Int)=k:=by omega
 rw [<- e,HT.sIx_nat,HT.sIx_none,Int.toNat_natCast,List.drop_zero,Nat.sub_zero,Nat.min_comm,<- List.take_take]
 exact List.take_of_length_le (by rw [List.length_take];omega)
theorem Jx {tr:Bool}{α:Type}{f:α->T}{ls:List α}{lo hi:Option Int}(h:aZ tr ((iN ls lo hi).map f) S Q):gSl tr (.lst (ls.map f)) lo hi S Q:=vY (by rw [A3];exact h)
theorem Jy {A:Prop}(h0:-(2 ^ 62)<=j) (h1:j<2 ^ 62) (h:A):-(2 ^ 62)<=j/\j<2 ^ 62/\A:=⟨h0,h1,h⟩
theorem ifT {A C:Prop}(h:A):if true=true then A else C:=by rw [if_pos rfl];exact h
theorem ifF {A C:Prop}(h:C):if false=true then A else C:=by rw [if_neg Bool.false_ne_true];exact h
theorem Lf {A C:Prop}(h:C):if (!true)=true then A else C:=ifF h
theorem Lg {A C:Prop}(h:A):if (!false)=true then A else C:=ifT h
theorem ifB {b:Bool}{A C:Prop}(h1:b=true->A) (h2:b=false->C):if b=true then A else C:=by
 cases b with
 |true=>exact ifT (h1 rfl)
 |false=>exact ifF (h2 rfl)
end
end T2
namespace S6
open PySem PyProof.Rows
noncomputable def rk (ρ:Keyed->Nat) (xs:Array Keyed) (i:Nat):Nat:=((xs[i]?).map ρ).getD 0
theorem v6 {ρ:Keyed->Nat}{xs ys:Array Keyed}{i j:Nat}(h:xs[i]?=ys[j]?):rk ρ xs i=rk ρ ys j:=by unfold rk;rw [h]
theorem g8 {ρ:Keyed->Nat}{xs:Array Keyed}{i j:Nat}(hj:j<=xs.size) (k:Nat) :
  rk ρ (mirror xs i j ((j - i) / 2)) k=rk ρ xs (if i<=k/\k<j then i+j - 1 - k else k):=by
 refine v6 ?_
 rw [getElem?_mirror_all hj]
 split<;>rfl
theorem sV {ρ:Keyed->Nat}{xs:Array Keyed}{n d:Nat}(hn:n<xs.size) (hd:d<=n) (k:Nat) :
  rk ρ (bubble xs n d) k=rk ρ xs (if k=n - d then n else if n - d<k/\k<=n then k - 1 else k):=by
 refine v6 ?_
 rw [getElem?_bubble hn d hd]
 split
 ·rfl
 ·split<;>rfl
def Up (ρ:Keyed->Nat) (xs:Array Keyed) (n:Nat):Prop:=∀ i j,i<=j->j<n->rk ρ xs i<=rk ρ xs j
def Dn (ρ:Keyed->Nat) (xs:Array Keyed) (n:Nat):Prop:=∀ i j,i<=j->j<n->rk ρ xs j<=rk ρ xs i
structure Ok (kd:SortKind) (a₀:Array Keyed) (st:SortSt):Prop where
 perm:(arrOf st).Perm a₀
 kind:kindOf st=kd
 well:failedOf st=none
 runs:pendingOf st=#[]
theorem Ok.sz {kd a₀ st}(o:Ok kd a₀ st):(arrOf st).size=a₀.size:=o.perm.size_eq
theorem Ok.arr {kd a₀ st xs}(o:Ok kd a₀ st) (h:xs.Perm (arrOf st)):Ok kd a₀ (setArr st xs):=⟨h.trans o.perm,o.kind,o.well,o.runs⟩
def Cm (prog:Program) (w:World) (A:Around) (s:Shared) (kd:SortKind) (a₀:Array Keyed) (ρ:Keyed->Nat):Prop :=
 ∀ x y,x∈a₀.toList->y∈a₀.toList->∀ (E:Value->Shared->Prop) (Q:Bool->Shared->Prop),Q (decide (ρ x<ρ y)) s->wpAny (model prog w) A (keyLt' kd x.1 y.1) Q E s
section
variable {prog:Program}{w:World}{A:Around}{E:Value->Shared->Prop}{s:Shared}{a₀:Array Keyed}{kd:SortKind}{ρ:Keyed->Nat}{st:SortSt}
theorem g9 {i j:Nat}{Q:Option Bool->SortSt->Prop}(C:Cm prog w A s kd a₀ ρ) (o:Ok kd a₀ st) (hi:i<a₀.size) (hj:j<a₀.size) (h:Q (some (decide (rk ρ (arrOf st) i<rk ρ (arrOf st) j))) st) :
  wpS (model prog w) A E s (ltAt' i j) Q st:=by
 have get:∀ k,k<a₀.size->∃ p,(arrOf st)[k]?=some p/\p∈a₀.toList:=λk hk=>by
  have hk':k<(arrOf st).size:=by rw [o.sz];exact hk
  exact ⟨_,getElem?_pos _ k hk',(Array.perm_iff_toList_perm.mp o.perm).mem_iff.mp (by simp)⟩
 obtain ⟨p,ep,mp⟩:=get i hi
 obtain ⟨q,eq,mq⟩:=get j hj
 have h':Q (some (decide (ρ p<ρ q))) st:=by unfold rk at h;rw [ep,eq] at h;exact h
 rw [ltAt'_eq]
 refine wpS_bind (wpS_get ?_)
 dsimp only
 rw [elem'_eq,ep]
 refine wpS_bind (wpS_pure ?_)
 rw [elem'_eq,eq]
 refine wpS_bind (wpS_pure ?_)
 rw [lt'_eq]
 refine wpS_bind (wpS_get (wpS_bind ?_))
 rw [o.kind]
 exact wpS_lift (wpAny_attempt (C p q mp mq _ _ ⟨rfl,wpS_pure h'⟩))
theorem v7 {a n:Nat}{Q:AscSt->SortSt->Prop}(C:Cm prog w A s kd a₀ ρ) (o:Ok kd a₀ st) (hn:n<=a₀.size) (h1:1<=a) (ha:a<=n) (u:Up ρ (arrOf st) a)
  (h:∀ m,a<=m->m<=n->Up ρ (arrOf st) m->(m<n->rk ρ (arrOf st) m<rk ρ (arrOf st) (m - 1))->Q (none,m) st):wpS (model prog w) A E s (ascLoop a n) Q st:=by
 unfold ascLoop
 refine wpS_forRange (λk c z=>z=st/\c=(none,k)/\Up ρ (arrOf st) k) ?_ ?_ ⟨rfl,rfl,u⟩
 ·rintro k c z l1 l2 ⟨rfl,rfl,uk⟩
  refine wpS_bind (g9 C o (by dsimp only;omega) (by dsimp only;omega) ?_)
  dsimp only
  by_cases g:rk ρ (arrOf z) k<rk ρ (arrOf z) (k - 1)
  ·rw [decide_eq_true g]
   exact wpS_pure (h k l1 (by omega) uk λ_=>g)
  ·rw [decide_eq_false g]
   refine wpS_pure ⟨rfl,rfl,λi j ij jk=>?_⟩
   rcases Nat.lt_or_ge j k with q|q
   ·exact uk i j ij q
   ·obtain rfl:j=k:=by omega
    rcases Nat.lt_or_ge i j with q|q
    ·have:=uk i (j - 1) (by omega) (by omega)
     omega
    ·obtain rfl:i=j:=by omega
     exact Nat.le_refl _
 ·rintro c z ⟨rfl,rfl,uk⟩
  rw [Nat.max_eq_right ha] at uk ⊢
  exact h n ha (Nat.le_refl _) uk λq=>absurd q (Nat.lt_irrefl _)
theorem uH {m n:Nat}{Q:Option Nat->SortSt->Prop}(C:Cm prog w A s kd a₀ ρ) (o:Ok kd a₀ st) (hn:n<=a₀.size) (h1:1<=m) (hm:m<=n) (d:Dn ρ (arrOf st) m)
  (h:∀ k z,Ok kd a₀ z->1<=k->k<=n->Up ρ (arrOf z) k->Q (some k) z):wpS (model prog w) A E s (tail3 m n) Q st:=by
 unfold tail3
 refine wpS_bind (wpS_reverse ?_)
 have o':Ok kd a₀ (setArr st (mirror (arrOf st) 0 m ((m - 0) / 2))):=o.arr (mirror_perm _ _ _ _)
 refine wpS_bind (v7 C o' hn h1 hm (λi j ij jm=>?_) λk k1 k2 uk _=>wpS_pure (h k _ o' (by omega) k2 uk))
 show rk ρ (mirror (arrOf st) 0 m ((m - 0) / 2)) i<=rk ρ (mirror (arrOf st) 0 m ((m - 0) / 2)) j
 rw [g8 (by rw [o.sz];omega),g8 (by rw [o.sz];omega),if_pos (by omega),if_pos (by omega)]
 exact d _ _ (by omega) (by omega)
def Lk (ρ:Keyed->Nat) (xs:Array Keyed) (m e:Nat):Prop:=e+1<=m/\∀ i,m - (e+1)<=i->i<m->rk ρ xs i=rk ρ xs (m - 1)
theorem Lk.rev {xs:Array Keyed}{m e:Nat}(l:Lk ρ xs m e) (hm:m<=xs.size) (k:Nat):rk ρ (mirror xs (m - (e+1)) m ((m - (m - (e+1))) / 2)) k=rk ρ xs k:=by
 rw [g8 hm]
 split
 ·rename_i q
  rw [l.2 _ (by have:=l.1;omega) (by omega),l.2 k q.1 q.2]
 ·rfl
theorem Gm {m n:Nat}{Q:DescSt->SortSt->Prop}(C:Cm prog w A s kd a₀ ρ) (o:Ok kd a₀ st) (hn:n<=a₀.size) (h1:1<=m) (hm:m<=n) (d:Dn ρ (arrOf st) m)
  (h:∀ k e z,Ok kd a₀ z->m<=k->k<=n->Dn ρ (arrOf z) k->Lk ρ (arrOf z) k e->Q (none,k,e) z):wpS (model prog w) A E s (descLoop m n) Q st:=by
 unfold descLoop
 refine wpS_forRange (λk c z=>∃ e,c=(none,k,e)/\Ok kd a₀ z/\Dn ρ (arrOf z) k/\Lk ρ (arrOf z) k e) ?_ ?_ ⟨0,rfl,o,d,h1,λi i1 i2=>by rw [show i=m - 1 by omega]⟩
 ·rintro k c z l1 l2 ⟨e,rfl,oz,dz,lz⟩
  refine wpS_bind (g9 C oz (by dsimp only;omega) (by dsimp only;omega) ?_)
  dsimp only
  have more:∀ xs:Array Keyed,(∀ i,rk ρ xs i=rk ρ (arrOf z) i)->rk ρ (arrOf z) k<=rk ρ (arrOf z) (k - 1)->Dn ρ xs (k+1):=λxs hx le i j ij jk=>by
   rw [hx,hx]
   rcases Nat.lt_or_ge j k with q|q
   ·exact dz i j ij q
   ·obtain rfl:j=k:=by omega
    rcases Nat.lt_or_ge i j with q|q
    ·have:=dz i (j - 1) (by omega) (by omega)
     omega
    ·obtain rfl:i=j:=by omega
     exact Nat.le_refl _
  by_cases g:rk ρ (arrOf z) k<rk ρ (arrOf z) (k - 1)
  ·rw [decide_eq_true g]
   simp only [if_true]
   split
   ·refine wpS_bind (wpS_reverse (wpS_pure ⟨0,rfl,oz.arr (mirror_perm _ _ _ _),more _ (lz.rev (by rw [oz.sz];omega)) (by omega),by omega,λi i1 i2=>by rw [show i=k+1 - 1 by omega]⟩))
   ·exact wpS_pure ⟨0,rfl,oz,more _ (λ_=>rfl) (by omega),by omega,λi i1 i2=>by rw [show i=k+1 - 1 by omega]⟩
  ·rw [decide_eq_false g]
   simp only [Bool.false_eq_true,if_false]
   refine wpS_bind (g9 C oz (by omega) (by omega) ?_)
   by_cases g2:rk ρ (arrOf z) (k - 1)<rk ρ (arrOf z) k
   ·rw [decide_eq_true g2]
    simp only [if_true]
    exact wpS_pure (h k e z oz l1 (by omega) dz lz)
   ·rw [decide_eq_false g2]
    simp only [Bool.false_eq_true,if_false]
    refine wpS_pure ⟨e+1,rfl,oz,more _ (λ_=>rfl) (by omega),by have:=lz.1;omega,λi i1 i2=>?_⟩
    rw [show k+1 - 1=k by omega]
    rcases Nat.lt_or_ge i k with q|q
    ·rw [lz.2 i (by omega) q];omega
    ·rw [show i=k by omega]
 ·rintro c z ⟨e,rfl,oz,dz,lz⟩
  rw [Nat.max_eq_right hm] at dz lz ⊢
  exact h n e z oz hm (Nat.le_refl _) dz lz
theorem qz {m n:Nat}{Q:Option Nat->SortSt->Prop}(C:Cm prog w A s kd a₀ ρ) (o:Ok kd a₀ st) (hn:n<=a₀.size) (hm:m+1<=n) (d:Dn ρ (arrOf st) (m+1))
  (h:∀ k z,Ok kd a₀ z->1<=k->k<=n->Up ρ (arrOf z) k->Q (some k) z):wpS (model prog w) A E s (descPart m n) Q st:=by
 unfold descPart
 refine wpS_bind (wpS_lift (wpAny_rule ⟨rfl,wpS_bind (Gm C o hn (by omega) hm d λk e z oz k1 k2 dz lz=>?_)⟩))
 dsimp only
 split
 ·refine wpS_bind (wpS_reverse (uH C (oz.arr (mirror_perm _ _ _ _)) hn (by omega) k2 (λi j ij jk=>?_) h))
  have e:=lz.rev (by rw [oz.sz];omega)
  show rk ρ (mirror _ _ _ _) j<=rk ρ (mirror _ _ _ _) i
  rw [e,e]
  exact dz i j ij jk
 ·exact uH C oz hn (by omega) k2 dz h
theorem Dc {n:Nat}{Q:Option Nat->SortSt->Prop}(C:Cm prog w A s kd a₀ ρ) (o:Ok kd a₀ st) (hn:n<=a₀.size) (h1:1<=n)
  (h:∀ k z,Ok kd a₀ z->1<=k->k<=n->Up ρ (arrOf z) k->Q (some k) z):wpS (model prog w) A E s (countRun' 0 n) Q st:=by
 rw [countRun0_eq]
 refine wpS_bind (v7 C o hn (Nat.le_refl _) h1 (λi j ij j1=>by rw [show i=j by omega];exact Nat.le_refl _) λm m1 m2 um lm=>?_)
 dsimp only
 split
 ·rename_i q
  exact wpS_pure (h m st o m1 m2 um)
 ·rename_i q
  have mn:m<n:=by
   rcases Nat.lt_or_ge m n with z|z
   ·exact z
   ·exact (q (beq_iff_eq.mpr (by omega))).elim
  have gm:=lm mn
  split
  ·refine wpS_bind (g9 C o (by omega) (by omega) ?_)
   dsimp only
   by_cases g:rk ρ (arrOf st) 0<rk ρ (arrOf st) (m - 1)
   ·rw [decide_eq_true g]
    exact wpS_pure (h m st o m1 m2 um)
   ·rw [decide_eq_false g]
    refine wpS_bind (wpS_reverse (qz C (o.arr (mirror_perm _ _ _ _)) hn mn (λi j ij jm=>?_) h))
    have all:∀ i,i<m->rk ρ (arrOf st) i=rk ρ (arrOf st) (m - 1):=λi im=>by
     have a1:=um 0 i (by omega) im
     have a2:=um i (m - 1) (by omega) (by omega)
     omega
    show rk ρ (mirror _ _ _ _) j<=rk ρ (mirror _ _ _ _) i
    rw [g8 (by rw [o.sz];omega),g8 (by rw [o.sz];omega)]
    rcases Nat.lt_or_ge j m with q1|q1
    ·rw [if_pos (by omega),if_pos (by omega),all _ (by omega),all (0+m - 1 - i) (by omega)]
     exact Nat.le_refl _
    ·obtain rfl:j=m:=by omega
     rw [if_neg (by omega)]
     split
     ·rw [all (0+j - 1 - i) (by omega)];omega
     ·rw [show i=j by omega];exact Nat.le_refl _
  ·refine qz C o hn mn (λi j ij jm=>?_) h
   obtain rfl:m=1:=by omega
   rcases Nat.lt_or_ge i j with q1|q1
   ·obtain ⟨rfl,rfl⟩:i=0/\j=1:=by omega
    exact Nat.le_of_lt gm
   ·rw [show i=j by omega];exact Nat.le_refl _
theorem Jz {n ok:Nat}{Q:Bool->SortSt->Prop}(C:Cm prog w A s kd a₀ ρ) (o:Ok kd a₀ st) (hn:n<=a₀.size) (hk:ok<=n) (u:Up ρ (arrOf st) ok)
  (h:∀ z,Ok kd a₀ z->Up ρ (arrOf z) n->Q true z):wpS (model prog w) A E s (binarySort' 0 n ok) Q st:=by
 rw [binarySort'_eq]
 simp only [Nat.zero_add]
 have first:∀ {k:Nat},k<=max ok 1->Up ρ (arrOf st) k:=fun {k} hk1 i j ij jk=>by
  rcases Nat.lt_or_ge j ok with q|q
  ·exact u i j ij q
  ·rw [show i=j by omega];exact Nat.le_refl _
 refine wpS_bind (wpS_mono (wpS_forRange (λk c z=>c=(none,())/\Ok kd a₀ z/\∀ i,i<=k->i<=n->Up ρ (arrOf z) i) (Q:=λc z=>c=(none,())/\Ok kd a₀ z/\Up ρ (arrOf z) n) ?_ ?_ ⟨rfl,o,λi i1 _=>first i1⟩) ?_)
 ·rintro k c z l1 l2 ⟨rfl,oz,uz⟩
  have uk:=uz k (Nat.le_refl _) (by omega)
  have kz:k<(arrOf z).size:=by rw [oz.sz];omega
  refine wpS_bind (wpS_mono (wpS_forRange
   (λi c y=>y=z/\∃ l r,c=(none,l,r)/\l<=r/\r<=k/\r+i<=l+k/\(∀ j,j<l->rk ρ (arrOf z) j<=rk ρ (arrOf z) k)/\∀ j,r<=j->j<k->rk ρ (arrOf z) k<rk ρ (arrOf z) j)
   (Q:=λc y=>y=z/\∃ l r,c=(none,l,r)/\l<=k/\(∀ j,j<l->rk ρ (arrOf z) j<=rk ρ (arrOf z) k)/\∀ j,l<=j->j<k->rk ρ (arrOf z) k<rk ρ (arrOf z) j) ?_ ?_
   ⟨rfl,0,k,rfl,Nat.zero_le _,Nat.le_refl _,by omega,λj j0=>absurd j0 (Nat.not_lt_zero _),λj j1 j2=>by omega⟩) ?_)
  ·rintro i c y i1 i2 ⟨rfl,l,r,rfl,lr,rk',lk,lo,hi⟩
   dsimp only
   split
   ·obtain rfl:l=r:=by omega
    exact wpS_pure ⟨rfl,l,l,rfl,rk',lo,hi⟩
   ·refine wpS_bind (g9 C oz (by omega) (by omega) ?_)
    by_cases g:rk ρ (arrOf y) k<rk ρ (arrOf y) ((l+r) / 2)
    ·rw [decide_eq_true g]
     refine wpS_pure ⟨rfl,l,(l+r) / 2,rfl,by omega,by omega,by omega,lo,λj j1 j2=>?_⟩
     exact Nat.lt_of_lt_of_le g (uk _ _ j1 j2)
    ·rw [decide_eq_false g]
     refine wpS_pure ⟨rfl,(l+r) / 2+1,r,rfl,by omega,rk',by omega,λj j1=>?_,hi⟩
     exact Nat.le_trans (uk _ _ (by omega) (by omega)) (Nat.le_of_not_lt g)
  ·rintro c y ⟨rfl,l,r,rfl,lr,rk',lk,lo,hi⟩
   obtain rfl:l=r:=by omega
   exact ⟨rfl,l,l,rfl,rk',lo,hi⟩
  ·rintro c y ⟨rfl,l,r,rfl,lk,lo,hi⟩
   dsimp only
   rw [moveDown'_eq]
   refine wpS_bind (wpS_modify (wpS_pure ⟨rfl,oz.arr (bubble_perm _ _ _),λm m1 m2 i j ij jm=>?_⟩))
   show rk ρ (bubble (arrOf y) k (k - l)) i<=rk ρ (bubble (arrOf y) k (k - l)) j
   rw [sV kz (by omega),sV kz (by omega),show k - (k - l)=l by omega]
   rcases Nat.lt_trichotomy j l with q|q|q
   ·rw [if_neg (by omega),if_neg (by omega),if_neg (by omega),if_neg (by omega)]
    exact uk _ _ ij (by omega)
   ·rw [if_pos q]
    split
    ·exact Nat.le_refl _
    ·rw [if_neg (by omega)]
     exact lo _ (by omega)
   ·rw [if_neg (show ¬ j=l by omega),if_pos (show l<j/\j<=k by omega)]
    split
    ·exact Nat.le_of_lt (hi _ (by omega) (by omega))
    ·split
     ·exact uk _ _ (by omega) (by omega)
     ·exact uk _ _ (by omega) (by omega)
 ·rintro c z ⟨e,oz,uz⟩
  exact ⟨e,oz,uz n (by omega) (Nat.le_refl _)⟩
 ·rintro c z ⟨rfl,oz,uz⟩
  exact wpS_pure (h z oz uz)
theorem Gn {Q:Unit->SortSt->Prop}(C:Cm prog w A s kd a₀ ρ) (o:Ok kd a₀ st) (h2:2<=a₀.size) (Ps:a₀.size<64)
  (h:∀ z,(arrOf z).Perm a₀->failedOf z=none->Up ρ (arrOf z) a₀.size->Q () z):wpS (model prog w) A E s sortRuns' Q st:=by
 rw [sortRuns'_eq]
 refine wpS_bind (wpS_get ?_)
 dsimp only
 have run:minRun' a₀.size a₀.size 0=a₀.size:=by
  have:∀ f,0<f->minRun' f a₀.size 0=a₀.size:=λf hf=>by
   cases f with
   |zero=>omega
   |succ f=>rw [minRun'_succ,if_pos Ps];rfl
  exact this _ (by omega)
 simp only [o.sz,run]
 let D:SortSt->Prop:=λz=>(arrOf z).Perm a₀/\failedOf z=none/\(pendingOf z).size=1/\Up ρ (arrOf z) a₀.size
 have fin:∀ z,Ok kd a₀ z->Up ρ (arrOf z) a₀.size->D (setPending z ((pendingOf z).push (0,a₀.size,0))):=λz oz uz=>⟨oz.perm,oz.well,by rw [show pendingOf (setPending z ((pendingOf z).push (0,a₀.size,0)))=(pendingOf z).push (0,a₀.size,0) from rfl,oz.runs];rfl,uz⟩
 refine wpS_bind (wpS_mono (wpS_forRange (λk c z=>(k=0/\c=(none,0)/\Ok kd a₀ z)\/(0<k/\c=(none,a₀.size)/\D z)) (Q:=λc z=>c=(none,a₀.size)/\D z) ?_ ?_ (.inl ⟨rfl,rfl,o⟩)) ?_)
 ·rintro k c z l1 l2 (⟨rfl,rfl,oz⟩|⟨k0,rfl,dz⟩)
  ·dsimp only
   rw [if_neg (by omega)]
   simp only [Nat.sub_zero,Nat.min_self,Nat.zero_add]
   refine wpS_bind (Dc C oz (Nat.le_refl _) (by omega) λm y oy m1 m2 uy=>?_)
   have Sj:∀ {x:SortSt},Ok kd a₀ x->(pendingOf x).back?=none:=λox=>by rw [ox.runs];rfl
   dsimp only
   split
   ·refine wpS_bind (wpS_lift (wpAny_rule ⟨rfl,wpS_bind (Jz C oy (Nat.le_refl _) m2 uy λx ox ux=>?_)⟩))
    simp only [Bool.not_true,Bool.false_eq_true,if_false]
    refine wpS_bind (wpS_get ?_)
    rw [Sj ox]
    exact wpS_bind (wpS_modify (wpS_pure (.inr ⟨Nat.one_pos,rfl,fin x ox ux⟩)))
   ·obtain rfl:m=a₀.size:=by omega
    refine wpS_bind (wpS_get ?_)
    rw [Sj oy]
    exact wpS_bind (wpS_modify (wpS_pure (.inr ⟨Nat.one_pos,rfl,fin y oy uy⟩)))
  ·dsimp only
   rw [if_pos (Nat.le_refl _)]
   exact wpS_pure ⟨rfl,dz⟩
 ·rintro c z (⟨e,_⟩|⟨_,e,dz⟩)
  ·omega
  ·exact ⟨e,dz⟩
 ·rintro c z ⟨rfl,dz⟩
  dsimp only
  refine wpS_bind (wpS_mono (wpS_forRange (λ_ c y=>y=z/\c=(none,())) (Q:=λc y=>y=z/\c=(none,())) ?_ (λ_ _ e=>e) ⟨rfl,rfl⟩) ?_)
  ·rintro k c y _ _ ⟨rfl,rfl⟩
   refine wpS_bind (wpS_get ?_)
   rw [if_pos (by rw [dz.2.2.1];exact Nat.le_refl 1)]
   exact wpS_pure ⟨rfl,rfl⟩
  ·rintro c y ⟨rfl,rfl⟩
   exact wpS_pure (h _ dz.1 dz.2.1 dz.2.2.2)
end
end S6
namespace S6
open PySem PyProof.Rows PySem.SeqAt
inductive Ky where
 |i (n:Int)|s (x:Str)|tt (v:Bool)|nil|cons (h t:Ky)
 deriving DecidableEq
namespace Ky
mutual
noncomputable def dat:Ky->PyData
 |.i n=>.int n
 |.s x=>.str x
 |.tt v=>.bool v
 |.nil=>.tuple []
 |.cons h t=>.tuple (dat h::row t)
noncomputable def row:Ky->List PyData
 |.cons h t=>dat h::row t
 |_=>[]
end
noncomputable def shp:Ky->Ky->Bool
 |.i _,.i _=>true
 |.s _,.s _=>true
 |.tt _,.tt _=>true
 |.nil,.nil=>true
 |.cons h t,.cons h' t'=>shp h h'&&shp t t'
 |_,_=>false
noncomputable def lt:Ky->Ky->Bool
 |.i a,.i b=>decide (a<b)
 |.s a,.s b=>decide (a.cps.toList<b.cps.toList)
 |.tt a,.tt b=>!a&&b
 |.cons h t,.cons h' t'=>if h=h' then lt t t' else lt h h'
 |_,_=>false
noncomputable def ok:Ky->Bool
 |.cons h t=>ok h&&ok t&&isRow t
 |_=>true
where isRow:Ky->Bool
 |.nil=>true
 |.cons _ _=>true
 |_=>false
noncomputable def dep:Ky->Nat
 |.nil=>1
 |.cons h t=>max (dep h+1) (dep t)
 |_=>0
theorem cc {h t h' t':Ky}:shp (.cons h t) (.cons h' t')=(shp h h'&&shp t t'):=rfl
theorem bZ {a b:Int}:lt (.i a) (.i b)=decide (a<b):=rfl
theorem cg {a b:Str}:lt (.s a) (.s b)=decide (a.cps.toList<b.cps.toList):=rfl
theorem b0 {a b:Bool}:lt (.tt a) (.tt b)=(!a&&b):=rfl
theorem bH {h t h' t':Ky}:lt (.cons h t) (.cons h' t')=if h=h' then lt t t' else lt h h':=rfl
theorem fj {h t:Ky}:ok (.cons h t)=(ok h&&ok t&&ok.isRow t):=rfl
theorem kx {h t:Ky}:dep (.cons h t)=max (dep h+1) (dep t):=rfl
theorem Go {a b:Str}(h:a≠b):a.cps.toList≠b.cps.toList:=λe=>h (by
 cases a;cases b
 simp only [Str.mk.injEq] at h ⊢
 exact Array.toList_inj.mp e)
theorem tri:∀ {x y:Ky},shp x y=true->lt x y=true\/x=y\/lt y x=true
 |.i a,.i b,_=>by
  simp only [bZ,cg,b0,bH,decide_eq_true_eq,Ky.i.injEq];omega
 |.s a,.s b,_=>by
  simp only [bZ,cg,b0,bH,decide_eq_true_eq,Ky.s.injEq]
  by_cases e:a=b
  ·exact .inr (.inl e)
  ·by_cases l:a.cps.toList<b.cps.toList
   ·exact .inl l
   ·refine .inr (.inr ?_)
    rcases List.le_iff_lt_or_eq.mp (List.not_lt.mp l) with z|z
    ·exact z
    ·exact (Go e z.symm).elim
 |.tt a,.tt b,_=>by cases a<;>cases b<;>simp [bZ,cg,b0,bH]
 |.nil,.nil,_=>.inr (.inl rfl)
 |.cons h t,.cons h' t',e=>by
  simp only [cc,Bool.and_eq_true] at e
  by_cases q:h=h'
  ·subst q
   rcases tri e.2 with z|z|z
   ·exact .inl (by simp [bZ,cg,b0,bH,z])
   ·exact .inr (.inl (by rw [z]))
   ·exact .inr (.inr (by simp [bZ,cg,b0,bH,z]))
  ·rcases tri e.1 with z|z|z
   ·exact .inl (by simp [bZ,cg,b0,bH,q,z])
   ·exact (q z).elim
   ·exact .inr (.inr (by simp [bZ,cg,b0,bH,Ne.symm q,z]))
theorem irr:∀ x:Ky,lt x x=false
 |.i _=>by simp [bZ,cg,b0,bH]
 |.s x=>by simp only [bZ,cg,b0,bH,decide_eq_false_iff_not];exact List.lt_irrefl _
 |.tt v=>by cases v<;>rfl
 |.nil=>rfl
 |.cons h t=>by simp [bZ,cg,b0,bH,irr t]
theorem trans:∀ {x y z:Ky},shp x y=true->shp y z=true->lt x y=true->lt y z=true->lt x z=true
 |.i a,.i b,.i c,_,_,p,q=>by simp only [bZ,cg,b0,bH,decide_eq_true_eq] at *;omega
 |.s a,.s b,.s c,_,_,p,q=>by simp only [bZ,cg,b0,bH,decide_eq_true_eq] at *;exact List.lt_trans p q
 |.tt a,.tt b,.tt c,_,_,p,q=>by cases a<;>cases b<;>cases c<;>simp [bZ,cg,b0,bH] at *
 |.cons h t,.cons h' t',.cons h2 t2,e,f,p,q=>by
  simp only [cc,Bool.and_eq_true] at e f
  simp only [bZ,cg,b0,bH] at p q ⊢
  by_cases a:h=h'
  ·subst a
   rw [if_pos rfl] at p
   by_cases b:h=h2
   ·subst b
    rw [if_pos rfl] at q ⊢
    exact trans e.2 f.2 p q
   ·rw [if_neg b] at q ⊢;exact q
  ·rw [if_neg a] at p
   by_cases b:h'=h2
   ·subst b
    rw [if_neg a];exact p
   ·rw [if_neg b] at q
    have:=trans e.1 f.1 p q
    rw [if_neg (λz=>by rw [z,irr] at this;cases this)]
    exact this
theorem Lh {x y:Ky}(h:shp x y=true) (p:lt x y=true):lt y x=false:=by
 cases q:lt y x with
 |false=>rfl
 |true =>
  have h':shp y x=true:=by
   have:∀ {a b:Ky},shp a b=true->shp b a=true:=by
    intro a
    induction a with
    |cons u v iu iv =>
     intro b e
     cases b with
     |cons=>simp only [cc,Bool.and_eq_true] at e ⊢;exact ⟨iu e.1,iv e.2⟩
     |_=>cases e
    |_=>intro b e;cases b<;>first|rfl|cases e
   exact this h
  have:=trans h h' p q
  rw [irr] at this;cases this
theorem rT:∀ {a b:Ky},shp a b=true->shp b a=true:=by
 intro a
 induction a with
 |cons u v iu iv =>
  intro b e
  cases b with
  |cons=>simp only [cc,Bool.and_eq_true] at e ⊢;exact ⟨iu e.1,iv e.2⟩
  |_=>cases e
 |_=>intro b e;cases b<;>first|rfl|cases e
theorem jF:∀ {x y:Ky},shp x y=true->ok x=true->PyData.eqv (dat x) (dat y)=decide (x=y)/\(ok.isRow x=true->PyData.eqvAll (row x) (row y)=decide (x=y))
 |.i a,.i b,_,_=>⟨by simp only [dat,PyData.eqv,Ky.i.injEq];rfl,λh=>by cases h⟩
 |.s a,.s b,_,_=>⟨by simp only [dat,PyData.eqv,Ky.s.injEq];rfl,λh=>by cases h⟩
 |.tt a,.tt b,_,_=>⟨by cases a<;>cases b<;>rfl,λh=>by cases h⟩
 |.nil,.nil,_,_=>⟨rfl,λ_=>rfl⟩
 |.cons h t,.cons h' t',e,o=>by
  simp only [cc,Bool.and_eq_true] at e
  simp only [fj,Bool.and_eq_true] at o
  have h1:=(jF e.1 o.1.1).1
  have h2:=(jF e.2 o.1.2).2 o.2
  have z:PyData.eqvAll (dat h::row t) (dat h'::row t')=decide (Ky.cons h t=Ky.cons h' t'):=by
   simp only [PyData.eqvAll,h1,h2,Ky.cons.injEq,Bool.decide_and]
  exact ⟨by simp only [dat,PyData.eqv];exact z,λ_=>by simp only [row];exact z⟩
end Ky
end S6
namespace S6
open PySem PyProof.Rows PySem.SeqAt
theorem uI {α:Type}{p q:α->Bool}{x:α}:∀ {l:List α},(∀ z∈l,p z=true->q z=true)->x∈l->p x=false->q x=true->l.countP p<l.countP q
 |[],_,h,_,_=>by cases h
 |y::l,m,h,px,qx=>by
  have ml:∀ z∈l,p z=true->q z=true:=λz hz=>m z (List.mem_cons_of_mem _ hz)
  have le:=List.countP_mono_left ml
  rw [List.countP_cons,List.countP_cons]
  rcases List.mem_cons.mp h with rfl|h
  ·simp only [px,qx,Bool.false_eq_true,if_false,if_true];omega
  ·have ih:=uI ml h px qx
   have:(if p y=true then 1 else 0)<=if q y=true then 1 else 0:=by
    split
    ·rw [if_pos (m y (List.mem_cons_self ..) ‹_›)];exact Nat.le_refl _
    ·exact Nat.zero_le _
   omega
def rnk (ks:List Ky) (x:Ky):Nat:=ks.countP λz=>Ky.lt z x
theorem uJ {ks:List Ky}(hs:∀ x∈ks,∀ y∈ks,Ky.shp x y=true){x y:Ky}(hx:x∈ks) (hy:y∈ks):decide (rnk ks x<rnk ks y)=Ky.lt x y:=by
 cases e:Ky.lt x y with
 |true=>exact decide_eq_true (uI (λz hz l=>Ky.trans (hs z hz x hx) (hs x hx y hy) l e) hx (Ky.irr x) e)
 |false =>
  refine decide_eq_false (Nat.not_lt.mpr (List.countP_mono_left λz hz l=>?_))
  rcases Ky.tri (hs x hx y hy) with q|q|q
  ·rw [e] at q;cases q
  ·rw [q];exact l
  ·exact Ky.trans (hs z hz y hy) (hs y hy x hx) l q
inductive Cp where
 |lt|gt|ge
def cop:Cp->CmpOp
 |.lt=>.Lt
 |.gt=>.Gt
 |.ge=>.GtE
noncomputable def gl (g:Cp) (x y:Ky):Bool:=match g with
 |.lt=>Ky.lt x y
 |.gt=>Ky.lt y x
 |.ge=>!Ky.lt x y
def kN:CmpOp->Bool
 |.GtE=>true
 |_=>false
def dm (A:Around) (s:Shared) (op:CmpOp) (x y:Value) (c:Bool):Prop :=
 ∀ (prog:Program) (w:World) (E:Value->Shared->Prop) (Q:Value->Shared->Prop),Q (.bool c) s->wpAny (model prog w) A (richCompare op x y) Q E s
inductive LexAt (A:Around) (s:Shared) (op:CmpOp):List Value->List Value->Bool->Prop
 |nil:LexAt A s op [] [] (kN op)
 |same {x y xs ys c}:EqAt A s x y true->LexAt A s op xs ys c->LexAt A s op (x::xs) (y::ys) c
 |diff {x y xs ys c}:EqAt A s x y false->dm A s op x y c->LexAt A s op (x::xs) (y::ys) c
noncomputable def gP (op:CmpOp) (us vs:List Value) (n m:Nat):Sem Fin:=do
 for (x,y) in us.zip vs do
  if !(<- eqBool x y) then
   rule "tuple.compare.by-the-first-pair-that-differs";return <- ret (<- richCompare op x y)
 ret (Builtin.Tuple.tupleCompareSizes op n m)
theorem z3 (a b:Value):Builtin.«tuple.__lt__» ⟨[a,b],[]⟩=(do
  if !(<- isInstance b (.type "tuple")) then return <- ret .notImplemented
  let xs <- Builtin.Tuple.tupleItemsOf a
  let ys <- Builtin.Tuple.tupleItemsOf b
  gP .Lt xs.toList ys.toList xs.size ys.size):=rfl
theorem z4 (a b:Value):Builtin.«tuple.__ge__» ⟨[a,b],[]⟩=(do
  if !(<- isInstance b (.type "tuple")) then return <- ret .notImplemented
  let xs <- Builtin.Tuple.tupleItemsOf a
  let ys <- Builtin.Tuple.tupleItemsOf b
  gP .GtE xs.toList ys.toList xs.size ys.size):=rfl
theorem z5 (a b:Value):Builtin.«tuple.__gt__» ⟨[a,b],[]⟩=(do
  if !(<- isInstance b (.type "tuple")) then return <- ret .notImplemented
  let xs <- Builtin.Tuple.tupleItemsOf a
  let ys <- Builtin.Tuple.tupleItemsOf b
  gP .Gt xs.toList ys.toList xs.size ys.size):=rfl
section
variable {A:Around}{s:Shared}
theorem oi {g:Cp}{prog:Program}{w:World}{E:Value->Shared->Prop}{P:Fin->Shared->Prop}{us vs:List Value}{c:Bool}(L:LexAt A s (cop g) us vs c){n m:Nat}(hnm:n=m)
  (h:P (.done (.ret (.bool c))) s):wpAny (model prog w) A (gP (cop g) us vs n m) P E s:=by
 unfold gP
 refine wpAny_bind ?_
 refine wpAny_forIn_list _ (λrest r z=>r.1=none/\z=s/\∃ Pp Ou,rest=Pp.zip Ou/\LexAt A s (cop g) Pp Ou c) _ ?_ ?_ _ _ ⟨rfl,rfl,us,vs,rfl,L⟩
 ·rintro ⟨x,y⟩ rest r z ⟨hr,rfl,Pp,Ou,hz,L'⟩
  cases L' with
  |nil=>simp at hz
  |same e L2 =>
   simp only [List.zip_cons_cons,List.cons.injEq,Prod.mk.injEq] at hz
   obtain ⟨⟨rfl,rfl⟩,rfl⟩:=hz
   refine wpAny_bind (e prog w _ _ ?_)
   exact wpAny_pure ⟨rfl,rfl,_,_,rfl,L2⟩
  |diff e cm =>
   simp only [List.zip_cons_cons,List.cons.injEq,Prod.mk.injEq] at hz
   obtain ⟨⟨rfl,rfl⟩,rfl⟩:=hz
   refine wpAny_bind (e prog w _ _ ?_)
   refine wpAny_bind (wpAny_rule (wpAny_bind (cm prog w _ _ ?_)))
   exact wpAny_bind (wpAny_pure (wpAny_pure (wpAny_pure h)))
 ·rintro ⟨r1,r2⟩ z ⟨hr,rfl,Pp,Ou,hz,L'⟩
  simp only at hr
  subst hr
  have hc:c=kN (cop g):=by
   cases L' with
   |nil=>rfl
   |same _ _=>simp at hz
   |diff _ _=>simp at hz
  subst hc hnm
  have e:Builtin.Tuple.tupleCompareSizes (cop g) n n=.bool (kN (cop g)):=by cases g<;>simp [cop,kN,Builtin.Tuple.tupleCompareSizes]
  show wpAny _ _ (ret (Builtin.Tuple.tupleCompareSizes (cop g) n n)) P E _
  rw [e]
  exact wpAny_pure h
theorem y' {g:Cp}{l m:Addr}{o u:Obj}{xs ys:Array Value}{n k:Nat}{c:Bool}(h1:s.heap.get? l=some o) (c1:o.cls=.type "tuple") (d1:o.data=.seq xs n)
  (h2:s.heap.get? m=some u) (c2:u.cls=.type "tuple") (d2:u.data=.seq ys k) (hu:A.units<cLine) (L:LexAt A.in1 s (cop g) xs.toList ys.toList c) (hs:xs.size=ys.size):dm A s (cop g) (.ref l) (.ref m) c:=by
 intro prog w E Q q
 have t1:s.TypeIs (.ref l) "tuple":=⟨o,h1,c1⟩
 have t2:s.TypeIs (.ref m) "tuple":=⟨u,h2,c2⟩
 cases g with
 |lt =>
  refine wpAny_richCompare_same_room (op:=.Lt) t1 t2 F.slot_tuple_lt (wpAny_call_entry F.slot_tuple_lt t1 F.entry_tuple_lt ?_ (F.args_tuple_lt_2 _ _)) hu
  rw [z3]
  refine wpAny_bind (wpAny_isInstance t2 isSubtype_tuple_tuple ?_)
  simp only [Bool.not_true,Bool.false_eq_true,if_false]
  refine wpAny_bind (wpAny_tupleItemsOf h1 d1 (wpAny_bind (wpAny_tupleItemsOf h2 d2 ?_)))
  exact oi (g:=.lt) L hs ⟨_,rfl,by simp,q⟩
 |gt =>
  refine wpAny_richCompare_same_room (op:=.Gt) t1 t2 F.slot_tuple_gt (wpAny_call_entry F.slot_tuple_gt t1 F.entry_tuple_gt ?_ (F.args_tuple_gt_2 _ _)) hu
  rw [z5]
  refine wpAny_bind (wpAny_isInstance t2 isSubtype_tuple_tuple ?_)
  simp only [Bool.not_true,Bool.false_eq_true,if_false]
  refine wpAny_bind (wpAny_tupleItemsOf h1 d1 (wpAny_bind (wpAny_tupleItemsOf h2 d2 ?_)))
  exact oi (g:=.gt) L hs ⟨_,rfl,by simp,q⟩
 |ge =>
  refine wpAny_richCompare_same_room (op:=.GtE) t1 t2 F.slot_tuple_ge (wpAny_call_entry F.slot_tuple_ge t1 F.entry_tuple_ge ?_ (F.args_tuple_ge_2 _ _)) hu
  rw [z4]
  refine wpAny_bind (wpAny_isInstance t2 isSubtype_tuple_tuple ?_)
  simp only [Bool.not_true,Bool.false_eq_true,if_false]
  refine wpAny_bind (wpAny_tupleItemsOf h1 d1 (wpAny_bind (wpAny_tupleItemsOf h2 d2 ?_)))
  exact oi (g:=.ge) L hs ⟨_,rfl,by simp,q⟩
theorem A4 {g:Cp}(a b:Int) (t u:Tok):dm A s (cop g) (.int a t) (.int b u) (gl g (.i a) (.i b)):=by
 intro prog w E Q q
 cases g with
 |lt=>exact lt_int (A:=A) q
 |gt=>exact gt_int (A:=A) q
 |ge =>
  have e:gl .ge (.i a) (.i b)=decide (b<=a):=by
   show (!decide (a<b))=_
   rw [Bool.eq_iff_iff]
   simp only [Bool.not_eq_true',decide_eq_false_iff_not,decide_eq_true_eq,Int.not_lt]
  rw [e] at q
  exact PySem.P.ge_int (A:=A) q
theorem z6 {g:Cp}(a b:Bool):dm A s (cop g) (.bool a) (.bool b) (gl g (.tt a) (.tt b)):=by
 intro prog w E Q q
 cases g with
 |lt =>
  have q':Q (.bool (decide (b2i a<b2i b))) s:=by
   rw [show decide (b2i a<b2i b)=gl .lt (.tt a) (.tt b) by cases a<;>cases b<;>rfl];exact q
  exact lt_bool (A:=A) q'
 |gt =>
  have q':Q (.bool (decide (b2i a>b2i b))) s:=by
   rw [show decide (b2i a>b2i b)=gl .gt (.tt a) (.tt b) by cases a<;>cases b<;>rfl];exact q
  exact gt_bool (A:=A) q'
 |ge =>
  have q':Q (.bool (decide (b2i a≥b2i b))) s:=by
   rw [show decide (b2i a≥b2i b)=gl .ge (.tt a) (.tt b) by cases a<;>cases b<;>rfl];exact q
  exact ge_bool (A:=A) q'
theorem A5 {g:Cp}(a b:Str) (t u:Tok):dm A s (cop g) (.str a t) (.str b u) (gl g (.s a) (.s b)):=by
 intro prog w E Q q
 cases g with
 |lt=>exact lt_str (A:=A) q
 |gt=>exact PySem.P.gt_str (A:=A) q
 |ge=>exact PySem.P.ge_str (A:=A) q
theorem De {g:Cp}{h t h' t':Ky}:gl g (.cons h t) (.cons h' t')=if h=h' then gl g t t' else gl g h h':=by
 cases g with
 |lt=>show Ky.lt _ _=if h=h' then Ky.lt t t' else Ky.lt h h';rw [Ky.bH]
 |gt =>
  show Ky.lt _ _=if h=h' then Ky.lt t' t else Ky.lt h' h
  rw [Ky.bH]
  by_cases e:h=h'
  ·rw [if_pos e,if_pos e.symm]
  ·rw [if_neg e,if_neg (Ne.symm e)]
 |ge =>
  show (!Ky.lt _ _)=if h=h' then !Ky.lt t t' else !Ky.lt h h'
  rw [Ky.bH]
  by_cases e:h=h'
  ·rw [if_pos e,if_pos e]
  ·rw [if_neg e,if_neg e]
end
theorem ci {h:Heap}{a:Value}{n:Int}{as:List Addr}(r:Reads h a (.int n) as):∃ t,a=.int n t:=by cases r;exact ⟨_,rfl⟩
theorem cj {h:Heap}{a:Value}{n:Str}{as:List Addr}(r:Reads h a (.str n) as):∃ t,a=.str n t:=by cases r;exact ⟨_,rfl⟩
theorem cJ {h:Heap}{a:Value}{n:Bool}{as:List Addr}(r:Reads h a (.bool n) as):a=.bool n:=by cases r;rfl
theorem bD {h:Heap}{a:Value}{ds:List PyData}{as:List Addr}(r:Reads h a (.tuple ds) as):∃ (l:Addr) (o:Obj) (vs:Array Value) (n:Nat),a=.ref l/\h.get? l=some o/\o.cls=.type "tuple" /\ o.data=.seq vs n/\ReadsAll h vs.toList ds as:=by
 cases r with
 |tuple a1 a2 a3 a4=>exact ⟨_,_,_,_,rfl,a1,a2,a3,a4⟩
theorem eE {h:Heap}{us:List Value}{d:PyData}{ds:List PyData}{as:List Addr}(r:ReadsAll h us (d::ds) as):∃ u vs a1 a2,us=u::vs/\Reads h u d a1/\ReadsAll h vs ds a2:=by
 cases r with
 |cons r1 r2=>exact ⟨_,_,_,_,rfl,r1,r2⟩
theorem qV:∀ {x y:Ky}{h:Heap},Ky.ok x=true->Ky.ok y=true->(∀ {a:Value}{as bs:List Addr},Reads h a x.dat as->Reads h a y.dat bs->x=y) /\
  (∀ {us:List Value}{as bs:List Addr},Ky.ok.isRow x=true->Ky.ok.isRow y=true->ReadsAll h us x.row as->ReadsAll h us y.row bs->x=y):=by
 intro x
 induction x with
 |i n =>
  intro y h _ oy
  refine ⟨fun {a as bs} r q=>?_,fun {us as bs} z=>by cases z⟩
  obtain ⟨t,rfl⟩:=ci r
  cases y with
  |i m=>obtain ⟨_,e⟩:=ci q;cases e;rfl
  |s m=>obtain ⟨_,e⟩:=cj q;cases e
  |tt m=>have e:=cJ q;cases e
  |nil=>obtain ⟨_,_,_,_,e,_⟩:=bD q;cases e
  |cons u v=>obtain ⟨_,_,_,_,e,_⟩:=bD q;cases e
 |s n =>
  intro y h _ oy
  refine ⟨fun {a as bs} r q=>?_,fun {us as bs} z=>by cases z⟩
  obtain ⟨t,rfl⟩:=cj r
  cases y with
  |i m=>obtain ⟨_,e⟩:=ci q;cases e
  |s m=>obtain ⟨_,e⟩:=cj q;cases e;rfl
  |tt m=>have e:=cJ q;cases e
  |nil=>obtain ⟨_,_,_,_,e,_⟩:=bD q;cases e
  |cons u v=>obtain ⟨_,_,_,_,e,_⟩:=bD q;cases e
 |tt n =>
  intro y h _ oy
  refine ⟨fun {a as bs} r q=>?_,fun {us as bs} z=>by cases z⟩
  obtain rfl:=cJ r
  cases y with
  |i m=>obtain ⟨_,e⟩:=ci q;cases e
  |s m=>obtain ⟨_,e⟩:=cj q;cases e
  |tt m=>have e:=cJ q;cases e;rfl
  |nil=>obtain ⟨_,_,_,_,e,_⟩:=bD q;cases e
  |cons u v=>obtain ⟨_,_,_,_,e,_⟩:=bD q;cases e
 |nil =>
  intro y h _ oy
  have go:∀ {us:List Value}{as bs:List Addr},Ky.ok.isRow y=true->ReadsAll h us [] as->ReadsAll h us y.row bs->Ky.nil=y:=fun {us as bs} z r q=>by
   cases r
   cases y with
   |nil=>rfl
   |cons u v=>simp only [Ky.row] at q;cases q
   |_=>cases z
  refine ⟨fun {a as bs} r q=>?_,fun {us as bs} _ z r q=>go z (by simpa only [Ky.row] using r) q⟩
  obtain ⟨l,o,vs,n,rfl,a1,a2,a3,a4⟩:=bD r
  cases y with
  |nil=>rfl
  |cons u v =>
   obtain ⟨l',o',Ou,n',e,b1,b2,b3,b4⟩:=bD q
   cases e
   rw [a1] at b1;cases b1
   rw [a3] at b3;cases b3
   exact go rfl a4 b4
  |i n=>obtain ⟨_,e⟩:=ci q;cases e
  |s n=>obtain ⟨_,e⟩:=cj q;cases e
  |tt n=>have e:=cJ q;cases e
 |cons u v iu iv =>
  intro y h ox oy
  simp only [Ky.fj,Bool.and_eq_true] at ox
  have go:∀ {us:List Value}{as bs:List Addr},Ky.ok.isRow y=true->ReadsAll h us (u.dat::v.row) as->ReadsAll h us y.row bs->Ky.cons u v=y:=fun {us as bs} z r q=>by
   cases y with
   |nil=>simp only [Ky.row] at q;cases q;cases r
   |cons u' v' =>
    simp only [Ky.fj,Bool.and_eq_true] at oy
    simp only [Ky.row] at q
    obtain ⟨_,_,_,_,rfl,r1,r2⟩:=eE r
    obtain ⟨_,_,_,_,e,q1,q2⟩:=eE q
    cases e
    rw [(iu ox.1.1 oy.1.1).1 r1 q1,(iv ox.1.2 oy.1.2).2 ox.2 oy.2 r2 q2]
   |_=>cases z
  refine ⟨fun {a as bs} r q=>?_,fun {us as bs} _ z r q=>go z (by simpa only [Ky.row] using r) q⟩
  obtain ⟨l,o,vs,n,rfl,a1,a2,a3,a4⟩:=bD r
  have tup:∀ {ds:List PyData}{bs:List Addr},Reads h (.ref l) (.tuple ds) bs->ReadsAll h vs.toList ds bs:=fun {ds bs} q=>by
   obtain ⟨l',o',Ou,n',e,b1,b2,b3,b4⟩:=bD q
   cases e
   rw [a1] at b1;cases b1
   rw [a3] at b3;cases b3
   exact b4
  cases y with
  |nil=>exact go rfl a4 (tup q)
  |cons u' v'=>exact go rfl a4 (tup q)
  |i n=>obtain ⟨_,e⟩:=ci q;cases e
  |s n=>obtain ⟨_,e⟩:=cj q;cases e
  |tt n=>have e:=cJ q;cases e
theorem Dg:∀ (x:Ky),
  (∀ {y:Ky}{A:Around}{s:Shared}{a b:Value}{as bs:List Addr},Ky.shp x y=true->Ky.ok x=true->Ky.ok y=true->Reads s.heap a x.dat as->Reads s.heap b y.dat bs->A.units+x.dep<cLine->EqAt A s a b (decide (x=y))) /\
  (∀ {y:Ky}{A:Around}{s:Shared}{us vs:List Value}{as bs:List Addr},Ky.ok.isRow x=true->Ky.shp x y=true->Ky.ok x=true->Ky.ok y=true->ReadsAll s.heap us x.row as->ReadsAll s.heap vs y.row bs->A.units+x.dep<=cLine ->
   ∀ j (h1:j<us.length) (h2:j<vs.length),EqAt A s us[j] vs[j] (pairEq x.row y.row j)):=by
 have tup:∀ {x y:Ky}{A:Around}{s:Shared}{l m:Addr}{o u:Obj}{xs ys:Array Value}{n k:Nat}{as bs:List Addr},
   (∀ {y:Ky}{A:Around}{s:Shared}{us vs:List Value}{as bs:List Addr},Ky.ok.isRow x=true->Ky.shp x y=true->Ky.ok x=true->Ky.ok y=true->ReadsAll s.heap us x.row as->ReadsAll s.heap vs y.row bs->A.units+x.dep<=cLine ->
    ∀ j (h1:j<us.length) (h2:j<vs.length),EqAt A s us[j] vs[j] (pairEq x.row y.row j)) ->
   Ky.ok.isRow x=true->Ky.ok.isRow y=true->Ky.shp x y=true->Ky.ok x=true->Ky.ok y=true->s.heap.get? l=some o->o.cls=.type "tuple"->o.data=.seq xs n->ReadsAll s.heap xs.toList x.row as ->
   s.heap.get? m=some u->u.cls=.type "tuple"->u.data=.seq ys k->ReadsAll s.heap ys.toList y.row bs->A.units+x.dep<cLine->EqAt A s (.ref l) (.ref m) (decide (x=y)):=by
  intro x y A s l m o u xs ys n k as bs lp hr hr' hs ox oy a1 a2 a3 a4 b1 b2 b3 b4 hu
  by_cases hll:l=m
  ·subst hll
   rw [a1] at b1;cases b1
   rw [a3] at b3;cases b3
   rw [decide_eq_true ((qV ox oy).2 hr hr' a4 b4)]
   exact EqAt.same _
  ·have n1:xs.size=x.row.length:=by simpa using ReadsAll.length _ _ _ a4
   have n2:ys.size=y.row.length:=by simpa using ReadsAll.length _ _ _ b4
   rw [<- (Ky.jF hs ox).2 hr,<- eqvAll_eq,<- n1,<- n2]
   refine EqAt.of_refs hll (RcAt.tuples ⟨_,a1,a2,_,a3⟩ ⟨_,b1,b2,_,b3⟩ (by omega) λj j1 j2=>?_)
   have:=lp (A:=A.in1) hr hs ox oy a4 b4 (by show A.units+1+x.dep<=cLine;omega) j (by simpa using j1) (by simpa using j2)
   simpa using this
 intro x
 induction x with
 |i a =>
  refine ⟨fun {y A s a' b' as bs} hs ox oy ra rb hu=>?_,fun {y A s us vs as bs} h=>by cases h⟩
  cases y<;>first|cases hs|skip
  obtain ⟨t,rfl⟩:=ci ra
  obtain ⟨u,rfl⟩:=ci rb
  rename_i b
  rw [show decide (Ky.i a=Ky.i b)=(a==b) by rw [Bool.eq_iff_iff];simp]
  exact EqAt.int_int a t b u
 |s a =>
  refine ⟨fun {y A s a' b' as bs} hs ox oy ra rb hu=>?_,fun {y A s us vs as bs} h=>by cases h⟩
  cases y<;>first|cases hs|skip
  obtain ⟨t,rfl⟩:=cj ra
  obtain ⟨u,rfl⟩:=cj rb
  rename_i b
  rw [show decide (Ky.s a=Ky.s b)=(a==b) by rw [Bool.eq_iff_iff];simp]
  exact EqAt.str_str a t b u
 |tt a =>
  refine ⟨fun {y A s a' b' as bs} hs ox oy ra rb hu=>?_,fun {y A s us vs as bs} h=>by cases h⟩
  cases y<;>first|cases hs|skip
  obtain rfl:=cJ ra
  obtain rfl:=cJ rb
  rename_i b
  rw [show decide (Ky.tt a=Ky.tt b)=(a==b) by rw [Bool.eq_iff_iff];simp]
  exact EqAt.bool_bool a b
 |nil =>
  have lp:∀ {y:Ky}{A:Around}{s:Shared}{us vs:List Value}{as bs:List Addr},Ky.ok.isRow .nil=true->Ky.shp .nil y=true->Ky.ok .nil=true->Ky.ok y=true->ReadsAll s.heap us Ky.nil.row as->ReadsAll s.heap vs y.row bs->A.units+Ky.nil.dep<=cLine ->
    ∀ j (h1:j<us.length) (h2:j<vs.length),EqAt A s us[j] vs[j] (pairEq Ky.nil.row y.row j):=by
   intro y A s us vs as bs _ hs _ _ ra rb _ j h1
   simp only [Ky.row] at ra
   cases ra
   exact absurd h1 (Nat.not_lt_zero _)
  refine ⟨fun {y A s a' b' as bs} hs ox oy ra rb hu=>?_,lp⟩
  cases y<;>first|cases hs|skip
  obtain ⟨_,_,_,_,rfl,a1,a2,a3,a4⟩:=bD ra
  obtain ⟨_,_,_,_,rfl,b1,b2,b3,b4⟩:=bD rb
  exact tup lp rfl rfl rfl rfl rfl a1 a2 a3 a4 b1 b2 b3 b4 hu
 |cons h t ih it =>
  have lp:∀ {y:Ky}{A:Around}{s:Shared}{us vs:List Value}{as bs:List Addr},Ky.ok.isRow (.cons h t)=true->Ky.shp (.cons h t) y=true->Ky.ok (.cons h t)=true->Ky.ok y=true->ReadsAll s.heap us (Ky.cons h t).row as->ReadsAll s.heap vs y.row bs->A.units+(Ky.cons h t).dep<=cLine ->
    ∀ j (h1:j<us.length) (h2:j<vs.length),EqAt A s us[j] vs[j] (pairEq (Ky.cons h t).row y.row j):=by
   intro y A s us vs as bs _ hs ox oy ra rb hu j h1 h2
   cases y with
   |cons h' t' =>
    simp only [Ky.cc,Bool.and_eq_true] at hs
    simp only [Ky.fj,Bool.and_eq_true] at ox oy
    simp only [Ky.kx] at hu
    simp only [Ky.row] at ra rb ⊢
    ·obtain ⟨_,_,_,_,rfl,r,rs⟩:=eE ra
     ·obtain ⟨_,_,_,_,rfl,r',rs'⟩:=eE rb
      cases j with
      |zero =>
       have:=ih.1 (A:=A) hs.1 ox.1.1 oy.1.1 r r' (by omega)
       rw [<- (Ky.jF hs.1 ox.1.1).1] at this
       exact this
      |succ j=>exact it.2 (A:=A) ox.2 hs.2 ox.1.2 oy.1.2 rs rs' (by omega) j (Nat.lt_of_succ_lt_succ h1) (Nat.lt_of_succ_lt_succ h2)
   |_=>cases hs
  refine ⟨fun {y A s a' b' as bs} hs ox oy ra rb hu=>?_,lp⟩
  cases y with
  |cons h' t' =>
   obtain ⟨_,_,_,_,rfl,a1,a2,a3,a4⟩:=bD ra
   obtain ⟨_,_,_,_,rfl,b1,b2,b3,b4⟩:=bD rb
   exact tup lp rfl rfl hs ox oy a1 a2 a3 a4 b1 b2 b3 b4 hu
  |_=>cases hs
theorem qk {x y:Ky}{A:Around}{s:Shared}{a b:Value}{as bs:List Addr}(h:Ky.shp x y=true) (ox:Ky.ok x=true) (oy:Ky.ok y=true) (ra:Reads s.heap a x.dat as) (rb:Reads s.heap b y.dat bs) (hu:A.units+x.dep<cLine) :
  EqAt A s a b (decide (x=y)):=(Dg x).1 h ox oy ra rb hu
theorem nF (g:Cp):∀ (x:Ky),
  (∀ {y:Ky}{A:Around}{s:Shared}{a b:Value}{as bs:List Addr},Ky.shp x y=true->Ky.ok x=true->Ky.ok y=true->Reads s.heap a x.dat as->Reads s.heap b y.dat bs->A.units+x.dep+1<cLine->dm A s (cop g) a b (gl g x y)) /\
  (∀ {y:Ky}{A:Around}{s:Shared}{us vs:List Value}{as bs:List Addr},Ky.ok.isRow x=true->Ky.shp x y=true->Ky.ok x=true->Ky.ok y=true->ReadsAll s.heap us x.row as->ReadsAll s.heap vs y.row bs->A.units+x.dep<cLine ->
   LexAt A s (cop g) us vs (gl g x y)/\us.length=vs.length):=by
 have tup:∀ {x y:Ky}{A:Around}{s:Shared}{l m:Addr}{o u:Obj}{xs ys:Array Value}{n k:Nat}{as bs:List Addr},
   (∀ {y:Ky}{A:Around}{s:Shared}{us vs:List Value}{as bs:List Addr},Ky.ok.isRow x=true->Ky.shp x y=true->Ky.ok x=true->Ky.ok y=true->ReadsAll s.heap us x.row as->ReadsAll s.heap vs y.row bs->A.units+x.dep<cLine->LexAt A s (cop g) us vs (gl g x y)/\us.length=vs.length) ->
   Ky.ok.isRow x=true->Ky.shp x y=true->Ky.ok x=true->Ky.ok y=true->s.heap.get? l=some o->o.cls=.type "tuple"->o.data=.seq xs n->ReadsAll s.heap xs.toList x.row as ->
   s.heap.get? m=some u->u.cls=.type "tuple"->u.data=.seq ys k->ReadsAll s.heap ys.toList y.row bs->A.units+x.dep+1<cLine->dm A s (cop g) (.ref l) (.ref m) (gl g x y):=by
  intro x y A s l m o u xs ys n k as bs lp hr hs ox oy a1 a2 a3 a4 b1 b2 b3 b4 hu
  obtain ⟨L,hl⟩:=lp (A:=A.in1) hr hs ox oy a4 b4 (by show A.units+1+x.dep<cLine;omega)
  exact y' a1 a2 a3 b1 b2 b3 (by omega) L (by simpa using hl)
 intro x
 induction x with
 |i a =>
  refine ⟨fun {y A s a' b' as bs} hs ox oy ra rb hu=>?_,fun {y A s us vs as bs} h=>by cases h⟩
  cases y<;>first|cases hs|skip
  obtain ⟨t,rfl⟩:=ci ra
  obtain ⟨u,rfl⟩:=ci rb
  exact A4 _ _ _ _
 |s a =>
  refine ⟨fun {y A s a' b' as bs} hs ox oy ra rb hu=>?_,fun {y A s us vs as bs} h=>by cases h⟩
  cases y<;>first|cases hs|skip
  obtain ⟨t,rfl⟩:=cj ra
  obtain ⟨u,rfl⟩:=cj rb
  exact A5 _ _ _ _
 |tt a =>
  refine ⟨fun {y A s a' b' as bs} hs ox oy ra rb hu=>?_,fun {y A s us vs as bs} h=>by cases h⟩
  cases y<;>first|cases hs|skip
  obtain rfl:=cJ ra
  obtain rfl:=cJ rb
  exact z6 _ _
 |nil =>
  have lp:∀ {y:Ky}{A:Around}{s:Shared}{us vs:List Value}{as bs:List Addr},Ky.ok.isRow .nil=true->Ky.shp .nil y=true->Ky.ok .nil=true->Ky.ok y=true->ReadsAll s.heap us Ky.nil.row as->ReadsAll s.heap vs y.row bs->A.units+Ky.nil.dep<cLine ->
    LexAt A s (cop g) us vs (gl g .nil y)/\us.length=vs.length:=by
   intro y A s us vs as bs _ hs _ _ ra rb _
   cases y<;>first|cases hs|skip
   simp only [Ky.row] at ra rb
   cases ra;cases rb
   exact ⟨by cases g<;>exact .nil,rfl⟩
  refine ⟨fun {y A s a' b' as bs} hs ox oy ra rb hu=>?_,lp⟩
  cases y<;>first|cases hs|skip
  obtain ⟨_,_,_,_,rfl,a1,a2,a3,a4⟩:=bD ra
  obtain ⟨_,_,_,_,rfl,b1,b2,b3,b4⟩:=bD rb
  exact tup lp rfl rfl rfl rfl a1 a2 a3 a4 b1 b2 b3 b4 hu
 |cons h t ih it =>
  have lp:∀ {y:Ky}{A:Around}{s:Shared}{us vs:List Value}{as bs:List Addr},Ky.ok.isRow (.cons h t)=true->Ky.shp (.cons h t) y=true->Ky.ok (.cons h t)=true->Ky.ok y=true->ReadsAll s.heap us (Ky.cons h t).row as->ReadsAll s.heap vs y.row bs->A.units+(Ky.cons h t).dep<cLine ->
    LexAt A s (cop g) us vs (gl g (.cons h t) y)/\us.length=vs.length:=by
   intro y A s us vs as bs _ hs ox oy ra rb hu
   cases y with
   |cons h' t' =>
    simp only [Ky.cc,Bool.and_eq_true] at hs
    simp only [Ky.fj,Bool.and_eq_true] at ox oy
    simp only [Ky.kx] at hu
    simp only [Ky.row] at ra rb
    ·obtain ⟨_,_,_,_,rfl,r,rs⟩:=eE ra
     ·obtain ⟨_,_,_,_,rfl,r',rs'⟩:=eE rb
      have eq:=qk (A:=A) hs.1 ox.1.1 oy.1.1 r r' (by omega)
      rw [De]
      by_cases e:h=h'
      ·rw [decide_eq_true e] at eq
       rw [if_pos e]
       obtain ⟨L,l⟩:=it.2 (A:=A) ox.2 hs.2 ox.1.2 oy.1.2 rs rs' (by omega)
       exact ⟨.same eq L,by simp [l]⟩
      ·rw [decide_eq_false e] at eq
       rw [if_neg e]
       refine ⟨.diff eq (ih.1 hs.1 ox.1.1 oy.1.1 r r' (by omega)),?_⟩
       have l1:=ReadsAll.length _ _ _ rs
       have l2:=ReadsAll.length _ _ _ rs'
       have rowlen:∀ {a b:Ky},Ky.shp a b=true->a.row.length=b.row.length:=by
        intro a
        induction a with
        |cons u v iu iv =>
         intro b e
         cases b with
         |cons u' v' =>
          simp only [Ky.cc,Bool.and_eq_true] at e
          simp only [Ky.row,List.length_cons,iv e.2]
         |_=>cases e
        |_=>intro b e;cases b<;>first|rfl|cases e
       simp [l1,l2,rowlen hs.2]
   |_=>cases hs
  refine ⟨fun {y A s a' b' as bs} hs ox oy ra rb hu=>?_,lp⟩
  cases y with
  |cons h' t' =>
   obtain ⟨_,_,_,_,rfl,a1,a2,a3,a4⟩:=bD ra
   obtain ⟨_,_,_,_,rfl,b1,b2,b3,b4⟩:=bD rb
   exact tup lp rfl hs ox oy a1 a2 a3 a4 b1 b2 b3 b4 hu
  |_=>cases hs
def KR (s:Shared) (v:Value) (k:Ky):Prop:=Ky.ok k=true/\∃ as,Reads s.heap v k.dat as
theorem KR.inj {s:Shared}{v:Value}{k k':Ky}(h:KR s v k) (h':KR s v k'):k=k':=by
 obtain ⟨o,as,r⟩:=h
 obtain ⟨o',as',r'⟩:=h'
 exact (qV o o').1 r r'
open Classical in
def bW (s:Shared) (v:Value):Ky:=if h:∃ k,KR s v k then h.choose else .nil
theorem mV {s:Shared}{v:Value}{k:Ky}(h:KR s v k):bW s v=k:=by
 unfold bW
 have e:∃ k,KR s v k:=⟨k,h⟩
 rw [dif_pos e]
 exact e.choose_spec.inj h
def v9 (A:Around) (s:Shared) (one:Bool) (x y:Value) (c:Bool):Prop :=
 ∀ (prog:Program) (w:World) (E:Value->Shared->Prop) (Q:Bool->Shared->Prop),Q c s->wpAny (model prog w) A (oneLt' one x y) Q E s
theorem za {prog:Program}{w:World}{A:Around}{E:Value->Shared->Prop}{s:Shared}{a b:Bool}{Q:Bool->Shared->Prop}(h:Q (!a&&b) s):wpAny (model prog w) A (oneLt' true (.bool a) (.bool b)) Q E s:=by
 rw [oneLt'_eq]
 simp only [if_true]
 refine wpAny_bind (wpAny_cRoomFor_byValue rfl ?_)
 refine wpAny_bind (wpAny_callSpecialIfBound?_slot (typeIs_bool' s a) F.slot_bool_lt (call_gives F.slot_bool_lt (typeIs_bool' s a) F.entry_int_lt (F.args_int_lt_2 _ _) (gives_int_lt_bools a b) ?_))
 have e:((λx1 x2:Int=>decide (x1<x2)) (if a=true then 1 else 0) (if b=true then 1 else 0))=(!a&&b):=by cases a<;>cases b<;>rfl
 show wpAny _ _ _ _ _ _
 rw [e]
 exact wpAny_truthy_bool h
theorem dm.one {A:Around}{s:Shared}{x y:Value}{c:Bool}(h:dm A s .Lt x y c):v9 A s false x y c:=λprog w E Q q=>by
 rw [oneLt'_eq]
 simp only [Bool.false_eq_true,if_false]
 exact wpAny_bind (h prog w _ _ (wpAny_truthy_bool q))
inductive LexO (A:Around) (s:Shared):Bool->List Value->List Value->Bool->Prop
 |nil {one}:LexO A s one [] [] false
 |same {one x y xs ys c}:EqAt A s x y true->LexO A s false xs ys c->LexO A s one (x::xs) (y::ys) c
 |diff {one x y xs ys c}:EqAt A s x y false->v9 A s one x y c->LexO A s one (x::xs) (y::ys) c
theorem LexAt.o {A:Around}{s:Shared}{xs ys:List Value}{c:Bool}(h:LexAt A s .Lt xs ys c):LexO A s false xs ys c:=by
 induction h with
 |nil=>exact .nil
 |same e _ ih=>exact .same e ih
 |diff e c=>exact .diff e c.one
theorem x5 (fb:Bool) (x y:Value):keyLt' (tuples' fb) x y=(do
  let xs <- Builtin.List.listItems x;let ys <- Builtin.List.listItems y
  for ((p,q),i) in (xs.toList.zip ys.toList).zipIdx do
   if !(<- eqBool p q) then return <- oneLt' (fb&&i==0) p q
  return xs.size<ys.size):=rfl
theorem Dh {A:Around}{s:Shared}{fb:Bool}{l m:Addr}{o u:Obj}{xs ys:Array Value}{n k:Nat}{c:Bool}(h1:s.heap.get? l=some o) (d1:o.data=.seq xs n) (h2:s.heap.get? m=some u) (d2:u.data=.seq ys k)
  (L:LexO A s fb xs.toList ys.toList c) (hs:xs.size=ys.size){prog:Program}{w:World}{E:Value->Shared->Prop}{Q:Bool->Shared->Prop}(q:Q c s):wpAny (model prog w) A (keyLt' (tuples' fb) (.ref l) (.ref m)) Q E s:=by
 rw [x5]
 refine wpAny_bind (listItems_at h1 d1 (wpAny_bind (listItems_at h2 d2 (wpAny_bind ?_))))
 refine wpAny_forIn_list _ (λrest r z=>r.1=none/\z=s/\∃ Pp Ou i one,rest=(Pp.zip Ou).zipIdx i/\(fb&&i==0)=one/\LexO A s one Pp Ou c) _ ?_ ?_ _ _ ⟨rfl,rfl,xs.toList,ys.toList,0,fb,rfl,by simp,L⟩
 ·rintro ⟨⟨x,y⟩,i'⟩ rest r z ⟨hr,rfl,Pp,Ou,i,one,hz,ho,L'⟩
  cases L' with
  |nil=>simp at hz
  |same e L2 =>
   simp only [List.zip_cons_cons,List.zipIdx_cons,List.cons.injEq,Prod.mk.injEq] at hz
   obtain ⟨⟨⟨rfl,rfl⟩,rfl⟩,rfl⟩:=hz
   refine wpAny_bind (e prog w _ _ ?_)
   exact wpAny_pure ⟨rfl,rfl,_,_,_,false,rfl,by simp,L2⟩
  |diff e cm =>
   simp only [List.zip_cons_cons,List.zipIdx_cons,List.cons.injEq,Prod.mk.injEq] at hz
   obtain ⟨⟨⟨rfl,rfl⟩,rfl⟩,rfl⟩:=hz
   refine wpAny_bind (e prog w _ _ ?_)
   rw [<- ho] at cm
   exact wpAny_bind (cm prog w _ _ (wpAny_pure (wpAny_pure q)))
 ·rintro ⟨r1,r2⟩ z ⟨hr,rfl,Pp,Ou,i,one,hz,ho,L'⟩
  simp only at hr
  subst hr
  have hc:c=false:=by
   cases L' with
   |nil=>rfl
   |same _ _=>simp at hz
   |diff _ _=>simp at hz
  subst hc
  refine wpAny_pure ?_
  rw [hs]
  simpa using q
noncomputable def tyK:Ky->String
 |.i _=>"int"
 |.s _=>"str"
 |.tt _=>"bool"
 |_=>"tuple"
noncomputable def eF:Ky->SortKind
 |.cons h _=>tuples' (Value.type (tyK h) != Value.type "tuple")
 |_=>oneType'
noncomputable def fit:Ky->Bool
 |.i _=>true
 |.s _=>true
 |.cons h _=>match h with|.nil=>false|_=>true
 |_=>false
theorem JA {x y:Ky}{A:Around}{s:Shared}{a b:Value}(hx:KR s a x) (hy:KR s b y) (hs:Ky.shp x y=true) (hf:fit x=true) (hu:A.units+x.dep+1<cLine){prog:Program}{w:World}{E:Value->Shared->Prop}{Q:Bool->Shared->Prop}
  (q:Q (Ky.lt x y) s):wpAny (model prog w) A (keyLt' (eF x) a b) Q E s:=by
 obtain ⟨ox,as,ra⟩:=hx
 obtain ⟨oy,bs,rb⟩:=hy
 cases x with
 |i n =>
  cases y<;>first|cases hs|skip
  obtain ⟨t,rfl⟩:=ci ra
  obtain ⟨u,rfl⟩:=ci rb
  exact oneLt_int q
 |s n =>
  cases y<;>first|cases hs|skip
  obtain ⟨t,rfl⟩:=cj ra
  obtain ⟨u,rfl⟩:=cj rb
  exact oneLt_str q
 |tt v=>cases hf
 |nil=>cases hf
 |cons h t =>
  cases y with
  |cons h' t' =>
   ·obtain ⟨_,_,_,_,rfl,a1,a2,a3,a4⟩:=bD ra
    ·obtain ⟨_,_,_,_,rfl,b1,b2,b3,b4⟩:=bD rb
     have L:=(nF .lt (.cons h t)).2 (A:=A) rfl hs ox oy a4 b4 (by omega)
     refine Dh a1 a3 b1 b3 ?_ (by simpa using L.2) q
     simp only [Ky.cc,Bool.and_eq_true] at hs
     simp only [Ky.fj,Bool.and_eq_true] at ox oy
     simp only [Ky.kx] at hu
     clear L
     generalize Array.toList _=us0 at a4 ⊢
     generalize Array.toList _=vs0 at b4 ⊢
     ·obtain ⟨_,_,_,_,rfl,r,rs⟩:=eE a4
      ·obtain ⟨_,_,_,_,rfl,r',rs'⟩:=eE b4
       have eq:=qk (A:=A) hs.1 ox.1.1 oy.1.1 r r' (by omega)
       have rest:=(nF .lt t).2 (A:=A) ox.2 hs.2 ox.1.2 oy.1.2 rs rs' (by omega)
       show LexO A s _ _ _ (Ky.lt (.cons h t) (.cons h' t'))
       simp only [Ky.bH]
       by_cases e:h=h'
       ·rw [decide_eq_true e] at eq
        rw [if_pos e]
        exact .same eq rest.1.o
       ·rw [decide_eq_false e] at eq
        rw [if_neg e]
        refine .diff eq ?_
        cases h with
        |i n =>
         cases h'<;>first|cases hs.1|skip
         obtain ⟨t,rfl⟩:=ci r
         obtain ⟨u,rfl⟩:=ci r'
         exact λprog w E Q q=>oneLt_int q
        |s n =>
         cases h'<;>first|cases hs.1|skip
         obtain ⟨t,rfl⟩:=cj r
         obtain ⟨u,rfl⟩:=cj r'
         exact λprog w E Q q=>oneLt_str q
        |tt v =>
         cases h'<;>first|cases hs.1|skip
         obtain rfl:=cJ r
         obtain rfl:=cJ r'
         exact λprog w E Q q=>za q
        |nil=>cases hf
        |cons h2 t2=>exact dm.one ((nF .lt (.cons h2 t2)).1 (A:=A) hs.1 ox.1.1 oy.1.1 r r' (by omega))
  |_=>cases hs
end S6
namespace S6
open PySem PyProof.Rows PySem.SeqAt
theorem Ky.shp_trans:∀ {a b c:Ky},Ky.shp a b=true->Ky.shp b c=true->Ky.shp a c=true:=by
 intro a
 induction a with
 |cons u v iu iv =>
  intro b c e f
  cases b<;>first|cases e|skip
  cases c<;>first|cases f|skip
  simp only [Ky.cc,Bool.and_eq_true] at *
  exact ⟨iu e.1 f.1,iv e.2 f.2⟩
 |_ =>
     intro b c e f;cases b<;>first|cases e|skip
     all_goals (cases c<;>first|cases f|skip)
     all_goals rfl
theorem Ky.shp_dep:∀ {a b:Ky},Ky.shp a b=true->a.dep=b.dep:=by
 intro a
 induction a with
 |cons u v iu iv =>
  intro b e
  cases b<;>first|cases e|skip
  simp only [Ky.cc,Bool.and_eq_true] at e
  simp only [Ky.kx,iu e.1,iv e.2]
 |_=>intro b e;cases b<;>first|rfl|cases e
theorem uK {a b:Ky}(e:Ky.shp a b=true):tyK b=tyK a:=by
 cases a<;>cases b<;>first|rfl|cases e
theorem Gp {a b:Ky}(e:Ky.shp a b=true):eF b=eF a:=by
 cases a with
 |cons h t =>
  cases b with
  |cons h' t' =>
   simp only [Ky.cc,Bool.and_eq_true] at e
   simp only [eF,uK e.1]
  |_=>cases e
 |_=>cases b<;>first|rfl|cases e
theorem Di {a b:Ky}(e:Ky.shp a b=true) (hf:fit a=true):fit b=true:=by
 cases a with
 |cons h t =>
  cases b with
  |cons h' t' =>
   simp only [Ky.cc,Bool.and_eq_true] at e
   have e1:=e.1
   cases h<;>cases h'<;>first|rfl|(cases hf;done)|(cases e1;done)
  |_=>cases e
 |_=>cases b<;>first|rfl|(cases hf;done)|(cases e;done)
section
variable {M:Model}{A:Around}{E:Value->Shared->Prop}{s:Shared}
theorem jG {α β:Type}{f:α->Sem β}{g:α->β}:∀ {l:List α}{Q:List β->Shared->Prop},(∀ v∈l,∀ Q':β->Shared->Prop,Q' (g v) s->wpAny M A (f v) Q' E s)->Q (l.map g) s->wpAny M A (l.mapM f) Q E s
 |[],Q,_,q=>by rw [List.mapM_nil];exact wpAny_pure q
 |v::l,Q,h,q=>by
  rw [List.mapM_cons]
  refine wpAny_bind (h v (List.mem_cons_self ..) _ (wpAny_bind (jG (λu hu=>h u (List.mem_cons_of_mem _ hu)) (wpAny_pure ?_))))
  exact q
theorem KR.ty {v:Value}{k:Ky}(h:KR s v k):s.TypeIs v (tyK k):=by
 obtain ⟨_,as,r⟩:=h
 cases k<;>simp only [Ky.dat] at r<;>cases r
 ·exact typeIs_int s _ _
 ·exact typeIs_str s _ _
 ·exact PySem.typeIs_bool s _
 ·exact ⟨_,‹_›,‹_›⟩
 ·exact ⟨_,‹_›,‹_›⟩
theorem qA {l:List Value}{T:String}{Q:Option Value->Shared->Prop}(h0:l≠[]) (h:∀ u∈l,s.TypeIs u T) (q:Q (some (.type T)) s):wpAny M A (oneTypeOnly' l.toArray) Q E s:=by
 rw [oneTypeOnly'_eq,List.mapM_toArray,map_eq_pure_bind]
 refine wpAny_bind (wpAny_bind (jG (g:=λ_=>Value.type T) (λu hu Q' q'=>wpAny_typeOf (h u hu) q') (wpAny_pure ?_)))
 cases l with
 |nil=>exact (h0 rfl).elim
 |cons v l =>
  have e0:(List.map (λ_:Value=>Value.type T) (v::l)).toArray[0]?=some (Value.type T):=by simp
  have ea:((List.map (λ_:Value=>Value.type T) (v::l)).toArray.all λx=>x==Value.type T)=true:=by
   simp only [List.all_toArray,List.all_map,List.all_eq_true]
   intro _ _
   show (Value.type T==Value.type T)=true
   exact beq_self_eq_true _
  rw [e0]
  simp only [ea,if_true]
  exact wpAny_pure q
theorem pU (v:Value):firstOfTuple' v=(do
  if (<- typeOf v) != .type "tuple" then return none
  return (<- Builtin.List.listItems v)[0]?):=rfl
noncomputable def hd1 (s:Shared):Value->Option Value
 |.ref a=>match s.heap.get? a with
  |some o=>match o.data with
   |.seq xs _=>xs[0]?
   |_=>none
  |none=>none
 |_=>none
theorem zb {vs:List Value}{k0:Ky}{Q:SortKind->Shared->Prop}(h0:vs≠[]) (hf:fit k0=true) (hk:∀ v∈vs,∃ k,KR s v k/\Ky.shp k0 k=true) (q:Q (eF k0) s):wpAny M A (keyKind' vs.toArray) Q E s:=by
 rw [keyKind'_eq,List.mapM_toArray,map_eq_pure_bind]
 have flat:∀ T:String,(Value.type T != Value.type "tuple")=true->(∀ v∈vs,s.TypeIs v T)->eF k0=oneType'->wpAny M A (do
   let firsts <- vs.mapM firstOfTuple' >>= λx=>pure x.toArray
   if firsts.all (·.isSome) then
    rule "list.sort.keys-are-tuples"
    return tuples' ((<- oneTypeOnly' (firsts.filterMap id)).any (· != .type "tuple"))
   if (firsts[0]?.bind id).isSome then return general'
   return if (<- oneTypeOnly' vs.toArray).isSome then oneType' else general') Q E s:=by
  intro T hT ht hkd
  refine wpAny_bind (wpAny_bind (jG (g:=λ_=>none) (λv hv Q' q'=>?_) (wpAny_pure ?_)))
  ·rw [pU]
   refine wpAny_bind (wpAny_typeOf (ht v hv) ?_)
   rw [if_pos hT]
   exact wpAny_pure q'
  ·cases vs with
   |nil=>exact (h0 rfl).elim
   |cons v l =>
    rw [if_neg (by simp),if_neg (by simp)]
    refine wpAny_bind (qA (by simp) ht ?_)
    rw [hkd] at q
    exact wpAny_pure q
 cases k0 with
 |tt v=>cases hf
 |nil=>cases hf
 |i n =>
  refine flat "int" (by decide) (λv hv=>?_) rfl
  obtain ⟨k,r,e⟩:=hk v hv
  cases k<;>first|exact r.ty|cases e
 |s n =>
  refine flat "str" (by decide) (λv hv=>?_) rfl
  obtain ⟨k,r,e⟩:=hk v hv
  cases k<;>first|exact r.ty|cases e
 |cons h t =>
  have each:∀ v∈vs,∃ a o xs n u,v=.ref a/\s.heap.get? a=some o/\o.cls=.type "tuple" /\ o.data=.seq xs n/\xs[0]?=some u/\s.TypeIs u (tyK h):=by
   intro v hv
   obtain ⟨k,⟨ok,as,r⟩,e⟩:=hk v hv
   cases k with
   |cons h' t' =>
    simp only [Ky.dat] at r
    cases r with
    |tuple a1 a2 a3 a4 =>
     rename_i xs n
     generalize hl:xs.toList=l at a4
     cases a4 with
     |cons r rs =>
      rename_i u us _ _
      simp only [Ky.fj,Bool.and_eq_true] at ok
      simp only [Ky.cc,Bool.and_eq_true] at e
      have ty:s.TypeIs u (tyK h'):=KR.ty ⟨ok.1.1,_,r⟩
      have et:tyK h'=tyK h:=uK e.1
      refine ⟨_,_,xs,_,u,rfl,a1,a2,a3,?_,et ▸ ty⟩
      rw [<- Array.getElem?_toList,hl];rfl
   |_=>cases e
  have gh:∀ v∈vs,∃ u,hd1 s v=some u/\s.TypeIs u (tyK h):=by
   intro v hv
   obtain ⟨a,o,xs,n,u,rfl,h1,_,h3,h4,h5⟩:=each v hv
   exact ⟨u,by simp only [hd1,h1,h3,h4],h5⟩
  refine wpAny_bind (wpAny_bind (jG (g:=hd1 s) (λv hv Q' q'=>?_) (wpAny_pure ?_)))
  ·obtain ⟨a,o,xs,n,u,rfl,h1,h2,h3,h4,h5⟩:=each v hv
   rw [pU]
   refine wpAny_bind (wpAny_typeOf (T:="tuple") ⟨o,h1,h2⟩ ?_)
   rw [if_neg (by decide)]
   refine wpAny_bind (listItems_at h1 h3 (wpAny_pure ?_))
   simpa only [hd1,h1,h3] using q'
  ·have all:(List.map (hd1 s) vs).toArray.all (·.isSome)=true:=by
    simp only [List.all_toArray,List.all_map,List.all_eq_true]
    intro v hv
    obtain ⟨u,e,_⟩:=gh v hv
    show (hd1 s v).isSome=true
    rw [e];rfl
   rw [if_pos all]
   refine wpAny_bind (wpAny_rule ?_)
   have fm:(List.map (hd1 s) vs).toArray.filterMap id=((List.map (hd1 s) vs).filterMap id).toArray:=by simp
   rw [fm]
   refine wpAny_bind (qA (T:=tyK h) ?_ (λu hu=>?_) (wpAny_pure q))
   ·cases vs with
    |nil=>exact (h0 rfl).elim
    |cons v l =>
     obtain ⟨u,e,_⟩:=gh v (List.mem_cons_self ..)
     simp [e]
   ·rw [List.mem_filterMap] at hu
    obtain ⟨x,hx,ex⟩:=hu
    rw [List.mem_map] at hx
    obtain ⟨v,hv,rfl⟩:=hx
    obtain ⟨u',e,ht⟩:=gh v hv
    rw [show id (hd1 s v)=hd1 s v from rfl,e] at ex
    cases ex;exact ht
end
theorem z7 {α:Type}{prog:Program}{w:World}{A:Around}{E:Value->Shared->Prop}{s:Shared}{ks us:List Value}{k0:Ky}{rest:Unit×SortSt->Sem α}{Q:α->Shared->Prop}(hl:ks.length=us.length) (Ps:us.length<64) (hf:fit k0=true)
  (hk:∀ v∈ks,∃ k,KR s v k/\Ky.shp k0 k=true) (hu:A.units+k0.dep+1<cLine)
  (h:∀ st:SortSt,(arrOf st).Perm (ks.toArray.zip us.toArray)->failedOf st=none->(∀ i j (hj:j<(arrOf st).size) (hi:i<(arrOf st).size),i<=j->Ky.lt (bW s (arrOf st)[j].1) (bW s (arrOf st)[i].1)=false)->wpAny (model prog w) A (rest ((),st)) Q E s) :
  wpAny (model prog w) A (do
   let kind <- if us.toArray.size<2 then pure general' else keyKind' ks.toArray
   let r <- (if us.toArray.size<2 then pure () else sortRuns').run (SortSt.mk' kind (ks.toArray.zip us.toArray) #[] 7 none)
   rest r) Q E s:=by
 have sz:(ks.toArray.zip us.toArray).size=us.length:=by simp [hl]
 by_cases h2:us.toArray.size<2
 ·rw [if_pos h2,if_pos h2]
  refine wpAny_bind (wpAny_pure ?_)
  dsimp only
  rw [StateT.run_pure]
  refine wpAny_bind (wpAny_pure (h _ (Array.Perm.refl _) rfl λi j hj hi ij=>?_))
  have e:i=j:=by
   have:j<(ks.toArray.zip us.toArray).size:=hj
   rw [sz] at this
   simp only [List.size_toArray] at h2
   omega
  subst e
  exact Ky.irr _
 ·rw [if_neg h2,if_neg h2]
  simp only [List.size_toArray] at h2
  refine wpAny_bind (zb (k0:=k0) (by intro e;rw [e] at hl;simp at hl;omega) hf hk ?_)
  have key:∀ v∈ks,KR s v (bW s v)/\Ky.shp k0 (bW s v)=true:=λv hv=>by
   obtain ⟨k,r,e⟩:=hk v hv
   rw [mV r];exact ⟨r,e⟩
  have mem:∀ p∈(ks.toArray.zip us.toArray).toList,p.1∈ks:=λp hp=>by
   rw [show (ks.toArray.zip us.toArray).toList=ks.zip us by simp] at hp
   exact (List.of_mem_zip hp).1
  have SD:∀ x∈ks.map (bW s),∀ y∈ks.map (bW s),Ky.shp x y=true:=λx hx y hy=>by
   rw [List.mem_map] at hx hy
   obtain ⟨v,hv,rfl⟩:=hx
   obtain ⟨v',QN,rfl⟩:=hy
   exact Ky.shp_trans (Ky.rT (key v hv).2) (key v' QN).2
  let ρ:Keyed->Nat:=λp=>rnk (ks.map (bW s)) (bW s p.1)
  have C:Cm prog w A s (eF k0) (ks.toArray.zip us.toArray) ρ:=λx y hx hy E' Q' q'=>by
   have mx:=mem x hx
   have my:=mem y hy
   have q2:Q' (Ky.lt (bW s x.1) (bW s y.1)) s:=by
    rw [<- uJ SD (List.mem_map_of_mem mx) (List.mem_map_of_mem my)];exact q'
   rw [<- Gp (key x.1 mx).2]
   refine JA (key x.1 mx).1 (key y.1 my).1 (SD _ (List.mem_map_of_mem mx) _ (List.mem_map_of_mem my)) (Di (key x.1 mx).2 hf) ?_ q2
   rw [<- Ky.shp_dep (key x.1 mx).2];exact hu
  refine wpAny_bind (wpAny_mono (Gn (E:=E) (st:=SortSt.mk' (eF k0) (ks.toArray.zip us.toArray) #[] 7 none) (Q:=λ_ z=>(arrOf z).Perm (ks.toArray.zip us.toArray)/\failedOf z=none/\Up ρ (arrOf z) (ks.toArray.zip us.toArray).size) C ⟨Array.Perm.refl _,rfl,rfl,rfl⟩ (by rw [sz];omega) (by rw [sz];exact Ps)
   λz a1 a2 a3=>⟨a1,a2,a3⟩) ?_ λ_ _ e=>e)
  rintro ⟨⟨⟩,z⟩ s' ⟨rfl,zp,zf,zu⟩
  refine h z zp zf λi j hj hi ij=>?_
  have up:=zu i j ij (by rw [<- zp.size_eq];exact hj)
  have mz:∀ k (hk:k<(arrOf z).size),(arrOf z)[k].1∈ks:=λk hk=>mem _ ((Array.perm_iff_toList_perm.mp zp).mem_iff.mp (by simp))
  have e1:∀ k (hk:k<(arrOf z).size),rk ρ (arrOf z) k=ρ (arrOf z)[k]:=λk hk=>by unfold rk;rw [getElem?_pos _ k hk];rfl
  rw [e1 i hi,e1 j hj] at up
  rw [<- uJ SD (List.mem_map_of_mem (mz j hj)) (List.mem_map_of_mem (mz i hi))]
  exact decide_eq_false (Nat.not_lt.mpr up)
end S6
namespace T2
open PySem PySem.Spec PyProof.Rows L2 S6
mutual
noncomputable def tre:Ky->T
 |.i n=>.int n
 |.s x=>.str x
 |.tt v=>.bl v
 |.nil=>.tup []
 |.cons h t=>.tup (tre h::iO t)
noncomputable def iO:Ky->List T
 |.cons h t=>tre h::iO t
 |_=>[]
end
theorem mW:∀ k:Ky,c6 (tre k)=some k.dat/\bF (iO k)=some k.row
 |.i n=>⟨rfl,rfl⟩
 |.s n=>⟨rfl,rfl⟩
 |.tt n=>⟨rfl,rfl⟩
 |.nil=>⟨rfl,rfl⟩
 |.cons h t=>by
  have h1:=(mW h).1
  have h2:=(mW t).2
  exact ⟨by show (bF (tre h::iO t)).map PyData.tuple=_;rw [sN h1 h2];rfl,sN h1 h2⟩
theorem JB {X:Cx}{K:Fg}{pins:List (Addr×Obj)}{U:L2.St}{H:Hp}{S:Sto}{s:Shared}{k:Ky}{v:V}{u:Value}(hK:X.K=K) (I:Inv X pins U H s) (r:Rp K H S (tre k) v) (rv:aq v u) (ok:Ky.ok k=true):KR s u k:=by
 subst hK
 exact ⟨ok,fF I (nB r (mW k).1) rv⟩
theorem mX {α β:Type}(f:α->β){m n:List β}(h:m.Perm n):∀ {l:List α},n=l.map f->∃ l':List α,l'.Perm l/\m=l'.map f:=by
 induction h with
 |nil =>
  intro l e
  exact ⟨[],by rw [List.map_eq_nil_iff.mp e.symm],rfl⟩
 |cons x _ ih =>
  intro l e
  cases l with
  |nil=>cases e
  |cons a l =>
   simp only [List.map_cons,List.cons.injEq] at e
   obtain ⟨l',p,q⟩:=ih e.2
   exact ⟨a::l',p.cons a,by rw [List.map_cons,q,e.1]⟩
 |swap x y z =>
  intro l e
  cases l with
  |nil=>cases e
  |cons a l =>
   cases l with
   |nil=>simp at e
   |cons b l =>
    simp only [List.map_cons,List.cons.injEq] at e
    exact ⟨b::a::l,List.Perm.swap a b l,by rw [List.map_cons,List.map_cons,e.1,e.2.1,e.2.2]⟩
 |trans _ _ ih1 ih2 =>
  intro l e
  obtain ⟨l',p,q⟩:=ih2 e
  obtain ⟨l2,p2,q2⟩:=ih1 q
  exact ⟨l2,p2.trans p,q2⟩
structure Rec where
 t:T
 v:V
 u:Value
 ku:Value
section
variable {X:Cx}{K:Fg}{pins:List (Addr×Obj)}{U:L2.St}{H H':Hp}{S:Sto}{s:Shared}
theorem sW:∀ {ts:List T}{vs:List V}{us ks:List Value},Rps K H S ts vs->am vs us->ks.length=us.length->∃ R:List Rec,R.map (·.t)=ts/\R.map (·.v)=vs/\R.map (·.u)=us/\R.map (·.ku)=ks/\∀ r∈R,Rp K H S r.t r.v/\aq r.v r.u
 |_,_,_,[],.nil,.nil,_=>⟨[],rfl,rfl,rfl,rfl,λ_ h=>by cases h⟩
 |_,_,_,_::_,.nil,.nil,h=>by simp at h
 |_,_,_,[],.cons _ _,.cons _ _,h=>by simp at h
 |t::ts,v::vs,u::us,k::ks,.cons a b,.cons c d,h=>by
  obtain ⟨R,e1,e2,e3,e4,e5⟩:=sW b d (by simpa using h)
  refine ⟨⟨t,v,u,k⟩::R,by simp [e1],by simp [e2],by simp [e3],by simp [e4],λr hr=>?_⟩
  rcases List.mem_cons.mp hr with rfl|hr
  ·exact ⟨a,c⟩
  ·exact e5 r hr
theorem rV:∀ {R:List Rec},(∀ r∈R,Rp K H S r.t r.v/\aq r.v r.u)->Rps K H S (R.map (·.t)) (R.map (·.v))/\am (R.map (·.v)) (R.map (·.u))
 |[],_=>⟨.nil,.nil⟩
 |r::R,h=>by
  obtain ⟨a,b⟩:=h r (List.mem_cons_self ..)
  obtain ⟨c,d⟩:=rV λx hx=>h x (List.mem_cons_of_mem _ hx)
  exact ⟨.cons a c,.cons b d⟩
end
theorem yi (a f:Value):argsOk "sorted" ⟨[a],[(Str.ofString "key",f)]⟩:=by unfold argsOk;kernel_rfl
theorem xI (a f:Value):argsOk "list.sort" ⟨[a],[(Str.ofString "key",f)]⟩:=by unfold argsOk;kernel_rfl
theorem x6 {prog:Program}{w:World}{A:Around}{E:Value->Shared->Prop}{s:Shared}{Ty:String}{name:Str}{id:String}{b:Builtin}{self:Value}{rest:List Value}{kw:List (Str×Value)}{Q:Value->Shared->Prop}(h:Slot Ty name id) (hT:s.TypeIs self Ty)
  (hb:entryFor table id=some b) (hc:wpAny (model prog w) A.in1 (b ⟨self::rest,kw⟩) (λfin s'=>∃ v,fin=.done (.ret v)/\Q v s') E s) (ha:argsOk id ⟨self::rest,kw⟩):wpAny (model prog w) A (call (.builtin id) (self::rest) kw) Q E s:=by
 refine wpAny_call (codeAny_call_builtin h.plain hb (h.check _ _ _ _ _ _ _ _ hT ha (wpAny_mono hc (λfin s' h'=>?_) λ_ _ h'=>h')))
 obtain ⟨v,rfl,hv⟩:=h';exact hv
def kO (a:Addr) (before:Nat) (s:SortSt):Sem PySem.Fin:=do
 let touched:=(<- seqEpoch a) != before
 Builtin.List.listUpdate (.ref a) λ_=>(arrOf s).map (·.2)
 if let some e:=failedOf s then rule "list.sort.comparison-raised";throw e
 if touched then rule "list.sort.modified";raiseError "ValueError" "list modified during sort"
 ret .none
def pK (keys items:Array Value) (rest:SortSt->Sem PySem.Fin):Sem PySem.Fin:=do
 let kind <- if items.size<2 then pure general' else keyKind' keys
 let r <- (if items.size<2 then pure () else sortRuns').run (SortSt.mk' kind (keys.zip items) #[] 7 none)
 rest r.2
def iP (a:Addr) (B:Array Value->Nat->Value->Sem PySem.Fin):Sem PySem.Fin:=do
 let items <- Builtin.List.listItems (.ref a)
 Builtin.List.listUpdate (.ref a) λ_=>#[]
 let before <- seqEpoch a
 let held <- newTuple items.toList
 let keyStore <- newList []
 holding [held,keyStore] (B items before keyStore)
def pL (a fa:Addr) (items:Array Value) (keyStore:Value) (x:Value) (_:PUnit):Sem (ForInStep PUnit):=do
 match <- (call (.ref fa) [x]).attempt with
 |.ok k=>Builtin.List.listUpdate keyStore (·.push k)
 |.error e =>
  rule "list.sort.key-raised"
  let made <- Builtin.List.listItems keyStore
  Builtin.List.listUpdate keyStore λ_=>#[]
  letGo made.toList.reverse [e]
  Builtin.List.listUpdate (.ref a) λ_=>items;throw e
 pure (.yield ⟨⟩)
def pi (a fa:Addr) (items:Array Value) (before:Nat) (keyStore:Value):Sem PySem.Fin:=do
 rule "list.sort.key"
 let _ <- forIn items PUnit.unit (pL a fa items keyStore)
 let keys <- Builtin.List.listItems keyStore
 pK keys items λs=>do
  Builtin.List.listUpdate keyStore λ_=>#[]
  letGo ((arrOf s).map (·.1)).toList (failedOf s).toList
  kO a before s
theorem yI (a fa:Addr):Builtin.«list.sort» ⟨[.ref a],[(Str.ofString "key",.ref fa)]⟩=iP a (pi a fa):=by rfl
section
variable {X:Cx}{K:Fg}{pins:List (Addr×Obj)}{U:L2.St}{H H':Hp}{S:Sto}{s:Shared}
theorem oj {D:Addr}{φ:Heap->Prop}{ws:List V}{its its':List Value}{n:Nat}{f:Array Value->Array Value}(I:Inv X pins U H s) (h:H D=some (.ext φ)) (e:s.heap.get? D=some (seqObj "list" its.toArray n)) (hf:f its.toArray=its'.toArray) (r:am ws its') (hz:ws.length<=sizeLine) :
  Inv X pins U (upd H D (bX D ws)) { s with heap:=s.heap.update D (Obj.mapSeq f) }:=by
 obtain ⟨hh,g,d,t,os⟩:=s
 have e2:=get?_update_seq e f
 rw [hf] at e2
 refine I.write (t':=t) (h':=hh.update D (Obj.mapSeq f)) (x:=D) (e:=D) (by rw [h];trivial) (.inl rfl) (λb u hb q=>(Heap.get?_update_other _ _ (Ne.symm hb)).trans q) ⟨_,e2⟩ ⟨⟨hz,its',_,r,e2⟩,⟨_,e2⟩,λh1 h2 ⟨z',i',n',r',q'⟩ k=>⟨z',i',n',r',k _ q'⟩⟩
theorem wf {D:Addr}{zs:List V}(I:Inv X pins U H s) (h:H D=some (bX D zs)):zs.length<=sizeLine/\∃ its n,am zs its/\s.heap.get? D=some (seqObj "list" its.toArray n):=by
 obtain ⟨⟨z,its,n,r,e⟩,_,_⟩:=I.hok D _ h
 exact ⟨z,its,n,r,e⟩
theorem Gq {D:Addr}{zs:List V}{its:List Value}{n t':Nat}{h':Heap}(I:Inv X pins U H s) (k:∀ b u,s.heap.get? b=some u->h'.get? b=some u) (hp:s.heap.objs.size<=D) (r:am zs its) (hz:zs.length<=sizeLine)
  (e:h'.get? D=some (seqObj "list" its.toArray n)):Inv X pins U (upd H D (bX D zs)) { s with heap:=h',toks:=t' } :=
 I.laid k hp ⟨⟨hz,its,n,r,e⟩,⟨_,e⟩,λh1 h2 zz105 k=>by obtain ⟨z',i',n',r',q'⟩:=zz105;exact ⟨z',i',n',r',k _ q'⟩⟩
end
def fk (D:Addr) (o:Obj):HO:=.ext λh=>h.get? D=some o
theorem Gu {X:Cx}{pins:List (Addr×Obj)}{U:L2.St}{H:Hp}{s:Shared}{D:Addr}{o:Obj}{t':Nat}{h':Heap}(I:Inv X pins U H s) (k:∀ b u,s.heap.get? b=some u->h'.get? b=some u) (hp:s.heap.objs.size<=D) (e:h'.get? D=some o):Inv X pins U (upd H D (fk D o)) { s with heap:=h',toks:=t' } :=
 I.laid k hp ⟨e,⟨_,e⟩,λh1 h2 p k=>k _ p⟩
theorem JC {X:Cx}{pins:List (Addr×Obj)}{U:L2.St}{H:Hp}{s:Shared}{D:Addr}{o:Obj}(I:Inv X pins U H s) (h:H D=some (fk D o)):s.heap.get? D=some o:=(I.hok D _ h).1
def pM (tr:Bool) (xs:List T) (κ:T->Ky) (S:Sto) (Q:T->Sto->Prop):Prop:=∀ zs:List T,zs.Perm xs->zs.Pairwise (λa b=>Ky.lt (κ b) (κ a)=false)->aZ tr zs S Q
def om (tr:Bool) (f:Addr) (LV:WSp):List T->List T->Sto->(T->Sto->Prop)->Prop:=λts us S Q=>∃ x xs κ k0,ts=[x]/\us=[.ref f]/\aT S x=some xs/\xs.length<64/\fit k0=true/\k0.dep<=30 /\
 (∀ t∈xs,Ky.ok (κ t)=true/\Ky.shp k0 (κ t)=true/\∀ S' Q',Q' (tre (κ t)) S'->LV [t] S' Q')/\pM tr xs κ S Q
def lCK (K:Fg) (g:List T->List T->Sto->(T->Sto->Prop)->Prop):List V->List V->Hp->VK->Prop:=λxs zs H Q=>∃ S ts us Qt,SRp K H S/\Rps K H S ts xs/\Rps K H S us zs/\g ts us S Qt/\Bh K H S Qt Q
section
variable {X:Cx}{K:Fg}{pins:List (Addr×Obj)}{U:L2.St}{H Hc:Hp}{S:Sto}{s:Shared}{E:Value->Shared->Prop}
theorem A6 {κ:T->Ky}{k0:Ky}{ls:List T}(hK:X.K=K) (I:Inv X pins U H s) (hk:∀ t∈ls,Ky.ok (κ t)=true/\Ky.shp k0 (κ t)=true){R:List Rec}:∀ {vs:List V},Rps K H S (R.map λr=>tre (κ r.t)) vs->am vs (R.map (·.ku))->(∀ r∈R,r.t∈ls)->∀ r∈R,KR s r.ku (κ r.t)/\Ky.shp k0 (κ r.t)=true:=by
 induction R with
 |nil=>intro _ _ _ _ r hr;cases hr
 |cons r0 R ih =>
  intro kvs a b m r hr
  cases a with
  |cons a1 a2 =>
   cases b with
   |cons b1 b2 =>
    rcases List.mem_cons.mp hr with rfl|hr
    ·have:=hk r.t (m r (List.mem_cons_self ..))
     exact ⟨JB hK I a1 b1 this.1,this.2⟩
    ·exact ih a2 b2 (λx hx=>m x (List.mem_cons_of_mem _ hx)) r hr
theorem A7 {κ:T->Ky}{R:List Rec}{ar:Array Keyed}(eR:ar.toList=R.map λr=>((r.ku,r.u):Keyed)) (key:∀ r∈R,KR s r.ku (κ r.t))
  (hs:∀ i j (hj:j<ar.size) (hi:i<ar.size),i<=j->Ky.lt (bW s ar[j].1) (bW s ar[i].1)=false):(R.map (·.t)).Pairwise (λa b=>Ky.lt (κ b) (κ a)=false):=by
 obtain ⟨l⟩:=ar
 subst eR
 rw [List.pairwise_map,List.pairwise_iff_getElem]
 intro i j hi hj ij
 have:=hs i j (by simpa using hj) (by simpa using hi) (Nat.le_of_lt ij)
 simp only [List.getElem_toArray,List.getElem_map] at this
 rw [mV (key _ (List.getElem_mem hi)),mV (key _ (List.getElem_mem hj))] at this
 exact this
theorem z8 {κ:T->Ky}{k0:Ky}{ls:List T}{vs kvs:List V}{its QJ:List Value}(hK:X.K=K) (I:Inv X pins U H s) (hk:∀ t∈ls,Ky.ok (κ t)=true/\Ky.shp k0 (κ t)=true)
  (rs:Rps K H S ls vs) (rv:am vs its) (rk:Rps K H S (ls.map λt=>tre (κ t)) kvs) (RU:am kvs QJ) (lk:QJ.length=its.length) :
  (∀ v∈QJ,∃ k,KR s v k/\Ky.shp k0 k=true)/\∀ ar:Array Keyed,ar.Perm (QJ.toArray.zip its.toArray)->(∀ i j (hj:j<ar.size) (hi:i<ar.size),i<=j->Ky.lt (bW s ar[j].1) (bW s ar[i].1)=false) ->
   ∃ zs Ou Pp,zs.Perm ls/\zs.Pairwise (λa b=>Ky.lt (κ b) (κ a)=false)/\ar.map (·.2)=Pp.toArray/\Rps K H S zs Ou/\am Ou Pp/\Ou.length=its.length:=by
 obtain ⟨R,q1,q2,q3,q4,q5⟩:=sW rs rv lk
 have key:=A6 (R:=R) hK I hk (by rw [<- q1,List.map_map] at rk;exact rk) (by rw [q4];exact RU) λr hr=>by rw [<- q1];exact List.mem_map_of_mem hr
 refine ⟨λv hv=>?_,λar hp hs=>?_⟩
 ·rw [<- q4] at hv
  obtain ⟨r,hr,rfl⟩:=List.mem_map.mp hv
  exact ⟨_,key r hr⟩
 ·obtain ⟨R',pR,eR⟩:=mX (λr:Rec=>((r.ku,r.u):Keyed)) (Array.perm_iff_toList_perm.mp hp) (l:=R) (by
   have:(QJ.toArray.zip its.toArray).toList=QJ.zip its:=by simp
   rw [this,<- q3,<- q4]
   exact List.zip_map')
  have m:∀ r∈R',r∈R:=λr hr=>pR.mem_iff.mp hr
  obtain ⟨rz,vz⟩:=rV λr hr=>q5 r (m r hr)
  refine ⟨_,_,_,by rw [<- q1];exact pR.map _,A7 eR (λr hr=>(key r (m r hr)).1) hs,?_,rz,vz,by rw [List.length_map,pR.length_eq,<- q3,List.length_map]⟩
  apply Array.toList_inj.mp
  rw [Array.toList_map,eR,List.map_map]
  rfl
theorem rW {A:Around}{L:Addr}{ep:Nat}{st:SortSt}{us:List Value}{vs:List V}{P:Shared->Prop}(I:Inv X pins U Hc s) (eL:Hc L=some (fk L (seqObj "list" #[] ep))) (hf:failedOf st=none) (out:(arrOf st).map (·.2)=us.toArray) (vz:am vs us) (hz:vs.length<=sizeLine)
  (h:∀ s',Inv X pins U (upd Hc L (.lst vs)) s'->P s'):wpAny (model X.prog X.w) A (kO L ep st) (λfin s'=>∃ v,fin=.done (.ret v)/\P s') E s:=by
 unfold kO
 have e:=JC I eL
 refine wpAny_bind (seqEpoch_at e rfl (wpAny_bind (listUpdate_at e rfl ?_ (by simp) (by rw [out,List.size_toArray,<- vz.length];exact Nat.le_succ_of_le hz))))
 rw [hf]
 simp only [bne_self_eq_false,Bool.false_eq_true,if_false]
 have I8:=(oj I eL (its:=[]) e (f:=λ_=>(arrOf st).map (·.2)) out vz hz).ofAcc (D:=L) aK
 rw [jw] at I8
 exact wpAny_pure ⟨_,rfl,h _ I8⟩
theorem rX {tr:Bool}{L:Addr}{φ:Heap->Prop}{zs:List T}{vs:List V}{Qt:T->Sto->Prop}{Q:VK}(b:Bh K H S Qt Q) (nL:H L=none) (fc:Fr H S Hc S) (sc:SRp K Hc S) (eL:Hc L=some (.ext φ)) (nS:S L=none) (rz:Rps K Hc S zs vs) (fin:aZ tr zs S Qt):Q (.ref L) (upd Hc L (.lst vs)):=by
 cases tr with
 |false=>exact b _ _ (.lst _) S (Fr.at fc nL) (sc.chg eL nS) (.lst nS aK (Rps.chg eL rz)) fin
 |true =>
  refine b _ _ (.ref L) _ (λa o h nn=>?_) (SRp.trk eL sc rz) .ref (fin L nS)
  rw [aA (bL h nL)]
  exact Fr.at fc nL a o h nn
theorem Dj {A:Around}{L:Addr}{its:List Value}{B:Array Value->Nat->Value->Sem PySem.Fin}{Q:PySem.Fin->Shared->Prop}(I:Inv X pins U H s) (sr:SRp K H S){h1:Heap}(hL:h1.objs.size=L) (old:∀ b u,s.heap.get? b=some u->h1.get? b=some u) (sz:s.heap.objs.size<=L) (hz:its.length<=sizeLine)
  (h:∀ ep Hc s5,Inv X pins U Hc s5->Hc L=some (fk L (seqObj "list" #[] ep))->Hc (L+2)=some (bX (L+2) [])->H L=none->H (L+2)=none->Fr H S Hc S->SRp K Hc S->wpAny (model X.prog X.w) A (B its.toArray ep (.ref (L+2))) Q E s5) :
  wpAny (model X.prog X.w) A (iP L B) Q E { s with heap:=h1.push (seqObj "list" its.toArray 0) }:=by
 have hoL:(h1.push (seqObj "list" its.toArray 0)).get? L=some (seqObj "list" its.toArray 0):=hL ▸ Heap.get?_push_size _ rfl
 unfold iP
 refine wpAny_bind (listItems_at hoL rfl (wpAny_bind (listUpdate_at hoL rfl ?_ (by simpa using hz) (by simp))))
 obtain ⟨ep,ho1⟩:∃ ep,((h1.push (seqObj "list" its.toArray 0)).update L (Obj.mapSeq λ_=>#[])).get? L=some (seqObj "list" #[] ep):=⟨_,get?_update_seq hoL (λ_=>#[])⟩
 refine wpAny_bind (seqEpoch_at ho1 rfl ?_)
 have sz2:((h1.push (seqObj "list" its.toArray 0)).update L (Obj.mapSeq λ_=>#[])).objs.size=L+1:=by rw [Heap.size_update,size_push',hL]
 have I2:=Gu (t':=s.toks) I (λb u e=>(Heap.get?_update_other _ _ (Ne.symm (Nat.ne_of_lt (Nat.lt_of_lt_of_le (Heap.lt_size e) sz)))).trans (Heap.get?_push_of_some (seqObj "list" its.toArray 0) (old b u e))) sz ho1
 have ne:L+2≠L:=Nat.ne_of_gt (Nat.lt_add_of_pos_right (by decide))
 have nL:H L=none:=I.hok.fresh sz
 have nk:H (L+2)=none:=I.hok.fresh (Nat.le_add_right_of_le sz)
 have nk2:upd H L (fk L (seqObj "list" #[] ep)) (L+2)=none:=by rw [aG ne];exact nk
 refine wpAny_bind (wpAny_newTuple (wpAny_bind (wpAny_newList ?_)) (by simpa using hz))
 generalize (h1.push (seqObj "list" its.toArray 0)).update L (Obj.mapSeq λ_=>#[])=h2 at *
 have sz3:(h2.push { cls:=.type "tuple",data:=.seq its.toArray.toList.toArray }).objs.size=L+2:=by rw [size_push',sz2]
 dsimp only
 rw [sz3]
 refine wpAny_holding (h ep _ _ (Gq (D:=L+2) (s:={ s with heap:=h2,toks:=s.toks }) I2 (λb u e=>Heap.get?_push_of_some _ (Heap.get?_push_of_some _ e)) (Nat.le_trans (Nat.le_of_eq sz2) (Nat.le_succ _)) .nil (Nat.zero_le _) (sz3 ▸ Heap.get?_push_size _ rfl)) (by rw [aG ne.symm];exact aK) aK nL nk ((Fr.new nL).trans (Fr.new nk2)) ((sr.new nL).new nk2))
theorem qW {kw:List (Str×Value)}{ls:List T}{x:T}{B:Addr->Array Value->Nat->Value->Sem PySem.Fin}{Ψ:Value->Shared->Prop}{u:Value}{y:V}(hK:X.K=K) (I:Inv X pins U H s) (sr:SRp K H S) (rx:Rp K H S x y) (ru:aq y u) (ev:aT S x=some ls)
  (ha:∀ a,argsOk "sorted" ⟨[a],kw⟩) (ha':∀ a,argsOk "list.sort" ⟨[a],kw⟩) (hb:∀ a,Builtin.«list.sort» ⟨[.ref a],kw⟩=iP a (B a))
  (h:∀ L ep Hc s5 vs its,Rps K H S ls vs->am vs its->its.length<=sizeLine->Inv X pins U Hc s5->Hc L=some (fk L (seqObj "list" #[] ep))->Hc (L+2)=some (bX (L+2) [])->H L=none->H (L+2)=none->Fr H S Hc S->SRp K Hc S ->
   wpAny (model X.prog X.w) X.A.in1.in1 (B L its.toArray ep (.ref (L+2))) (λfin s'=>∃ v,fin=.done (.ret v)/\Ψ (.ref L) s') E s5):wpAny (model X.prog X.w) X.A (call (.builtin "sorted") [u] kw) Ψ E s:=by
 obtain ⟨pl,vs,rfl,hS,rs⟩:=cz sr rx ev
 cases ru
 subst hK
 obtain ⟨its,Q5,⟨o,n,eo,ec,_,ed⟩,hz⟩:=I.list hS
 rw [Q5.length] at hz
 have h:=λL ep Hc s5=>h L ep Hc s5 vs its rs Q5 hz
 refine yh kind_sorted plain_sorted entry_sorted (ha _) ?_
 unfold Builtin.«sorted»
 refine wpAny_bind (m:=checkCount "sorted" 1 1 _) (wpAny_pure (wpAny_bind (collect_list (l:=pl) (vs:=its) ⟨o,eo,ec,n,ed⟩ (wpAny_bind (wpAny_newList ?_ hz)) hz)))
 have old:∀ b u,s.heap.get? b=some u->((s.heap.push (seqObj "list" #[] 0)).update s.heap.objs.size (Obj.mapSeq (·++its.toArray))).get? b=some u:=λb u e=>(Heap.get?_update_other _ _ (Ne.symm (Nat.ne_of_lt (Heap.lt_size e)))).trans (Heap.get?_push_of_some _ e)
 have sz:s.heap.objs.size<=((s.heap.push (seqObj "list" #[] 0)).update s.heap.objs.size (Obj.mapSeq (·++its.toArray))).objs.size:=by rw [Heap.size_update,size_push'];exact Nat.le_succ _
 generalize (s.heap.push (seqObj "list" #[] 0)).update s.heap.objs.size (Obj.mapSeq (·++its.toArray))=h1 at *
 refine wpAny_bind (wpAny_holding (x6 slot_list_sort (Ty:="list") ⟨_,Heap.get?_push_size _ rfl,rfl⟩ entry_list_sort ?_ (ha' _)))
 rw [hb]
 refine Dj I sr rfl old sz hz λep Hc s5 a1 a2 a3 a4 a5 a6 a7=>wpAny_mono (h _ ep Hc s5 a1 a2 a3 a4 a5 a6 a7) (λfin s' zz106=>by obtain ⟨v,e,q⟩:=zz106;exact ⟨v,e,wpAny_pure q⟩) λ_ _ q=>q
structure SInv (X:Cx) (K:Fg) (pins:List (Addr×Obj)) (U:L2.St) (H:Hp) (S:Sto) (L:Addr) (ep:Nat) (κ:T->Ky) (ts:List T) (kvs:List V) (Hc:Hp) (s:Shared):Prop where
 I:Inv X pins U Hc s
 eL:Hc L=some (fk L (seqObj "list" #[] ep))
 ek:Hc (L+2)=some (bX (L+2) kvs)
 fc:Fr H S Hc S
 sc:SRp K Hc S
 rk:Rps K Hc S (ts.map λt=>tre (κ t)) kvs
variable {k:Nat}{f:Addr}{fd:FuncData}{x p:Str}{LV:WSp}{L:Addr}{ep:Nat}{κ:T->Ky}{ts ls:List T}{kvs:List V}{t:T}
theorem Dk {v:V}{u:Value}{items:Array Value}{Q:ForInStep PUnit->Shared->Prop}(F:FnOk X.prog X.w X.K X.mg X.base CX0 k f fd [p] (lSp K LV)) (D:Df X.K X.mg x f fd [p]) (hr:Room (k+2) X.A) (rt:Rp K H S t v) (ru:aq v u) (hk:∀ S' Q',Q' (tre (κ t)) S'->LV [t] S' Q')
  (nS:S L=none) (nk:H (L+2)=none) (nSk:S (L+2)=none) (hl:ts.length+1<=sizeLine) (J:SInv X K pins U H S L ep κ ts kvs Hc s)
  (h:∀ RV Hc' s',SInv X K pins U H S L ep κ (ts++[t]) RV Hc' s'->Q (.yield ⟨⟩) s'):wpAny (model X.prog X.w) X.A.in1.in1 (pL L f items (.ref (L+2)) u ⟨⟩) Q E s:=by
 unfold pL
 refine wpAny_bind (wpAny_attempt (wpAny_call (codeAny_mono (F.run X.A.in1.in1 X.stack s Hc ⟨[u],[]⟩ [u] [v] (λv' H'=>Fr Hc S H' S/\SRp K H' S/\Rp K H' S (tre (κ t)) v') E0 hr.in1.in1 J.I.env0.in1.in1 (D.b s [u] J.I.kIn rfl) (.cons ru .nil)
  ⟨S,[t],λk' S'=>S'=S/\k'=tre (κ t),J.sc,.cons (rt.fr J.fc) .nil,hk S _ ⟨rfl,rfl⟩,λv' H' t' S' f' s' r' q'=>by obtain ⟨rfl,rfl⟩:=q';exact ⟨f',s',r'⟩⟩) λr s2 SE=>?_)))
 cases r with
 |error e=>exact False.elim SE
 |ok fl =>
  cases fl with
  |next=>exact False.elim SE
  |brk=>exact False.elim SE
  |cont=>exact False.elim SE
  |ret ku =>
   obtain ⟨v',H',I',r',f',s'',rp'⟩:=J.I.after SE
   have ek':=(f' (L+2) _ J.ek nSk).1
   obtain ⟨zz,QJ,nn,RU,eku⟩:=wf I' ek'
   have lk:(kvs++[v']).length<=sizeLine:=by rw [List.length_append,J.rk.length,List.length_map];exact hl
   have r2:=RU.append (.cons r' .nil)
   have lk2:(QJ++[ku]).length<=sizeLine:=r2.length ▸ lk
   refine wpAny_bind (listUpdate_at eku rfl ?_ ?_ ?_)
   ·refine wpAny_pure (h _ _ _ ⟨oj I' ek' eku (its':=QJ++[ku]) (by simp) r2 lk,?_,aK,Fr.at (J.fc.trans f') nk,s''.chg ek' nSk,?_⟩)
    ·rw [aG (Ne.symm (Nat.ne_of_gt (Nat.lt_add_of_pos_right (by decide))))]
     exact (f' L _ J.eL nS).1
    ·rw [List.map_append]
     exact Rps.chg ek' ((J.rk.fr f').append (.cons rp' .nil))
   ·exact Nat.le_of_succ_le (by rw [List.length_append] at lk2;exact lk2)
   ·rw [Array.size_push]
    exact Nat.le_succ_of_le (by rw [List.length_append] at lk2;exact lk2)
variable {tr:Bool}{k0:Ky}{vs:List V}{its:List Value}{Qt:T->Sto->Prop}{Q:VK}
theorem sX {A:Around}{rest:SortSt->Sem PySem.Fin}{P:PySem.Fin->Shared->Prop}{QJ:List Value}(hK:X.K=K) (Ps:ls.length<64) (hf:fit k0=true) (hd:A.units+k0.dep+1<cLine) (I:Inv X pins U H s) (hk:∀ t∈ls,Ky.ok (κ t)=true/\Ky.shp k0 (κ t)=true) (rs:Rps K H S ls vs) (rv:am vs its) (rk:Rps K H S (ls.map λt=>tre (κ t)) kvs) (RU:am kvs QJ)
  (h:∀ st zs Ou Pp,failedOf st=none->zs.Perm ls->zs.Pairwise (λa b=>Ky.lt (κ b) (κ a)=false)->(arrOf st).map (·.2)=Pp.toArray->Rps K H S zs Ou->am Ou Pp->Ou.length=its.length->wpAny (model X.prog X.w) A (rest st) P E s):wpAny (model X.prog X.w) A (pK QJ.toArray its.toArray rest) P E s:=by
 have lk:QJ.length=its.length:=by rw [<- RU.length,rk.length,List.length_map,<- rs.length,rv.length]
 obtain ⟨g1,g2⟩:=z8 hK I hk rs rv rk RU lk
 refine z7 (k0:=k0) lk (by rw [<- rv.length,rs.length];exact Ps) hf g1 hd λst hp P5 hs=>?_
 obtain ⟨zs,Ou,Pp,p1,p2,out,rz,vz,lz⟩:=g2 _ hp hs
 exact h st zs Ou Pp P5 p1 p2 out rz vz lz
theorem A8 (hK:X.K=K) (F:FnOk X.prog X.w X.K X.mg X.base CX0 k f fd [p] (lSp K LV)) (D:Df X.K X.mg x f fd [p]) (hr:Room (k+2) X.A) (Ps:ls.length<64) (hf:fit k0=true) (hd:k0.dep<=30) (hk:∀ t∈ls,Ky.ok (κ t)=true/\Ky.shp k0 (κ t)=true/\∀ S' Q',Q' (tre (κ t)) S'->LV [t] S' Q') (hq:pM tr ls κ S Qt) (b:Bh K H S Qt Q)
  (rs:Rps K H S ls vs) (rv:am vs its) (hz:its.length<=sizeLine) (nL:H L=none) (nk:H (L+2)=none) (nS:S L=none) (nSk:S (L+2)=none) (J:SInv X K pins U H S L ep κ [] [] Hc s) :
  wpAny (model X.prog X.w) X.A.in1.in1 (pi L f its.toArray ep (.ref (L+2))) (λfin s'=>∃ v,fin=.done (.ret v)/\EP X pins U Q (.ref L) s') E s:=by
 unfold pi
 refine wpAny_bind (wpAny_rule (wpAny_bind ?_))
 have hl:ls.length<=sizeLine:=by rw [<- rs.length,rv.length];exact hz
 refine PySem.MeetsSeq2.wpAny_forIn_array _ (λrest _ s'=>∃ ts rts Q5 kvs Hc,ls=ts++rts/\Rps K H S rts Q5/\am Q5 rest/\SInv X K pins U H S L ep κ ts kvs Hc s') _ ?_ ?_ _ _ ⟨[],ls,vs,[],Hc,rfl,rs,rv,J⟩
 ·rintro u rest ⟨⟩ s' ⟨ts,rts,Q5,kvs,Hc,e,r1,r2,J⟩
  cases r2 with
  |cons ru r2 =>
  cases r1 with
  |cons rt r1 =>
  rw [e] at hl
  exact Dk F D hr rt ru (hk _ (by rw [e];simp)).2.2 nS nk nSk (by simp at hl;omega) J λRV Hc' s' J'=>⟨_,_,_,_,_,by rw [e];simp,r1,r2,J'⟩
 ·rintro ⟨⟩ s' ⟨ts,rts,Q5,kvs,Hc,e,r1,r2,J⟩
  cases r2
  cases r1
  rw [List.append_nil] at e
  subst e
  obtain ⟨zz,QJ,nn,RU,eku⟩:=wf J.I J.ek
  refine wpAny_bind (listItems_at eku rfl ?_)
  refine sX hK Ps hf (by have:=hr.in1.in1.units;omega) J.I (λt ht=>⟨(hk t ht).1,(hk t ht).2.1⟩) (rs.fr J.fc) rv J.rk RU λst zs Ou Pp P5 p1 p2 out rz vz lz=>?_
  refine wpAny_bind (listUpdate_at eku rfl (wpAny_bind (wpAny_letGo ?_)) (by rw [List.size_toArray,<- RU.length];exact zz) (Nat.zero_le _))
  have I6:=oj J.I J.ek eku (f:=λ_=>#[]) (its':=[]) (ws:=[]) rfl .nil (Nat.zero_le _)
  have eL6:upd _ (L+2) (bX (L+2) []) L=_:=(aG (Ne.symm (Nat.ne_of_gt (Nat.lt_add_of_pos_right (by decide))))).trans J.eL
  exact rW I6 eL6 P5 out vz (lz ▸ hz) λs' I8=>⟨.ref L,_,I8,rfl,rX b nL (Fr.at J.fc nk) (J.sc.chg J.ek nSk) eL6 nS (Rps.chg J.ek rz) (hq _ p1 p2)⟩
end
theorem Dl {X:Cx}{K:Fg}(tr:Bool){k:Nat}{f:Addr}{fd:FuncData}{x p:Str}{LV:WSp}(hK:X.K=K) (F:FnOk X.prog X.w X.K X.mg X.base CX0 k f fd [p] (lSp K LV)) (D:Df X.K X.mg x f fd [p]) (hr:Room (k+2) X.A) :
  uj X (.builtin "sorted") [Str.ofString "key"] (lCK K (om tr f LV)):=by
 rintro pins s U H xs zs us ws Q I rv rz ⟨S,ts,Pp,Qt,sr,r1,r2,⟨x,ls,κ,k0,e1,e2,ev,Ps,hf,hd,hk,hq⟩,b⟩
 subst e1 e2
 cases r1 with
 |cons rx Rf =>
 cases Rf
 cases r2 with
 |cons rf Rf =>
 cases Rf
 cases rf
 obtain ⟨u,rfl,ru⟩:=bV rv
 obtain ⟨u',rfl,ru'⟩:=bV rz
 cases ru'
 exact qW hK I sr rx ru ev (yi · _) (xI · _) (yI · f) λL ep Hc s5 vs its rs Q5 hz J eL ek nL nk fc sc=>A8 hK F D hr Ps hf hd hk hq b rs Q5 hz nL nk (sr.fresh nL) (sr.fresh nk) ⟨J,eL,ek,fc,sc,.nil⟩
def wSK (g:List T->List T->Sto->(T->Sto->Prop)->Prop) (wr:WA) (wk:WE):WE:=λU S Q=>wr U S λts S1=>wk U S1 λy S2=>g ts [y] S2 Q
theorem Gv {K:Fg}{g:List T->List T->Sto->(T->Sto->Prop)->Prop}{wr:WA}{wk:WE}{U H Q}(h:lE K (wSK g wr wk) U H Q):wN (lCK K g) (lA K wr) (oZ (lE K wk) dO) U H Q:=by
 obtain ⟨S,LP,Qt,s,c,q,hq⟩:=h
 refine ⟨S,LP,_,s,c,q,λvs H1 ts S1 f1 s1 r1 q1=>?_⟩
 refine ⟨S1,LP,_,s1,c.fr f1,q1,λy H2 ty S2 f2 s2 r2 q2=>?_⟩
 exact ⟨S2,ts,[ty],Qt,s2,r1.fr f2,.cons r2 .nil,q2,λv H' t S' f=>hq v H' t S' ((f1.trans f2).trans f)⟩
theorem sY {X:Cx}{K:Fg}(tr:Bool){k:Nat}{f:Addr}{fd:FuncData}{fx pn:Str}{LV:WSp}{p pos kp QP:Pos}{e:Expr}{wr:WA}(hK:X.K=K) (F:FnOk X.prog X.w X.K X.mg X.base CX0 k f fd [pn] (lSp K LV)) (D:Df X.K X.mg fx f fd [pn]) (hr:Room (k+2) X.A)
  (hg:Gl X "sorted") (hm:X.mg "sorted"=none) (hgf:Gl X fx) (ha:QA K X [e] wr) (MQ:(fx==("__debug__":Str))=false:=by decide)
  (hks:(backToKw pos (keywordEach [⟨some (Str.ofString "key"),.Name fx kp,QP⟩] X.env)).filterMap (·.1)=[Str.ofString "key"]:=by rfl)
  (he:backTo pos (starEach [e] X.env)=(false,eval e X.env)::backTo pos (starEach [] X.env):=by rfl)
  (NI:(backTo pos (starEach [e] X.env)).any (·.1)=false:=by rfl)
  (Qm:(backToKw pos (keywordEach [⟨some (Str.ofString "key"),.Name fx kp,QP⟩] X.env)).all (·.1.isSome)=true:=by rfl)
  (Sy:(backToKw pos (keywordEach [⟨some (Str.ofString "key"),.Name fx kp,QP⟩] X.env)).any (·.1.isNone)=false:=by rfl) :
  QE K X (.Call (.Name "sorted" p) [e] [⟨some (Str.ofString "key"),.Name fx kp,QP⟩] pos) (wSK (om tr f LV) wr (wC (.ref f))):=by
 have hk:QE K X (.Name fx kp) (wC (.ref f)):=oh (sx (v:=.ref f) hgf D.hm rfl MQ) λ_ _=>.ref
 exact PE.of (zN (Dl tr hK F D hr) hg hm PyProof.Rows.boot_sorted ha (Cr hk Fk) hks (by decide) (by decide) he NI Qm Sy) λ_ _ _ h=>Gv h
theorem Li {U:StT}{S:Sto}{Q:T->Sto->Prop}{g:List T->List T->Sto->(T->Sto->Prop)->Prop}{wr:WA}{wk:WE}(h:wr U S λts S1=>wk U S1 λy S2=>g ts [y] S2 Q):wSK g wr wk U S Q:=h
theorem sZ {α:Type}{S:Sto}{Q:T->Sto->Prop}{tr:Bool}{f:Addr}{LV:WSp}{ft:α->T}{ls:List α}{x:T}(RW:T->Ky) (k0:Ky) (e:aT S x=some (ls.map ft)) (Ps:ls.length<64) (hf:fit k0=true) (hd:k0.dep<=30)
  (hk:∀ a∈ls,Ky.ok (RW (ft a))=true/\Ky.shp k0 (RW (ft a))=true/\∀ S' Q',Q' (tre (RW (ft a))) S'->LV [ft a] S' Q')
  (h:∀ l':List α,l'.Perm ls->l'.Pairwise (λa b=>Ky.lt (RW (ft b)) (RW (ft a))=false)->aZ tr (l'.map ft) S Q):om tr f LV [x] [.ref f] S Q:=by
 refine ⟨x,ls.map ft,RW,k0,rfl,rfl,e,by rw [List.length_map];exact Ps,hf,hd,λt ht=>?_,λzs hp hs=>?_⟩
 ·obtain ⟨a,ha,rfl⟩:=List.mem_map.mp ht
  exact hk a ha
 ·obtain ⟨l',p,rfl⟩:=mX ft hp rfl
  rw [List.pairwise_map] at hs
  exact h l' p hs
end T2
namespace Tm
open PySem PySem.Spec PyProof.Rows
abbrev tl (x:Str):List Nat:=x.cps.toList
theorem len (x:Str):(tl x).length=x.length:=by simp [tl,Str.length]
theorem fS (x y:Str):tl (x++y)=tl x++tl y:=by show (x.cps++y.cps).toList=_;simp [tl]
theorem JD (l:List Nat):tl ⟨l.toArray⟩=l:=by simp [tl]
noncomputable def aU (g:List Nat):List (List Nat)->List Nat
 |[]=>[]
 |[p]=>p
 |p::q::r=>p++g++aU g (q::r)
theorem mY (g:Str):∀ ps:List Str,tl (Str.join g ps)=aU (tl g) (ps.map tl)
 |[]=>rfl
 |[p]=>rfl
 |p::q::r=>by
  have ih:=mY g (q::r)
  show tl ((p++g++Str.join g (q::r)):Str)=tl p++tl g++aU (tl g) ((q::r).map tl)
  rw [<- ih,fS,fS]
theorem jH (g:Str) (ps:List Str):tl (Txt.join g ps)=aU (tl g) (ps.map tl):=by
 rw [show Txt.join g ps=Str.join g ps from StrLaws.glued_eq_join g ps,mY]
theorem kA:tl (" ":Str)=[32]:=by decide +kernel
theorem empty:tl ("":Str)=[]:=by decide +kernel
theorem mC (x:Str):aU [32] ((Txt.split x " ").map tl)=tl x:=by
 have:=mY " " (Txt.split x " ")
 rw [StrLaws.join_split,kA] at this
 exact this.symm
theorem split_free (x:Str):∀ p∈(Txt.split x " ").map tl,32∉p:=λp hp=>by
 obtain ⟨q,hq,rfl⟩:=List.mem_map.mp hp
 exact StrLaws.split_free x 32 q hq
theorem A9 (x:Str):(Txt.split x " ")≠[]:=λh=>by
 have:=split_pos x " "
 rw [h] at this;simp at this
theorem uL (n d:Nat) (h:d<=n) (o:Option Int):HT.sIx n d o<=n:=by
 cases o with
 |none=>exact h
 |some v=>simp only [HT.sIx];split<;>omega
theorem A' (lo hi:Option Int) (n:Nat):Builtin.Str.strSliceIndices lo hi 1 n=(List.range (HT.sIx n n hi - HT.sIx n 0 lo)).map λk=>HT.sIx n 0 lo+k:=by
 have c:∀ i:Int,max 0 (min (if i<0 then i+(n:Int) else i) (n:Int))=(((if i<0 then (i+(n:Int)).toNat else min i.toNat n):Nat):Int):=λi=>by split<;>omega
 have key:Builtin.Str.strSliceIndices lo hi 1 n=sliceRange ((HT.sIx n 0 lo:Nat):Int) ((HT.sIx n n hi:Nat):Int) 1:=by
  unfold Builtin.Str.strSliceIndices
  cases lo with
  |none =>
   cases hi with
   |none=>rfl
   |some j=>simp only [show (1:Int)>0 by decide,if_true,c,HT.sIx];rfl
  |some i =>
   cases hi with
   |none=>simp only [show (1:Int)>0 by decide,if_true,c,HT.sIx]
   |some j=>simp only [show (1:Int)>0 by decide,if_true,c,HT.sIx]
 rw [key]
 unfold sliceRange
 simp only [show (1:Int)>0 by decide,if_true,Int.one_mul]
 have hc:(if ((HT.sIx n 0 lo:Nat):Int)<((HT.sIx n n hi:Nat):Int) then (((HT.sIx n n hi:Nat):Int) - ((HT.sIx n 0 lo:Nat):Int)+1 - 1) / 1 else 0).toNat=HT.sIx n n hi - HT.sIx n 0 lo:=by
  split
  ·rw [Int.ediv_one];omega
  ·simp;omega
 rw [hc]
 apply List.map_congr_left
 intro k _
 omega
theorem rY (x:Str) (lo hi:Option Int):tl (Txt.slice x lo hi)=((tl x).drop (HT.sIx x.length 0 lo)).take (HT.sIx x.length x.length hi - HT.sIx x.length 0 lo):=by
 have hA:=uL x.length 0 (Nat.zero_le _) lo
 have hB:=uL x.length x.length (Nat.le_refl _) hi
 have hl:=len x
 unfold Txt.slice
 rw [A']
 split
 ·next h =>
  simp only [beq_self_eq_true,Bool.true_and,List.length_map,List.length_range,beq_iff_eq] at h
  have h0:HT.sIx x.length 0 lo=0\/x.length=0:=by omega
  rcases h0 with h0|h0
  ·rw [h0,List.drop_zero,List.take_of_length_le (by omega)]
  ·have:tl x=[]:=List.length_eq_zero_iff.mp (by omega)
   rw [this];simp
 ·rw [JD]
  have:=StrLaws.picks (tl x) (HT.sIx x.length x.length hi - HT.sIx x.length 0 lo) (HT.sIx x.length 0 lo)
  by_cases hle:HT.sIx x.length 0 lo<=HT.sIx x.length x.length hi
  ·rw [<- this (by rw [hl];omega)]
   simp [tl]
  ·rw [show HT.sIx x.length x.length hi - HT.sIx x.length 0 lo=0 by omega];simp
theorem Gw {g:Str}{ps:List Str}{b:Nat}(h:∀ p∈ps,p.length<=b) (h2:ps.length * (b+g.length)<=10000):JoinOk g ps=true:=by
 have main:∀ (ps:List Str) (LQ:Nat),(∀ p∈ps,p.length<=b)->ps.foldl (λa p=>a+p.length+g.length) LQ<=LQ+ps.length * (b+g.length):=by
  intro ps
  induction ps with
  |nil=>intro LQ _;simp
  |cons p r ih =>
   intro LQ h
   have:=ih (LQ+p.length+g.length) λq hq=>h q (List.mem_cons_of_mem _ hq)
   have hp:=h p List.mem_cons_self
   simp only [List.foldl_cons,List.length_cons,Nat.add_mul,Nat.one_mul] at this ⊢
   omega
 have:=main ps 0 h
 unfold JoinOk Builtin.Str.tooLong
 rw [List.foldl_toArray]
 have hs:sizeLine=16777216:=sizeLine_eq
 simp only [Bool.not_eq_true',decide_eq_false_iff_not]
 omega
theorem Ba (zs:List Str):T2.eZ (zs.map T2.T.str)=some zs:=by
 induction zs with
 |nil=>rfl
 |cons a l ih=>simp [T2.sP,ih]
theorem Dm (d:Nat):Str.length ⟨#[d]⟩=1:=rfl
theorem qX:Str.length (Str.ofString " ")=1:=by decide +kernel
theorem mP:Str.length (Str.ofString "")=0:=by decide +kernel
theorem Do (g:Str){b:Nat}:∀ zs:List Str,(∀ y∈zs,y.length<=b)->(Txt.join g zs).length<=zs.length * (b+g.length):=by
 intro zs h
 rw [<- len,jH,<- len g]
 induction zs with
 |nil=>simp [aU]
 |cons y r ih =>
  have hy:=h y List.mem_cons_self
  rw [<- len] at hy
  have h3:=ih λq hq=>h q (List.mem_cons_of_mem _ hq)
  cases r with
  |nil=>simp only [List.map_cons,List.map_nil,aU,List.length_cons,List.length_nil];omega
  |cons y2 r2 =>
   simp only [List.map_cons,aU,List.length_append,List.length_cons,Nat.add_mul,Nat.one_mul] at h3 ⊢
   omega
theorem qY (g:List Nat):∀ (ps:List (List Nat)) (p:List Nat),p∈ps->p.length<=(aU g ps).length
 |[],_,h=>by cases h
 |[q],p,h=>by rw [List.mem_singleton.mp h];simp [aU]
 |q::q2::r,p,h=>by
  simp only [aU,List.length_append]
  rcases List.mem_cons.mp h with rfl|h
  ·omega
  ·have:=qY g (q2::r) p h
   omega
theorem qZ {a x:Str}(h:x∈Txt.split a " "):x.length<=a.length:=by
 have:=qY [32] _ _ (List.mem_map_of_mem (f:=tl) h)
 rw [mC,len,len] at this
 exact this
end Tm
namespace T2
open PySem PySem.Spec PyProof.Rows L2
section
variable {K:Fg}{X:Cx}{k:Nat}{f:Addr}{fd:FuncData}{ps:List Str}{LV:WSp}{x m:Str}{p pos apos cpos:Pos}{e o:Expr}{es:List Expr}{wa wb:WE}{wr:WA}{id ty:String}{g:GC}{gm:GM}{i:Nat}
theorem aa (i:Nat) (hN:X.N[i]?=some x:=by rfl) (hv:Vis X.env.scope x:=by first|exact Or.inl rfl|exact Or.inr (Or.inl rfl)|exact Or.inr (Or.inr rfl)) (hd:(x==("__debug__":Str))=false:=by decide)
  (P2:(x==("__classdict__":Str))=false:=by decide):QE K X (.Name x pos) (wV i):=IA (EN hN hv hd P2)
theorem cK {n:String}(hg:Gl X x) (hm:X.mg x=none) (hv:bootBuiltins x=some (.type n)) (hn:x ≠ "__name__":=by decide) (hd:(x==("__debug__":Str))=false:=by decide):QE K X (.Name x pos) (wC (.ty n)) :=
 oh (B8 (v:=.ty n) hg hm hv rfl hn hd) λ_ _=>.ty
theorem hE {n:Int}(hg:Gl X x) (hm:∃ tk,X.mg x=some (.int n tk)) (hd:(x==("__debug__":Str))=false:=by decide):QE K X (.Name x pos) (wC (.int n)):=by
 obtain ⟨tk,hm⟩:=hm
 exact oh (sx (v:=.int n) hg hm ⟨tk,rfl⟩ hd) λ_ _=>.int
theorem Gx (F:FnOk X.prog X.w X.K X.mg X.base CX0 k f fd ps (lSp K LV)) (D:Df X.K X.mg x f fd ps) (hr:Room k X.A) (hg:Gl X x) (ha:QA K X (e::es) wr)
  (MQ:(x==("__debug__":Str))=false:=by decide) (he:starEach (e::es) X.env=(false,eval e X.env)::starEach es X.env:=by rfl) (M6:(backTo pos (starEach es X.env)).any (·.1)=false:=by rfl) :
  QE K X (.Call (.Name x p) (e::es) [] pos) (ir LV [] wr):=FF (dvs:=[]) (λ_ _=>.nil) (Co F hr hg D.hm D.kp D.b .nil fY ha MQ he M6)
theorem Lj (hc:bf X (.builtin id) (lC K g)) (hg:Gl X x) (hm:X.mg x=none) (hv:bootBuiltins x=some (.builtin id)) (ha:QA K X (e::es) wr) (hn:x ≠ "__name__":=by decide) (MQ:(x==("__debug__":Str))=false:=by decide)
  (he:starEach (e::es) X.env=(false,eval e X.env)::starEach es X.env:=by rfl) (M6:(backTo pos (starEach es X.env)).any (·.1)=false:=by rfl):QE K X (.Call (.Name x p) (e::es) [] pos) (wCB g wr):=xg (AG hc hg hm hv ha hn MQ he M6)
theorem iA (hc:bf X (.type id) (lC K g)) (hg:Gl X x) (hm:X.mg x=none) (hv:bootBuiltins x=some (.type id)) (ha:QA K X (e::es) wr) (hn:x ≠ "__name__":=by decide) (MQ:(x==("__debug__":Str))=false:=by decide)
  (he:starEach (e::es) X.env=(false,eval e X.env)::starEach es X.env:=by rfl) (M6:(backTo pos (starEach es X.env)).any (·.1)=false:=by rfl):QE K X (.Call (.Name x p) (e::es) [] pos) (wCB g wr):=xg (zJ hc hg hm hv ha hn MQ he M6)
theorem Ll (hK:X.K=K) (pa:PlainAttrs ty) (slot:Slot ty m id) (Q4:typeOf (.builtin id)=pure (.type "method_descriptor")) (hm:MtR X id (lM K gm)) (ho:QE K X o wa) (ha:QA K X (e::es) wr)
  (h:∀ {to t r},PE X o to->MtR X id r->PA X (e::es) t->PE X (.Call (.Attribute o m apos) (e::es) [] cpos) (tBM X.K ty r to t)):QE K X (.Call (.Attribute o m apos) (e::es) [] cpos) (wBM ty gm wa wr):=by
 subst hK
 exact K0 (h ho hm ha)
theorem Dp {y:Str}{i:Nat}(hN:X.N.Nodup) (hi:X.N[i]?=some y) (hx:Loc X.env.scope y) (hf:X.fn y=true\/X.env.scope.names.lookup y=some .local:=by first|exact .inl rfl|exact .inr rfl|assumption):QG K X (.Name y pos) (wgN i):=CS (Cc hN hi hx hf)
theorem Gy {i:Expr}{wo wi:WE}{g:GS}(ho:QE K X o wo) (hi:QE K X i wi) (hs:dn X (fi K g))
  (h:∀ {to ti t},PE X o to->PE X i ti->dn X t->PG X (.Subscript o i pos) (L2.e8 to ti t)):QG K X (.Subscript o i pos) (wgS wo wi g):=FQ (h ho hi hs)
end
end T2
namespace T2
open PySem PySem.Spec PyProof.Rows L2 S6
theorem yj (a:Value):argsOk "sorted" ⟨[a],[]⟩:=by unfold argsOk;kernel_rfl
theorem xJ (a:Value):argsOk "list.sort" ⟨[a],[]⟩:=by unfold argsOk;kernel_rfl
theorem x8 (a:Addr):Builtin.«list.sort» ⟨[.ref a],[]⟩=iP a λitems before _=>pK items items (kO a before):=by rfl
def wg (tr:Bool):List T->Sto->(T->Sto->Prop)->Prop:=λts S Q=>∃ x xs κ k0,ts=[x]/\aT S x=some xs/\xs.length<64/\fit k0=true/\k0.dep<=30 /\
 (∀ t∈xs,Ky.ok (κ t)=true/\Ky.shp k0 (κ t)=true/\tre (κ t)=t)/\pM tr xs κ S Q
theorem Gz {X:Cx}{K:Fg}(tr:Bool) (hK:X.K=K) (hr:Room 2 X.A) :
  bf X (.builtin "sorted") (lC K (wg tr)):=by
 rintro pins s U H xs us Q I rv ⟨S,ts,Qt,sr,r1,⟨x,ls,κ,k0,e1,ev,Ps,hf,hd,hk,hq⟩,b⟩
 subst e1
 cases r1 with
 |cons rx Rf =>
 cases Rf
 obtain ⟨u,rfl,ru⟩:=bV rv
 refine qW hK I sr rx ru ev yj xJ x8 λL ep Hc s5 vs its rs Q5 hz J eL ek nL nk fc sc=>?_
 have rs5:=rs.fr fc
 refine sX hK Ps hf (by have:=hr.in1.in1.units;omega) J (λt ht=>⟨(hk t ht).1,(hk t ht).2.1⟩) rs5 Q5 (by rw [List.map_congr_left λt ht=>(hk t ht).2.2,List.map_id'];exact rs5) Q5 λst zs Ou Pp P5 p1 p2 out rz vz lz=>?_
 exact rW J eL P5 out vz (lz ▸ hz) λs' I8=>⟨.ref L,_,I8,rfl,rX b nL fc sc eL (sr.fresh nL) rz (hq _ p1 p2)⟩
theorem GA {α:Type}{S:Sto}{Q:T->Sto->Prop}{tr:Bool}{ls:List α}{x:T}(κ:α->Ky) (RW:T->Ky) (k0:Ky) (e:aT S x=some (ls.map λa=>tre (κ a))) (hT:∀ a∈ls,RW (tre (κ a))=κ a) (Ps:ls.length<64) (hf:fit k0=true) (hd:k0.dep<=30)
  (hk:∀ a∈ls,Ky.ok (κ a)=true/\Ky.shp k0 (κ a)=true)
  (h:∀ l':List α,l'.Perm ls->l'.Pairwise (λa b=>Ky.lt (κ b) (κ a)=false)->aZ tr (l'.map λa=>tre (κ a)) S Q):wg tr [x] S Q:=by
 refine ⟨x,ls.map λa=>tre (κ a),RW,k0,rfl,e,by rw [List.length_map];exact Ps,hf,hd,λt ht=>?_,λzs hp hs=>?_⟩
 ·obtain ⟨a,ha,rfl⟩:=List.mem_map.mp ht
  have:=hk a ha
  rw [hT a ha]
  exact ⟨this.1,this.2,rfl⟩
 ·obtain ⟨l',p,rfl⟩:=mX (λa=>tre (κ a)) hp rfl
  rw [List.pairwise_map] at hs
  refine h l' p (hs.imp_of_mem fun {a b} ha hb q=>?_)
  rw [hT a (p.mem_iff.mp ha),hT b (p.mem_iff.mp hb)] at q
  exact q
end T2
namespace T2
open PySem PySem.Spec PyProof.Rows L2
section
variable {κ:Type}[DecidableEq κ]
noncomputable def aP (kts:List (κ×T)) (k:κ):Option T:=(kts.find? λkv=>decide (kv.1=k)).map (·.2)
noncomputable def cF (kts:List (κ×T)) (k:κ) (t:T):List (κ×T) :=
 if (kts.any λkv=>decide (kv.1=k))=true then kts.map (λkv=>if kv.1=k then (kv.1,t) else kv) else kts++[(k,t)]
noncomputable def gj (kts:List (κ×T)) (k:κ):List (κ×T):=kts.filter λkv=>decide (kv.1≠k)
abbrev PrT (K:Fg) (H:Hp) (S:Sto):List (κ×T)->List (κ×V)->Prop:=Paired λ(p:κ×T) (q:κ×V)=>p.1=q.1/\Rp K H S p.2 q.2
variable {K:Fg}{H:Hp}{S:Sto}
theorem jq {k:κ}{t:T}:∀ {kts:List (κ×T)}{kvs:List (κ×V)},PrT K H S kts kvs->aP kts k=some t->∃ v,bg kvs k=some v/\Rp K H S t v:=by
 intro kts kvs pr
 induction pr with
 |nil=>intro e;cases e
 |@cons p q2 l l' er ps ih =>
  intro h
  obtain ⟨a,b⟩:=p;obtain ⟨c,d⟩:=q2;obtain ⟨e,r⟩:=er
  simp only at e;subst e
  unfold aP bg at *
  rw [List.find?_cons] at h ⊢
  by_cases z:a=k
  ·simp only [z,decide_true,Option.map_some,Option.some.injEq] at h ⊢
   subst h;exact ⟨d,rfl,r⟩
  ·simp only [z,decide_false] at h ⊢
   exact ih h
theorem mZ {k:κ}:∀ {kts:List (κ×T)}{kvs:List (κ×V)},PrT K H S kts kvs->(bg kvs k).isSome=(aP kts k).isSome:=by
 intro kts kvs pr
 induction pr with
 |nil=>exact rfl
 |@cons p q2 l l' er ps ih =>
  obtain ⟨a,b⟩:=p;obtain ⟨c,d⟩:=q2;obtain ⟨e,r⟩:=er
  simp only at e;subst e
  unfold aP bg
  rw [List.find?_cons,List.find?_cons]
  by_cases z:a=k
  ·simp [z]
  ·simp only [z,decide_false]
   exact ih
theorem GB {k:κ}:∀ {kts:List (κ×T)}{kvs:List (κ×V)},PrT K H S kts kvs->(kvs.any λkv=>decide (kv.1=k))=kts.any λkv=>decide (kv.1=k):=by
 intro kts kvs pr
 induction pr with
 |nil=>exact rfl
 |@cons p q2 l l' er ps ih =>
  obtain ⟨a,b⟩:=p;obtain ⟨c,d⟩:=q2;obtain ⟨e,r⟩:=er
  simp only at e;subst e
  rw [List.any_cons,List.any_cons,ih]
theorem Paired.app {α β:Type}{F:α->β->Prop}:∀ {a:List α}{b:List β}{c:List α}{d:List β},Paired F a b->Paired F c d->Paired F (a++c) (b++d)
 |_,_,_,_,.nil,r=>r
 |_,_,_,_,.cons h t,r=>.cons h (Paired.app t r)
theorem Dq {k:κ}{t:T}{v:V}(r:Rp K H S t v):∀ {kts:List (κ×T)}{kvs:List (κ×V)},PrT K H S kts kvs->PrT K H S (kts.map λkv=>if kv.1=k then (kv.1,t) else kv) (kvs.map λkv=>if kv.1=k then (kv.1,v) else kv):=by
 intro kts kvs pr
 induction pr with
 |nil=>exact .nil
 |@cons p q2 l l' er ps ih =>
  obtain ⟨a,b⟩:=p;obtain ⟨c,d⟩:=q2;obtain ⟨e,q⟩:=er
  simp only at e;subst e
  refine .cons ?_ (ih)
  dsimp only
  by_cases z:a=k
  ·rw [if_pos z,if_pos z];exact ⟨rfl,r⟩
  ·rw [if_neg z,if_neg z];exact ⟨rfl,q⟩
theorem uM {k:κ}{t:T}{v:V}(r:Rp K H S t v){kts:List (κ×T)}{kvs:List (κ×V)}(p:PrT K H S kts kvs):PrT K H S (cF kts k t) (bC kvs k v):=by
 unfold cF bC
 rw [GB p]
 split
 ·exact Dq r p
 ·exact Paired.app p (.cons ⟨rfl,r⟩ .nil)
theorem Ds {k:κ}:∀ {kts:List (κ×T)}{kvs:List (κ×V)},PrT K H S kts kvs->PrT K H S (gj kts k) (eY kvs k):=by
 intro kts kvs pr
 induction pr with
 |nil=>exact .nil
 |@cons p q2 l l' er ps ih =>
  obtain ⟨a,b⟩:=p;obtain ⟨c,d⟩:=q2;obtain ⟨e,q⟩:=er
  simp only at e;subst e
  unfold gj eY
  rw [List.filter_cons,List.filter_cons]
  by_cases z:a=k
  ·simp only [z,ne_eq,not_true,decide_false,Bool.false_eq_true,if_false];exact ih
  ·simp only [z,ne_eq,not_false_eq_true,decide_true,if_true];exact .cons ⟨rfl,q⟩ (ih)
end
noncomputable def keyT:Key->T
 |.inl i=>.int i
 |.inr x=>.str x
section
variable {K:Fg}{X:Cx}{H:Hp}{S:Sto}
theorem gk {t:T}{v:V}{k:Key}(r:Rp K H S t v) (e:cx t=some k):v=kV k:=by
 cases r<;>simp only [cx,Option.some.injEq,reduceCtorEq] at e<;>subst e<;>rfl
theorem jI (k:Key):Rp K H S (keyT k) (kV k):=by cases k<;>constructor
def RdT (w:World) (S:Sto) (a:Addr) (kts:List (Key×T)):Prop:=S a=some (.dK kts)\/∃ od kvs,S a=some (.fK w od kvs kts)
theorem kB {w:World}{a:Addr}{kts:List (Key×T)}(s:SRp K H S) (g:RdT w S a kts):∃ kvs,RdK w H a kvs/\PrT K H S kts kvs:=by
 rcases g with e|⟨od,kvs,e⟩
 ·cases s a _ e with
  |dK h p=>exact ⟨_,.inl h,p⟩
 ·cases s a _ e with
  |fK h p=>exact ⟨_,.inr ⟨_,h⟩,p⟩
theorem gr {a:Addr}{kts:List (Key×T)}(s:SRp K H S) (e:S a=some (.dK kts)):∃ kvs,H a=some (.dK kvs)/\PrT K H S kts kvs:=by
 cases s a _ e with
 |dK h p=>exact ⟨_,h,p⟩
theorem Bb {a:Addr}{kts us:List (Key×T)}{ws:List (Key×V)}{Qt:T->Sto->Prop}{Q:VK}{t:T}{v:V}(s:SRp K H S) (e:S a=some (.dK kts)) (p:PrT K H S us ws) (b:Bh K H S Qt Q) (r:Rp K H S t v) (q:Qt t (put S a (.dK us))):Q v (upd H a (.dK ws)):=by
 have hn:S a≠none:=by rw [e];simp
 have f:Fr H S (upd H a (.dK ws)) (put S a (.dK us)):=Fr.write hn
 exact b _ _ _ _ f (s.write hn (.dK aK (Paired.mapP p λ_ _ z=>⟨z.1,z.2.fr f⟩))) (r.fr f) q
def cM (w:World):G2:=λx y S Q=>∃ a kts k t,x=.ref a/\RdT w S a kts/\cx y=some k/\aP kts k=some t/\Q t S
theorem JE {o i:Expr}{wo wi:WE}{pos:Pos}(ho:QE K X o wo) (hi:QE K X i wi) (hs:fe i):QE K X (.Subscript o i pos) (w2 (cM X.w) wo wi):=PE.of (CP ho hi hs) λU H Q zz107=>by
 obtain ⟨S,LP,Qt,s,c,q,hq⟩:=zz107
 refine ⟨S,LP,_,s,c,q,λx H1 tx S1 f1 s1 r1 q1=>?_⟩
 refine ⟨S1,LP,_,s1,c.fr f1,q1,λy H2 ty S2 f2 s2 r2 q2=>?_⟩
 obtain ⟨a,kts,k,t,rfl,g,ek,l,q2⟩:=q2
 cases r1
 obtain ⟨kvs,hg,p⟩:=kB s2 g
 obtain ⟨v,lv,rv⟩:=jq p l
 exact ⟨a,kvs,k,v,rfl,hg,gk r2 ek,lv,hq v H2 t S2 (f1.trans f2) s2 rv q2⟩
def eG (w:World) (neg:Bool):G2:=λx y S Q=>∃ a kts k,y=.ref a/\RdT w S a kts/\cx x=some k/\Q (.bl (neg ^^ (aP kts k).isSome)) S
theorem JF:OpR X (compareOp .In) (l2 K (eG X.w false)):=by
 rintro pins s U H x y v u Q I rx ry ⟨S,tx,ty,Qt,sr,hx,hy,⟨a,kts,k,e,g,ek,q⟩,b⟩
 subst e
 cases hy
 cases (show u=Value.ref a from ry)
 obtain ⟨kvs,hg,p⟩:=kB sr g
 have:=gk hx ek
 subst this
 refine KS I hg rx λs' I'=>⟨.bl (bg kvs k).isSome,H,I',rfl,b _ H _ S .refl sr .bl ?_⟩
 rw [mZ p];simpa using q
theorem Bc:OpR X (compareOp .NotIn) (l2 K (eG X.w true)):=by
 rintro pins s U H x y v u Q I rx ry ⟨S,tx,ty,Qt,sr,hx,hy,⟨a,kts,k,e,g,ek,q⟩,b⟩
 subst e
 cases hy
 cases (show u=Value.ref a from ry)
 obtain ⟨kvs,hg,p⟩:=kB sr g
 have:=gk hx ek
 subst this
 refine CN I hg rx λs' I'=>⟨.bl (!(bg kvs k).isSome),H,I',rfl,b _ H _ S .refl sr .bl ?_⟩
 rw [mZ p];simpa using q
def kC:GS:=λo i v S Q=>∃ a kts k,o=.ref a/\S a=some (.dK kts)/\cx i=some k/\kts.length<sizeLine/\Q (put S a (.dK (cF kts k v)))
theorem cu (hu:X.A.units+1<cLine):dn X (fi K kC):=by
 rintro pins s U H o i v ov iv u Q I ro ri rv ⟨S,to,ti,tv,Qt,sr,hO,hI,hV,⟨a,kts,k,e,ea,ek,hl,q⟩,b⟩
 subst e
 cases hO
 cases (show ov=Value.ref a from ro)
 obtain ⟨kvs,hk,p⟩:=gr sr ea
 have:=gk hI ek
 subst this
 have hn:S a≠none:=by rw [ea];simp
 refine qR hu I (e9.k hk (by rw [Paired.len p];exact hl)) ri rv λs' I'=>⟨_,I',?_⟩
 exact b _ _ (Fr.write hn) (sr.write hn (.dK aK (Paired.mapP (uM hV p) λ_ _ z=>⟨z.1,z.2.fr (Fr.write hn)⟩))) q
def pj:GM:=λx ts S Q=>∃ a kts y k t,x=.ref a/\ts=[y]/\S a=some (.dK kts)/\cx y=some k/\aP kts k=some t/\Q t (put S a (.dK (gj kts k)))
theorem hJ:MtR X "dict.pop" (lM K pj):=by
 rintro pins s U H x xs v us Q I rx rv ⟨S,t,ts,Qt,sr,hx,rs,⟨a,kts,y,k,t',e,e2,ea,ek,l,q⟩,b⟩
 subst e e2
 cases hx
 cases rs with
 |cons ry rn =>
  cases rn
  obtain ⟨kvs,hk,p⟩:=gr sr ea
  obtain ⟨w',lw,OW⟩:=jq p l
  have:=gk ry ek
  subst this
  exact CQ pins s U H _ _ v us Q I rx rv ⟨a,kvs,k,w',rfl,rfl,hk,lw,Bb sr ea (Ds p) b OW q⟩
def wj:WE:=λ_ S Q=>∀ p,S p=none->Q (.ref p) (put S p (.dK []))
theorem eS {pos:Pos}:QE K X (.Dict [] [] pos) wj:=PE.of AQ λU H Q ⟨S,LP,Qt,s,c,q,hq⟩=>λp hp =>
 hq _ _ (.ref p) _ (Fr.newT hp) (s.newT hp (.dK aK .nil)) .ref (q p (s.fresh hp))
def on (w:World) (tr:Bool):GC:=λts S Q=>∃ a kts,ts=[.ref a]/\RdT w S a kts/\aZ tr (kts.map λkv=>keyT kv.1) S Q
theorem Du:∀ {kts:List (Key×T)}{kvs:List (Key×V)},PrT K H S kts kvs->Rps K H S (kts.map λkv=>keyT kv.1) (kvs.map λkv=>kV kv.1):=by
 intro kts kvs pr
 induction pr with
 |nil=>exact .nil
 |@cons p q2 l l' er ps ih =>
  obtain ⟨a,b⟩:=p;obtain ⟨c,d⟩:=q2;obtain ⟨e,r⟩:=er
  simp only at e;subst e
  exact .cons (jI a) (ih)
theorem Dv (tr:Bool) (hc:X.calm=true):bf X (.type "list") (lC K (on X.w tr)):=by
 rintro pins s U H xs us Q I r ⟨S,ts,Qt,sr,rs,⟨a,kts,e,g,n⟩,b⟩
 subst e
 cases rs with
 |cons h rn =>
  cases rn
  cases h
  obtain ⟨u,rfl,ru⟩:=bV r
  cases (show u=Value.ref a from ru)
  obtain ⟨kvs,hg,p⟩:=kB sr g
  exact FD hc I hg (dH sr (Du p) n b)
noncomputable def kD (kv:Key×T):T:=.tup [keyT kv.1,kv.2]
def wiK (w:World) (wa:WE):WI:=λU S R=>wa U S λx S1=>∃ d kts,x=.ref d/\S1 d=some (.dK kts)/\∀ od kvs,R ⟨kts.map λkv=>keyT kv.1,λS'=>S' d=some (.fK w od kvs kts)⟩ (put S1 d (.fK w od kvs kts))
def wiP (w:World) (wa:WE):WI:=λU S R=>wa U S λx S1=>∃ d kts,x=.ref d/\S1 d=some (.dK kts)/\∀ od kvs,R ⟨kts.map kD,λS'=>S' d=some (.fK w od kvs kts)⟩ (put S1 d (.fK w od kvs kts))
theorem tf {w:World}{d:Addr}{od:Obj}{kts:List (Key×T)}{kvs:List (Key×V)}(s:SRp K H S) (e:S d=some (.dK kts)) (p:PrT K H S kts kvs) :
  Fr H S (upd H d (fzH w d od kvs)) (put S d (.fK w od kvs kts))/\SRp K (upd H d (fzH w d od kvs)) (put S d (.fK w od kvs kts)):=by
 have hn:S d≠none:=by rw [e];simp
 exact ⟨Fr.write hn,s.write hn (.fK aK (Paired.mapP p λ_ _ z=>⟨z.1,z.2.fr (Fr.write hn)⟩))⟩
theorem Dw {tg l:Expr}{wa:WE}(hl:QE K X l wa):QI K X tg l (wiK X.w wa):=PI.of (CO hl) λU H R zz108=>by
 obtain ⟨S,LP,Rt,s,c,q,hq⟩:=zz108
 refine ⟨S,LP,_,s,c,q,λx H1 tx S1 f1 s1 r1 q1=>?_⟩
 obtain ⟨d,kts,rfl,ed,q1⟩:=q1
 cases r1
 obtain ⟨kvs,hk,p⟩:=gr s1 ed
 refine ⟨d,kvs,rfl,hk,λod=>?_⟩
 obtain ⟨f2,s2⟩:=tf (w:=X.w) (od:=od) s1 ed p
 refine hq _ _ _ _ (f1.trans f2) s2 ⟨?_,?_,?_⟩ (q1 od kvs)
 ·intro H' S' i f' s' g hi
  cases s' d _ g with
  |fK h p' =>
   dsimp only at hi
   rw [List.length_map] at hi
   exact ⟨h,by rw [Paired.len p'];exact hi⟩
 ·rintro H' S' i x H'' f' s' g hi ⟨e,kv,ek,ex⟩
  subst e ex
  cases s' d _ g with
  |fK h p' =>
   obtain ⟨kt,e1,e2⟩:=iJ p' ek
   refine ⟨keyT kt.1,by rw [List.getElem?_map,e1];rfl,.refl,s',?_⟩
   rw [e2.1];exact jI _
 ·intro H' S' f' s' g
  cases s' d _ g with
  |fK h p'=>exact ⟨h,by rw [Paired.len p',List.length_map];exact Nat.le_refl _⟩
theorem Bd {o:Expr}{wa:WE}{Qn:List Expr}{x1:Nat}{NP apos cpos:Pos}(ho:QE K X o wa) (hK:X.K=K)
  (Nt:attributeBase o "items" X.env (eval o X.env)=eval o X.env:=by rfl) (NQ:(apos.endLine==cpos.line)=true:=by rfl):QI K X (.Tuple Qn x1 NP) (.Call (.Attribute o "items" apos) [] [] cpos) (wiP X.w wa):=by
 subst hK
 refine PI.of (AV (Fo PySem.F.plainAttrs_dict PySem.F.slot_dict_items PySem.F.type_dict_items AU ho Nt NQ)) λU H R zz109=>?_
 obtain ⟨S,LP,Rt,s,c,q,hq⟩:=zz109
 refine ⟨S,LP,_,s,c,q,λx H1 tx S1 f1 s1 r1 q1=>?_⟩
 obtain ⟨d,kts,rfl,ed,q1⟩:=q1
 cases r1
 obtain ⟨kvs,hk,p⟩:=gr s1 ed
 refine ⟨.inr (.inr (.inl ⟨rfl,.inl ⟨_,hk⟩⟩)),d,kvs,rfl,rfl,hk,λv hv=>?_⟩
 have nd:d≠v:=bL hk hv
 refine ⟨v,d,kvs,rfl,aK,by rw [aG nd];exact hk,λod=>?_⟩
 have fv:Fr H1 S1 (upd H1 v (ig v d)) S1:=Fr.new hv
 obtain ⟨f2,s2⟩:=tf (w:=X.w) (od:=od) (s1.new (u:=ig v d) hv) ed (Paired.mapP p λ_ _ z=>⟨z.1,z.2.fr fv⟩)
 refine hq _ _ _ _ ((f1.trans fv).trans f2) s2 ⟨?_,?_,?_⟩ (q1 od kvs)
 ·intro H' S' i f' s' g hi
  cases s' d _ g with
  |fK h p' =>
   dsimp only at hi
   rw [List.length_map] at hi
   exact ⟨h,by rw [Paired.len p'];exact hi⟩
 ·rintro H' S' i x H'' f' s' g hi ⟨pp,kv,ek,hp,ex,eH⟩
  subst eH ex
  cases s' d _ g with
  |fK h p' =>
   obtain ⟨kt,e1,e2⟩:=iJ p' ek
   refine ⟨kD kt,by rw [List.getElem?_map,e1];rfl,Fr.new hp,s'.new hp,?_⟩
   refine .tup (s'.fresh hp) aK (.cons ?_ (.cons (e2.2.fr (Fr.new hp)) .nil))
   rw [e2.1];exact jI _
 ·intro H' S' f' s' g
  cases s' d _ g with
  |fK h p'=>exact ⟨h,by rw [Paired.len p',List.length_map];exact Nat.le_refl _⟩
def pN (w:World) (we:WE):WE:=λU S Q=>we U S λt S'=>∃ d od kvs kts,S' d=some (.fK w od kvs kts)/\Q t (put S' d (.dK kts))
def pO (w:World) (u:WS):WS:=λD U S=>u { D with nx:=λLO S'=>∃ d od kvs kts,S' d=some (.fK w od kvs kts)/\D.nx LO (put S' d (.dK kts)) } U S
theorem tj {w:World}{d:Addr}{od:Obj}{kts:List (Key×T)}{kvs:List (Key×V)}(s:SRp K H S) (e:S d=some (.fK w od kvs kts)) :
  H d=some (fzH w d od kvs)/\Fr H S (upd H d (.dK kvs)) (put S d (.dK kts))/\SRp K (upd H d (.dK kvs)) (put S d (.dK kts)):=by
 have hn:S d≠none:=by rw [e];simp
 cases s d _ e with
 |fK h p=>exact ⟨h,Fr.write hn,s.write hn (.dK aK (Paired.mapP p λ_ _ z=>⟨z.1,z.2.fr (Fr.write hn)⟩))⟩
theorem JG {e:Expr}{we:WE}(h:QE K X e we):QE K X e (pN X.w we):=PE.of (PE.unf h) λU H Q zz110=>by
 obtain ⟨S,LP,Qt,s,c,q,hq⟩:=zz110
 refine ⟨S,LP,_,s,c,q,λv H1 t S1 f1 s1 r1 q1=>?_⟩
 obtain ⟨d,od,kvs,kts,e,q1⟩:=q1
 obtain ⟨h1,f2,s2⟩:=tj s1 e
 exact ⟨d,od,kvs,h1,hq v _ t _ (f1.trans f2) s2 (r1.fr f2) q1⟩
theorem JH {st:Stmt}{u:WS}(h:QS K X st u):QS K X st (pO X.w u):=PS.of (PS.unf h) λD U H zz111=>by
 obtain ⟨S,LP,Dt,s,c,q,he⟩:=zz111
 refine ⟨S,LP,_,s,c,q,⟨λLO H' L1 S' f s' c' q'=>?_,he.rt,he.bk,he.ct⟩⟩
 obtain ⟨d,od,kvs,kts,e,q1⟩:=q'
 obtain ⟨h1,f2,s2⟩:=tj s' e
 exact ⟨d,od,kvs,h1,he.nx LO _ L1 _ (f.trans f2) s2 (c'.fr f2) q1⟩
end
section
variable {K:Fg}{X:Cx}{k:Nat}{f C:Addr}{fd:FuncData}{ps:List Str}{LV:WSp}{x m fl:Str}{p pos apos cpos MA:Pos}{e o value:Expr}{es:List Expr}{wa wv:WE}{wr:WA}{G:Addr->Prop}
theorem nG (M:Mk X.K C f) (F:FnOk X.prog X.w X.K X.mg X.base CX0 k f fd ["self"] (lSp K LV)) (hb:aw X.K fd ["self"] []) (hr:Room (k+1) X.A) (hg:Gl X x) (hm:X.mg x=some (.ref C)) (MQ:(x==("__debug__":Str))=false:=by decide) :
  QE K X (.Call (.Name x p) [] [] pos) (ix C LV [] eu):=CV (dvs:=[]) (λ_ _=>.nil) (AF M F hr hg hm hb .nil fY MQ)
theorem aY {pl:Sem Bool}(hG:∀ C,G C->Cls X.K C/\Meth X.K C m f) (F:FnOk X.prog X.w X.K X.mg X.base CX0 k f fd ps (lSp K LV)) (hb:aw X.K fd ps []) (hr:Room k X.A) (ho:QE K X o wa) (ha:QA K X (e::es) wr)
  (QM:starEach (e::es) X.env=(false,eval e X.env)::starEach es X.env:=by rfl) (M6:(backTo pos (starEach es X.env)).any (·.1)=false:=by rfl)
  (ht:eval (.Call (.Attribute o m apos) (e::es) [] pos) X.env=(do
   let ov <- eval o X.env
   standAt apos.atName
   let (f,first) <- holding [ov] (getMethod ov m pl)
   callWith pos f first (backTo pos (starEach (e::es) X.env)) (backToKw pos (keywordEach [] X.env))):=by rfl) :
  QE K X (.Call (.Attribute o m apos) (e::es) [] pos) (d3 G m LV [] wa wr):=ut (dvs:=[]) (λ_ _=>.nil) (rN (pl:=pl) ho hG F hr hb .nil fY ha QM M6 ht)
theorem c9 {pl:Sem Bool}(hG:∀ C,G C->Cls X.K C/\Meth X.K C m f) (F:FnOk X.prog X.w X.K X.mg X.base CX0 k f fd ps (lSp K LV)) (hb:aw X.K fd ps []) (hr:Room k X.A) (ho:QE K X o wa)
  (ht:eval (.Call (.Attribute o m apos) [] [] pos) X.env=(do
   let ov <- eval o X.env
   standAt apos.atName
   let (f,first) <- holding [ov] (getMethod ov m pl)
   callWith pos f first (backTo pos (starEach [] X.env)) (backToKw pos (keywordEach [] X.env))):=by rfl) :
  QE K X (.Call (.Attribute o m apos) [] [] pos) (d3 G m LV [] wa eu):=CU (dvs:=[]) (λ_ _=>.nil) (zU (pl:=pl) ho hG F hr hb .nil fY ht)
theorem JI (hK:X.K=K) (hG:∀ C,G C->Cls K C/\aN K C fl) (he:QE K X o wa) (hb:attributeBase o fl X.env (eval o X.env)=eval o X.env:=by rfl):QE K X (.Attribute o fl pos) (kL G wa fl):=IE hK hG he hb
theorem JJ (w:World){i:Expr}{wi:WE}(hw:X.w=w) (ho:QE K X o wa) (hi:QE K X i wi) (hs:fe i):QE K X (.Subscript o i pos) (w2 (cM w) wa wi):=by subst hw;exact JE ho hi hs
theorem bJ (w:World) (hw:X.w=w):OpR X (compareOp .In) (l2 K (eG w false)):=by subst hw;exact JF
theorem eN (w:World) (hw:X.w=w):OpR X (compareOp .NotIn) (l2 K (eG w true)):=by subst hw;exact Bc
theorem Dx (w:World) (tr:Bool) (hw:X.w=w) (hc:X.calm=true):bf X (.type "list") (lC K (on w tr)):=by subst hw;exact Dv tr hc
theorem GD (w:World){tg l:Expr}(hw:X.w=w) (hl:QE K X l wa):QI K X tg l (wiK w wa):=by subst hw;exact Dw hl
theorem Dy (w:World){Qn:List Expr}{x1:Nat}{NP:Pos}(hw:X.w=w) (hK:X.K=K) (ho:QE K X o wa)
  (Nt:attributeBase o "items" X.env (eval o X.env)=eval o X.env:=by rfl) (NQ:(apos.endLine==cpos.line)=true:=by rfl):QI K X (.Tuple Qn x1 NP) (.Call (.Attribute o "items" apos) [] [] cpos) (wiP w wa):=by subst hw;exact Bd ho hK Nt NQ
theorem JK (w:World) (hw:X.w=w) (h:QE K X e wa):QE K X e (pN w wa):=by subst hw;exact JG h
theorem JL (w:World){st:Stmt}{u:WS}(hw:X.w=w) (h:QS K X st u):QS K X st (pO w u):=by subst hw;exact JH h
structure FunD (K:Fg) (x qual:Str) (st:Stmt) (f:Addr) (fd:FuncData):Prop where
 ex:∃ (oc:Value) (od:Option Addr) (dV kV doc pm:Value) (an:Option Addr) (cdv ct:Value) (osl:Array (Option Value)),
  fd=PySem.W.fnOf x qual (cA st) (bR st) (av st) dV kV doc pm an cdv ct/\K.lookup f=some ⟨oc,od,.func fd,osl⟩/\PySem.W.codeIn K cdv qual=true
theorem Fun.toD {x qual:Str}{st:Stmt}(F:Fun K x qual st f fd):FunD K x qual st f fd:=by
 obtain ⟨oc,od,kV,doc,pm,an,cdv,ct,osl,h⟩:=F.ex
 exact ⟨⟨oc,od,.none,kV,doc,pm,an,cdv,ct,osl,h⟩⟩
theorem Dz {P:Program}{w:World}{mg:Str->Option Value}{base:Heap}{x qual:Str}{st:Stmt}{N:List Str}(F:FunD K x qual st f fd) (Sc:FnScope N ps (av st)) (len:∀ ts S Q,LV ts S Q->ts.length=ps.length)
  (Nr:∀ (cdv:Value) (A:Around) (outer:List Env) (s:Shared) (H:Hp) (E:XK),Room k (A.deeper (envOfC qual (av st) s.heap.objs.size f cdv)) ->
   ∃ u,QSs K (c3 CX0 P w K mg base N qual (av st) f cdv A outer s H E).nox (bR st) u/\∀ ts S Q,LV ts S Q->u { nx:=λ_ S'=>Fin Q .non S',rt:=Fin Q } (b7 N ts) S):FnOk P w K mg base CX0 (k+1) f fd ps (lSp K LV):=by
 obtain ⟨oc,od,dV,kV,doc,pm,an,cdv,ct,osl,rfl,lk,P2⟩:=F.ex
 refine o6 lk P2 Sc (λvs H Q E ⟨S,ts,Qt,s,r,q,_⟩=>by rw [r.length];exact len _ _ _ q) λA outer s H vs Q E hr ⟨S,ts,Qt,sr,r,q,b⟩=>?_
 obtain ⟨u,hu,hq⟩:=Nr cdv A outer s H E hr
 exact ⟨_,L2.PSs.nox hu,S,b7 N ts,_,sr,mL r,hq ts S Qt q,⟨λ_ H' _ S' f s' _ q'=>Fin.ends b f s' .non q',λv H' t S' f s' r' q'=>Fin.ends b f s' r' q',λ_ _ _ _ _ _ _ q'=>q'.elim,λ_ _ _ _ _ _ _ q'=>q'.elim⟩⟩
end
section
variable {U:StT}{S:Sto}{D:EndsT}{Q:T->Sto->Prop}{R:Prop}{w:World}{a d C:Addr}{G:Addr->Prop}{fs:List (Str×T)}{m fl:Str}{t:T}{x y:T}{kts:List (Key×T)}{k:Key}{i:Int}
theorem GF {LV:WSp}{wr:WA}(h:wr U S λts S1=>∀ x,S1 x=none->LV (.ref x::(ts++[])) (put S1 x (.ins C [])) (λt S2=>t=.non/\Q (.ref x) S2)):ix C LV [] wr U S Q:=h
theorem GG {LV:WSp}{NJ:List T}{wa:WE}{wr:WA}(h:wa U S λx S1=>∃ a C fs,x=.ref a/\S1 a=some (.ins C fs)/\G C/\fs.lookup m=none/\wr U S1 λts S2=>LV (x::(ts++NJ)) S2 Q):d3 G m LV NJ wa wr U S Q:=h
theorem GH (e:S a=some (.ins C fs)) (g:G C) (l:fs.lookup m=none) (h:R):∃ a' C' M7,T.ref a=.ref a'/\S a'=some (.ins C' M7)/\G C'/\M7.lookup m=none/\R:=⟨a,C,fs,rfl,e,g,l,h⟩
theorem JM {wa:WE}(h:wa U S λx S1=>∃ a C fs v,x=.ref a/\S1 a=some (.ins C fs)/\G C/\fs.lookup fl=some v/\Q v S1):kL G wa fl U S Q:=h
theorem JN {P:T->Prop}(e:S a=some (.ins C fs)) (g:G C) (l:fs.lookup fl=some t) (h:P t):∃ a' C' M7 v,T.ref a=.ref a'/\S a'=some (.ins C' M7)/\G C'/\M7.lookup fl=some v/\P v:=⟨a,C,fs,t,rfl,e,g,l,h⟩
theorem GI {wa wv:WE}(h:wv U S λy S1=>wa U S1 λx S2=>∃ a C fs,x=.ref a/\S2 a=some (.ins C fs)/\G C/\fs.length<1000/\D.nx U (put S2 a (.ins C (cf fl y fs)))):vT G wa wv fl D U S:=h
theorem eT {P:Addr->Addr->List (Str×T)->Prop}(e:S a=some (.ins C fs)) (g:G C) (l:fs.length<1000) (h:P a C fs):∃ a' C' M7,T.ref a=.ref a'/\S a'=some (.ins C' M7)/\G C'/\M7.length<1000/\P a' C' M7:=⟨a,C,fs,rfl,e,g,l,h⟩
theorem DA {wa wv:WE}(h:wa U S λx S1=>∃ a C fs i,x=.ref a/\S1 a=some (.ins C fs)/\G C/\fs.lookup fl=some (.int i) /\
 wv U S1 λy S2=>∃ j M7,y=.int j/\S2 a=some (.ins C M7)/\M7.length<1000/\D.nx U (put S2 a (.ins C (cf fl (.int (i+j)) M7)))):rO G wa wv fl D U S:=h
theorem DB {P:Addr->Addr->Int->Prop}(e:S a=some (.ins C fs)) (g:G C) (l:fs.lookup fl=some (.int i)) (h:P a C i):∃ a' C' M7 i',T.ref a=.ref a'/\S a'=some (.ins C' M7)/\G C'/\M7.lookup fl=some (.int i')/\P a' C' i':=⟨a,C,fs,i,rfl,e,g,l,h⟩
theorem Be {P:Int->List (Str×T)->Prop}{j:Int}(e:S a=some (.ins C fs)) (l:fs.length<1000) (h:P j fs):∃ j' M7,T.int j=.int j'/\S a=some (.ins C M7)/\M7.length<1000/\P j' M7:=⟨j,fs,rfl,e,l,h⟩
theorem JO {u:WS}(h:u { D with nx:=λLO S'=>∃ d od kvs kts,S' d=some (.fK w od kvs kts)/\D.nx LO (put S' d (.dK kts)) } U S):pO w u D U S:=h
theorem JP {we:WE}(h:we U S λt S'=>∃ d od kvs kts,S' d=some (.fK w od kvs kts)/\Q t (put S' d (.dK kts))):pN w we U S Q:=h
theorem GJ (h:∀ p,S p=none->Q (.ref p) (put S p (.dK []))):wj U S Q:=h
theorem dL (e:S a=some (.dK kts)) (ek:cx y=some k) (l:aP kts k=some t) (h:Q t S):cM w (.ref a) y S Q:=⟨a,kts,k,t,rfl,.inl e,ek,l,h⟩
theorem JQ {od:Obj}{kvs:List (Key×V)}(e:S a=some (.fK w od kvs kts)) (ek:cx y=some k) (l:aP kts k=some t) (h:Q t S):cM w (.ref a) y S Q:=⟨a,kts,k,t,rfl,.inr ⟨od,kvs,e⟩,ek,l,h⟩
theorem bG {n:Bool}(e:S a=some (.dK kts)) (ek:cx x=some k) (h:Q (.bl (n ^^ (aP kts k).isSome)) S):eG w n x (.ref a) S Q:=⟨a,kts,k,rfl,.inl e,ek,h⟩
theorem eU {v:T}{Q:Sto->Prop}(e:S a=some (.dK kts)) (ek:cx y=some k) (l:kts.length<sizeLine) (h:Q (put S a (.dK (cF kts k v)))):kC (.ref a) y v S Q:=⟨a,kts,k,rfl,e,ek,l,h⟩
theorem jV (e:S a=some (.dK kts)) (ek:cx y=some k) (l:aP kts k=some t) (h:Q t (put S a (.dK (gj kts k)))):pj (.ref a) [y] S Q:=⟨a,kts,y,k,t,rfl,rfl,e,ek,l,h⟩
theorem JR {R:Prop}(e:S a=some (.dK kts)) (h:R):tyM "dict" S (.ref a)/\R:=⟨by delta tyM;dsimp only;rw [e],h⟩
theorem DC {tr:Bool}(e:S a=some (.dK kts)) (h:aZ tr (kts.map λkv=>keyT kv.1) S Q):on w tr [.ref a] S Q:=⟨a,kts,rfl,.inl e,h⟩
theorem Lm {wa:WE}{R:Src->Sto->Prop}(h:wa U S λx S1=>∃ d kts,x=.ref d/\S1 d=some (.dK kts)/\∀ od kvs,R ⟨kts.map λkv=>keyT kv.1,λS'=>S' d=some (.fK w od kvs kts)⟩ (put S1 d (.fK w od kvs kts))):wiK w wa U S R:=h
theorem Ln {wa:WE}{R:Src->Sto->Prop}(h:wa U S λx S1=>∃ d kts,x=.ref d/\S1 d=some (.dK kts)/\∀ od kvs,R ⟨kts.map kD,λS'=>S' d=some (.fK w od kvs kts)⟩ (put S1 d (.fK w od kvs kts))):wiP w wa U S R:=h
theorem Lo {P:Addr->List (Key×T)->Prop}(e:S d=some (.dK kts)) (h:P d kts):∃ d' Rg,T.ref d=.ref d'/\S d'=some (.dK Rg)/\P d' Rg:=⟨d,kts,rfl,e,h⟩
theorem xm {P:Addr->List (Key×T)->Prop}{od:Obj}{kvs:List (Key×V)}(e:S d=some (.fK w od kvs kts)) (h:P d kts):∃ d' od' RV Rg,S d'=some (.fK w od' RV Rg)/\P d' Rg:=⟨d,od,kvs,kts,e,h⟩
end
end T2
namespace L2
open PySem PySem.Spec PyProof.Rows
end L2
namespace T2
open PySem PySem.Spec PyProof.Rows L2
section
variable {K:Fg}{X:Cx}{H:Hp}{S:Sto}
theorem JS {U:StT}{wa wb:WE}{R:Src->Sto->Prop}(h:wa U S λx S1=>wb U S1 λy S2=>match x,y with
 |.int i,.int j=>(-(2 ^ 62)<=i/\i<2 ^ 62 /\ -(2 ^ 62)<=j/\j<2 ^ 62)/\R ⟨bT i (j - i).toNat,λ_=>True⟩ S2
 |_,_=>False):xf wa wb U S R:=h
theorem GK {i j:Int}{A:Prop}(h0:-(2 ^ 62)<=i) (h1:i<2 ^ 62) (h2:-(2 ^ 62)<=j) (h3:j<2 ^ 62) (h:A):(-(2 ^ 62)<=i/\i<2 ^ 62 /\ -(2 ^ 62)<=j/\j<2 ^ 62)/\A:=⟨⟨h0,h1,h2,h3⟩,h⟩
theorem oo {k:Nat}{f C:Addr}{fd:FuncData}{ps:List Str}{LV:WSp}{x:Str}{p pos:Pos}{e:Expr}{es:List Expr}{wr:WA}(M:Mk X.K C f) (F:FnOk X.prog X.w X.K X.mg X.base CX0 k f fd ps (lSp K LV)) (hb:aw X.K fd ps []) (hr:Room (k+1) X.A) (hg:Gl X x) (hm:X.mg x=some (.ref C))
  (ha:QA K X (e::es) wr) (MQ:(x==("__debug__":Str))=false:=by decide) (he:starEach (e::es) X.env=(false,eval e X.env)::starEach es X.env:=by rfl) (M6:(backTo pos (starEach es X.env)).any (·.1)=false:=by rfl) :
  QE K X (.Call (.Name x p) (e::es) [] pos) (ix C LV [] wr):=FG (dvs:=[]) (λ_ _=>.nil) (Cq M F hr hg hm hb .nil fY ha MQ he M6)
end
end T2
namespace T2
open PySem PySem.Spec PyProof.Rows L2 S6
section
variable {K:Fg}{X:Cx}{H:Hp}{S:Sto}
def uN (k1 k2:Str) (w1 w2:WE):WE:=λU S Q=>∀ p,S p=none->w1 U (put S p (.dK [])) λt1 S1=>w2 U S1 λt2 S2=>S2 p=some (.dK [])/\Q (.ref p) (put S2 p (.dK [(.inr k1,t1),(.inr k2,t2)]))
theorem tm {k1 k2:Str}{v1 v2:Expr}{j1 j2:Nat}{p1 p2 pos:Pos}{w1 w2:WE}(Oq:k1≠k2) (h1:QE K X v1 w1) (h2:QE K X v2 w2):QE K X (.Dict [some (.Constant (.str k1) j1 p1),some (.Constant (.str k2) j2 p2)] [v1,v2] pos) (uN k1 k2 w1 w2):=by
 refine PE.of (sJ (fG dF h1 (fG dF h2 sI)) rfl rfl (by simp) (Nat.le_of_ble_eq_true rfl)) λU H Q zz112=>?_
 obtain ⟨S,LP,Qt,s,c,q,hq⟩:=zz112
 intro p hp
 have f0:Fr H S (upd H p (.dK [])) (put S p (.dK [])):=Fr.newT hp
 have s0:=s.newT hp (u:=.dK []) (o:=.dK []) (.dK aK .nil)
 refine ⟨put S p (.dK []),LP,_,s0,c.fr f0,q p (s.fresh hp),λx1 H1 t1 S1 f1 sr1 r1 q1=>?_⟩
 refine ⟨S1,LP,_,sr1,(c.fr f0).fr f1,q1,λx2 H2 t2 S2 f2 sr2 r2 q2=>?_⟩
 obtain ⟨e2,q2⟩:=q2
 obtain ⟨kvs,hk,pr⟩:=gr sr2 e2
 cases pr
 refine ⟨hk,[(.inr k1,x1),(.inr k2,x2)],rfl,Nat.le_of_ble_eq_true rfl,?_⟩
 have em:dG [] [((.inr k1:Key),x1),(.inr k2,x2)]=[(.inr k1,x1),(.inr k2,x2)]:=by
  simp [dG,bC,Oq]
 rw [em]
 have hn:S2 p≠none:=by rw [e2];simp
 have fw:Fr H2 S2 (upd H2 p (.dK [(.inr k1,x1),(.inr k2,x2)])) (put S2 p (.dK [(.inr k1,t1),(.inr k2,t2)])):=Fr.write hn
 exact hq _ _ _ _ (((f0.trans f1).trans f2).trans fw) (sr2.write hn (.dK aK (.cons ⟨rfl,(r1.fr f2).fr fw⟩ (.cons ⟨rfl,r2.fr fw⟩ .nil)))) .ref q2
theorem DD {U:StT}{Q:T->Sto->Prop}{k1 k2:Str}{w1 w2:WE}(h:∀ p,S p=none->w1 U (put S p (.dK [])) λt1 S1=>w2 U S1 λt2 S2=>S2 p=some (.dK [])/\Q (.ref p) (put S2 p (.dK [(.inr k1,t1),(.inr k2,t2)]))):uN k1 k2 w1 w2 U S Q:=h
end
end T2
namespace L2
open PySem PySem.Spec PyProof.Rows
end L2
namespace T2
open PySem PySem.Spec PyProof.Rows L2
section
variable {K:Fg}{X:Cx}
end
section
variable {K:Fg}{X:Cx}{e:Expr}{wa:WE}
def xn (wa:WE):WT:=λU S B=>wa U S λx S1=>∃ ts,aT S1 x=some ts/\B (!ts.isEmpty) S1
theorem z9 {H:Hp}{S:Sto}{ts:List T}{vs:List V}(r:Rps K H S ts vs):vs.isEmpty=ts.isEmpty:=by cases r<;>rfl
theorem Bf (hK:X.K=K) (h:QE K X e wa) (he:∀ whole,isTrue e X.env whole=(do let v <- whole;standAt e.pos;holding [v] (truthy v)):=by intro _;rfl):QT K X e (xn wa):=PT.of (AC h he) λU H Q zz113=>by
 obtain ⟨S,LP,Qt,s,c,q,hq⟩:=zz113
 subst hK
 refine ⟨S,LP,_,s,c,q,λv H1 t S1 f1 s1 r1 zz114=>?_⟩
 obtain ⟨ts,ev,q1⟩:=zz114
 obtain ⟨p,vs,rfl,hS,rs⟩:=cz s1 r1 ev
 exact ⟨!vs.isEmpty,.inl ⟨vs,hS,rfl⟩,hq _ H1 S1 f1 s1 (by rw [z9 rs];exact q1)⟩
theorem JT {U:StT}{S:Sto}{B:Bool->Sto->Prop}(h:wa U S λx S1=>∃ ts,aT S1 x=some ts/\B (!ts.isEmpty) S1):xn wa U S B:=h
end
end T2
namespace Xc
open PySem
structure Ent (fr:List Addr) (e:Addr) (oe:Obj) (h h':Heap):Prop where
 it:∃ T o ts,h.objs.size<=T/\h'.get? e=some (oe.mapFields (·.setIfInBounds 1 (.ref T)))/\h'.get? T=some o/\o.data=.fields ts/\ts[3]?=some .none
 keep:∀ b o,h.get? b=some o->b≠e->b∉fr->h'.get? b=some o
 slot:∀ b o,h.get? b=some o->b≠e->∃ sl,h'.get? b=some { o with slots:=sl }
section
variable {M:Model}{A:Around}{E:Value->Shared->Prop}{s:Shared}
theorem rZ {base:Heap}{env:Env}{outer:List Env}{L e:Addr}{oe:Obj}{vs:Array Value}{hd:Value}{nx:Bool}{Q:Unit->Shared->Prop}
  (fr:A.frames=some (env::outer)) (ff:s.heap.FunFrames base (env::outer)) (ef:env.frame=some L) (ge:s.heap.get? e=some oe) (de:oe.data=.fields vs) (sz:1<vs.size)
  (k:∀ h',Ent ((env::outer).filterMap (·.frame)) e oe s.heap h'->Q () { s with heap:=h' }) :
  wpAny M A (do let a <- frameOf env;let pl <- entryPlaceOf L nx;let b <- EntryCells.newEntry hd a .none (rawInt L) .none pl;setField (.ref e) 1 b) (λ_ s'=>wpAny M A (setFlight (.ref e) none) Q E s') E s:=by
 have nfr:e∉(env::outer).filterMap (·.frame):=λz=>by
  obtain ⟨_,o,q,nf⟩:=ff.mem z
  rw [ge] at q;cases q;exact nf vs de
 refine wpAny_bind (wpAny_frameOf_fun fr ff ef λh1 so=>wpAny_bind (wpAny_entryPlaceOf λpl ip=>?_))
 unfold EntryCells.newEntry newFields
 refine wpAny_bind (wpAny_newObj_type ?_ (ip.sizeOk5 _ _ _ _ _))
 have ge1:h1.get? e=some oe:=(so.2.1 e nfr).trans ge
 generalize hob:({ cls:=.type "traceback",dict:=none,data:=.fields ([hd,.ref L,.none,rawInt L,.none]++(if pl.isEmpty then List.replicate 6 Value.none else pl)).toArray }:Obj)=ot
 have dt:ot.data=.fields ([hd,.ref L,.none,rawInt L,.none]++(if pl.isEmpty then List.replicate 6 Value.none else pl)).toArray:=by rw [<- hob]
 have ot0:ot.isFreed=false:=Obj.isFreed_of_fields dt
 have ge2:(h1.push ot).get? e=some oe:=Heap.get?_push_of_some ot ge1
 have neT:h1.objs.size≠e:=Nat.ne_of_gt (Heap.lt_size ge1)
 have de3:=Obj.data_mapFields de (·.setIfInBounds 1 (Value.ref h1.objs.size))
 refine wpAny_setField ge2 de sz ?_
 have ge3:=Heap.get?_update_self (Obj.mapFields (·.setIfInBounds 1 (Value.ref h1.objs.size))) ge2 (Obj.isFreed_of_fields de3)
 have gT3:((h1.push ot).update e (Obj.mapFields (·.setIfInBounds 1 (Value.ref h1.objs.size)))).get? h1.objs.size=some ot:=(Heap.get?_update_other _ _ (Ne.symm neT)).trans (Heap.get?_push_size h1 ot0)
 unfold setFlight
 refine wpAny_bind (wpAny_field ge3 de3 (x:=.ref h1.objs.size) (by simp [sz]) ?_)
 rw [if_pos (show (Value.ref h1.objs.size != Value.none)=true from by simp)]
 have sz3:3<([hd,Value.ref L,.none,rawInt L,.none]++(if pl.isEmpty then List.replicate 6 Value.none else pl)).toArray.size:=by simp
 refine wpAny_setField gT3 dt sz3 (k _ ?_)
 have kp:∀ b o,b≠e->h1.get? b=some o->(((h1.push ot).update e (Obj.mapFields (·.setIfInBounds 1 (Value.ref h1.objs.size)))).update h1.objs.size (Obj.mapFields (·.setIfInBounds 3 ((none:Option Addr).elim Value.none λf=>rawInt f)))).get? b=some o:=λb o nb hb=>by
  rw [Heap.get?_update_other _ _ (Nat.ne_of_gt (Heap.lt_size hb)),Heap.get?_update_other _ _ (Ne.symm nb)]
  exact Heap.get?_push_of_some ot hb
 refine ⟨⟨h1.objs.size,_,_,Nat.le_of_eq so.1.symm,?_,Heap.get?_update_self _ gT3 (Obj.isFreed_of_fields (Obj.data_mapFields dt _)),Obj.data_mapFields dt _,?_⟩,λb o hb nb nf=>kp b o nb ((so.2.1 b nf).trans hb),λb o hb nb=>?_⟩
 ·rw [Heap.get?_update_other _ _ neT];exact ge3
 ·rw [Array.getElem?_setIfInBounds]
  rw [if_pos rfl,if_pos sz3]
  rfl
 ·obtain ⟨sl,q⟩:=so.2.2 b o hb
  exact ⟨sl,kp b _ nb q⟩
def Exc (h:Heap) (lo:Nat) (N:Addr->Prop) (e:Addr) (cls:Value) (dct:Option Addr):Prop :=
 ∃ oe vs hd,h.get? e=some oe/\oe.cls=cls/\oe.dict=dct/\oe.data=.fields vs/\(vs[1]?=some hd/\vs[2]?=some .none)/\lo<=e/\N e /\
  (hd=.none\/∃ T oT ts,hd=.ref T/\lo<=T/\N T/\T≠e/\h.get? T=some oT/\oT.data=.fields ts/\ts[3]?=some .none)
structure Past (fr ch:List Addr) (h h':Heap):Prop where
 keep:∀ b o,h.get? b=some o->b∉ch->b∉fr->h'.get? b=some o
 slot:∀ b o,h.get? b=some o->b∈fr->∃ sl,h'.get? b=some { o with slots:=sl }
 there:∀ b o,h.get? b=some o->∃ o',h'.get? b=some o'
theorem Bg (o:Obj) (f:Array Value->Array Value):(o.mapFields f).dict=o.dict:=by
 obtain ⟨c,d,dt,sl⟩:=o
 cases dt<;>rfl
theorem Exc.mono {h:Heap}{lo lo':Nat}{N:Addr->Prop}{e:Addr}{cls:Value}{dct:Option Addr}(x:Exc h lo N e cls dct) (l:lo'<=lo):Exc h lo' N e cls dct:=by
 obtain ⟨oe,vs,hd,ge,c,d,de,e1,le,ne,hh⟩:=x
 refine ⟨oe,vs,hd,ge,c,d,de,e1,Nat.le_trans l le,ne,hh.imp id λzz115=>by obtain ⟨T,oT,ts,r,lT,q⟩:=zz115;exact ⟨T,oT,ts,r,Nat.le_trans l lT,q⟩⟩
theorem Exc.there {h:Heap}{lo:Nat}{N:Addr->Prop}{e:Addr}{cls:Value}{dct:Option Addr}(x:Exc h lo N e cls dct):∃ oe,h.get? e=some oe/\oe.cls=cls/\oe.dict=dct:=by
 obtain ⟨oe,vs,hd,ge,c,d,_⟩:=x
 exact ⟨oe,ge,c,d⟩
theorem note_it {base:Heap}{env:Env}{outer:List Env}{L e:Addr}{lo:Nat}{N:Addr->Prop}{cls:Value}{dct:Option Addr}{Q:Unit->Shared->Prop}
  (fr:A.frames=some (env::outer)) (ff:s.heap.FunFrames base (env::outer)) (ef:env.frame=some L) (hN:∀ b,s.heap.objs.size<=b->N b) (Sh:lo<=s.heap.objs.size) (x:Exc s.heap lo N e cls dct)
  (k:∀ h' ch,(∀ b∈ch,lo<=b/\N b/\b∉(env::outer).filterMap (·.frame)/\∃ o vs,s.heap.get? b=some o/\o.data=.fields vs)->Past ((env::outer).filterMap (·.frame)) ch s.heap h'->Exc h' lo N e cls dct->Q () { s with heap:=h' }) :
  wpAny M A (noteFrame (.ref e) env) (λ_ s'=>wpAny M A (setFlight (.ref e) none) Q E s') E s:=by
 obtain ⟨oe,vs,hd,ge,rfl,rfl,de,e1,le,ne,hh⟩:=x
 have sz:1<vs.size:=(Array.getElem?_eq_some_iff.mp e1.1).1
 have nofld:∀ b∈(env::outer).filterMap (·.frame),∀ o,s.heap.get? b=some o->∀ vs,o.data≠.fields vs:=λb hb o q=>by
  obtain ⟨_,o',q',nf⟩:=ff.mem hb
  rw [q] at q';cases q';exact nf
 have nfe:e∉(env::outer).filterMap (·.frame):=λz=>nofld e z _ ge vs de
 have fin:∀ (g h':Heap),g.objs.size=s.heap.objs.size->Ent ((env::outer).filterMap (·.frame)) e oe g h'->Exc h' lo N e oe.cls oe.dict:=by
  rintro g h' sg ⟨⟨T,o,ts,hT,gE,gT,dT,e3⟩,_,_⟩
  have hT':s.heap.objs.size<=T:=by omega
  refine ⟨_,_,.ref T,gE,Obj.cls_mapFields _ _,Bg _ _,Obj.data_mapFields de _,⟨by simp [sz],by rw [Array.getElem?_setIfInBounds,if_neg (by decide)];exact e1.2⟩,le,ne,.inr ⟨T,o,ts,rfl,Nat.le_trans Sh hT',hN T hT',λz=>?_,gT,dT,e3⟩⟩
  have q:e<s.heap.objs.size:=Heap.lt_size ge
  rw [z] at hT'
  exact absurd (Nat.lt_of_lt_of_le q hT') (Nat.lt_irrefl _)
 unfold noteFrame
 simp only [ef]
 refine wpAny_bind (wpAny_field ge de e1.1 ?_)
 rcases hh with rfl|⟨T,oT,ts,rfl,lT,nT,neT,gT,dT,e3⟩
 ·rw [if_neg (by decide)]
  refine rZ fr ff ef ge de sz λh' en=>k h' [e] (λb hb=>by rw [List.mem_singleton.mp hb];exact ⟨le,ne,nfe,_,_,ge,de⟩) ⟨λb o hb hk nf=>en.keep b o hb (λz=>hk (List.mem_singleton.mpr z)) nf,λb o hb hf=>en.slot b o hb λz=>nfe (z ▸ hf),λb o hb=>?_⟩ (fin s.heap h' rfl en)
  by_cases z:b=e
  ·subst z
   obtain ⟨T,_,_,_,q,_⟩:=en.it
   exact ⟨_,q⟩
  ·obtain ⟨sl,q⟩:=en.slot b o hb z
   exact ⟨_,q⟩
 ·rw [if_pos (show (Value.ref T != Value.none)=true from by simp)]
  refine wpAny_bind (wpAny_field gT dT e3 ?_)
  rw [if_neg (show ¬ ((Value.none==rawInt L)=true) from by simp [rawInt])]
  refine wpAny_bind (wpAny_setField gT dT (Array.getElem?_eq_some_iff.mp e3).1 ?_)
  generalize hg:s.heap.update T (Obj.mapFields (·.setIfInBounds 3 Value.none))=g
  have ot:∀ b,b≠T->g.get? b=s.heap.get? b:=λb nb=>by rw [<- hg];exact Heap.get?_update_other _ _ (Ne.symm nb)
  have sg:g.objs.size=s.heap.objs.size:=by rw [<- hg];exact Heap.size_after_update ..
  have nfT:T∉(env::outer).filterMap (·.frame):=λz=>nofld T z _ gT ts dT
  have ff':g.FunFrames base (env::outer):=ff.of_keeps λb o hb nf=>⟨o,(ot b λz=>by subst z;rw [gT] at hb;cases hb;exact nf ts dT).trans hb,rfl⟩
  refine rZ (s:={ s with heap:=g }) fr ff' ef ((ot e (Ne.symm neT)).trans ge) de sz λh' en=>k h' [e,T] (λb hb=>?_) ⟨λb o hb hk nf=>en.keep b o ((ot b λz=>hk (by rw [z];simp)).trans hb) (λz=>hk (by rw [z];simp)) nf,λb o hb hf=>en.slot b o ((ot b λz=>nfT (z ▸ hf)).trans hb) λz=>nfe (z ▸ hf),λb o hb=>?_⟩ (fin g h' sg en)
  ·rcases List.mem_cons.mp hb with z|z
   ·rw [z];exact ⟨le,ne,nfe,_,_,ge,de⟩
   ·rw [List.mem_singleton.mp z];exact ⟨lT,nT,nfT,_,_,gT,dT⟩
  ·by_cases z:b=e
   ·subst z
    obtain ⟨T,_,_,_,q,_⟩:=en.it
    exact ⟨_,q⟩
   ·by_cases z2:b=T
    ·subst z2
     have gT':g.get? b=some (oT.mapFields (·.setIfInBounds 3 Value.none)):=by rw [<- hg];exact Heap.get?_update_self _ gT (Obj.isFreed_of_fields (Obj.data_mapFields dT _))
     obtain ⟨sl,q⟩:=en.slot b _ gT' z
     exact ⟨_,q⟩
    ·obtain ⟨sl,q⟩:=en.slot b o ((ot b z2).trans hb) z
     exact ⟨_,q⟩
end
end Xc
namespace L2
open PySem PySem.Spec PyProof.Rows
def CX1 (P:Program) (w:World):CXT:=λouter H s E e s'=>∃ a C dct H',e=.ref a/\s'.os=s.os/\AllBare s'.gens/\Un (frs outer) [] H H' s.heap s'.heap/\HOk P w H' s'.heap /\
 Xc.Exc s'.heap s.heap.objs.size (λb=>H' b=none) a (.ref C) dct/\E (.ref C) dct H'
abbrev XS:=Addr->Option Addr->St->Hp->Prop
structure Low (X:Cx) (pins:List (Addr×Obj)) (lo:Nat):Prop where
 s0:X.s₀.heap.objs.size<=lo
 loc:X.env.locals<lo
 cell:∀ x c,X.env.cells.lookup x=some c->c<lo
 pin:∀ p∈X.pn++pins,p.1<lo
def XP (X:Cx) (pins:List (Addr×Obj)) (R:XS) (e:Value) (s':Shared):Prop:=∃ a C dct LO H' lo,e=.ref a/\Inv X pins LO H' s'/\Low X pins lo/\Xc.Exc s'.heap lo (λb=>H' b=none) a (.ref C) dct/\R C dct LO H'
abbrev TR:=St->Hp->XS->Prop
def PR (X:Cx) (st:Stmt) (t:TR):Prop:=∀ (pins:List (Addr×Obj)) (s:Shared) (U:St) (H:Hp) (R:XS),Inv X pins U H s->t U H R->wpAny (model X.prog X.w) X.A (exec st X.env) (λ_ _=>False) (XP X pins R) s
def PRs (X:Cx) (st:List Stmt) (t:TR):Prop:=∀ (pins:List (Addr×Obj)) (s:Shared) (U:St) (H:Hp) (R:XS),Inv X pins U H s->t U H R->wpAny (model X.prog X.w) X.A (execs st X.env) (λ_ _=>False) (XP X pins R) s
def PRE (X:Cx) (e:Expr) (t:TR):Prop:=∀ (pins:List (Addr×Obj)) (s:Shared) (U:St) (H:Hp) (R:XS),Inv X pins U H s->t U H R->wpAny (model X.prog X.w) X.A (eval e X.env) (λ_ _=>False) (XP X pins R) s
def PRA (X:Cx) (es:List Expr) (t:TR):Prop:=∀ (pos:Pos) (pins:List (Addr×Obj)) (s:Shared) (U:St) (H:Hp) (R:XS),Inv X pins U H s->t U H R->wpAny (model X.prog X.w) X.A (spliced (backTo pos (starEach es X.env))) (λ_ _=>False) (XP X pins R) s
section
variable {X:Cx}{pins:List (Addr×Obj)}{U:St}{H:Hp}{s:Shared}
theorem Inv.low (I:Inv X pins U H s):Low X pins s.heap.objs.size :=
 ⟨I.sz,I.lt,λx c e=>by obtain ⟨v,o,ho,_⟩:=I.cell x c e;exact Heap.lt_size ho,λp hp=>Heap.lt_size (I.pin p hp).1⟩
theorem eV {α:Type}{t:Sem α}{Q Q':α->Shared->Prop}{E:Value->Shared->Prop}(h:wpAny (model X.prog X.w) X.A t Q (λ_ _=>False) s) (q:∀ a s,Q a s->Q' a s):wpAny (model X.prog X.w) X.A t Q' E s:=wpAny_mono h q λ_ _ z=>z.elim
variable {st:Stmt}{rest:List Stmt}{t u:TS}{r r2:TR}{e:Expr}{es:List Expr}{te:TE}{ta:TA}{pos:Pos}
theorem Bi (h:PR X st r):PRs X (st::rest) r:=λpins s U H R I q=>wpAny_execs_cons (wpAny_mono (h pins s U H R I q) (λ_ _ z=>z.elim) λ_ _ z=>z)
def JU (t:TS) (r:TR):TR:=λU H R=>t { nx:=λLO H'=>r LO H' R,rt:=λ_ _=>False } U H
theorem Bj (h1:PS X.nox st t) (h2:PRs X rest r):PRs X (st::rest) (JU t r):=by
 intro pins s U H R I q
 refine wpAny_execs_cons (eV (h1 pins s U H _ (I.wish _) q) λf s1 q=>?_)
 cases f with
 |next=>obtain ⟨LO,H',I',q⟩:=q;exact h2 pins s1 LO H' R I'.unwish q
 |ret v=>obtain ⟨_,_,_,_,_,q⟩:=q;exact q.elim
 |brk=>obtain ⟨_,_,_,q⟩:=q;exact q.elim
 |cont=>obtain ⟨_,_,_,q⟩:=q;exact q.elim
def rIf (c:TT) (r r2:TR):TR:=λU H R=>c U H λb H1=>if b=true then r U H1 R else r2 U H1 R
theorem JV {c:Expr}{a b:List Stmt}{tc:TT}(hc:PT X.nox c tc) (ha:PRs X a r) (hb:PRs X b r2):PR X (.If c a b pos) (rIf tc r r2):=by
 intro pins s U H R I h
 refine wpAny_If (eV (hc pins s U H _ (I.wish _) h) λd s1 zz116=>?_)
 obtain ⟨H1,I1,q1⟩:=zz116
 cases d with
 |true=>exact ha pins s1 U H1 R I1.unwish q1
 |false=>exact hb pins s1 U H1 R I1.unwish q1
theorem DE (h:PRE X e r) (hs:swapsWith e none pos.line X.env=pure false:=by rfl):PR X (.Expr e pos) r:=λpins s U H R I q=>wpAny_Expr_any (wpAny_mono (h pins s U H R I q) (λ_ _ z=>z.elim) λ_ _ z=>z) I.quiet hs
theorem GL (h:PRE X e r):PR X (.Return (some e) pos) r:=λpins s U H R I q=>wpAny_Return_some (wpAny_mono (h pins s U H R I q) (λ_ _ z=>z.elim) λ_ _ z=>z)
theorem GN {x:Str}{MA:Pos}(h:PRE X e r) (hs:swapsWith e (some (.Name x MA)) pos.line X.env=pure false:=by rfl):PR X (.Assign [.Name x MA] e pos) r:=λpins s U H R I q=>wpAny_Assign_Name (wpAny_mono (h pins s U H R I q) (λ_ _ z=>z.elim) λ_ _ z=>z) hs
theorem Bl (h:PRE X e r) (hs:starEach (e::es) X.env=(false,eval e X.env)::starEach es X.env:=by rfl):PRA X (e::es) r:=by
 intro pos pins s U H R I q
 rw [hs]
 exact Calls.spliced_cons (wpAny_mono (h pins s U H R I q) (λ_ _ z=>z.elim) λ_ _ z=>z)
end
section
variable {X:Cx}{k:Nat}{f C:Addr}{fd:FuncData}{ps:List Str}{sp:Sp}{dvs:List V}{ds:List Value}{x m:Str}{p pos apos:Pos}{e o:Expr}{es:List Expr}{ta:TE}{t:TA}{r:TR}{G:Addr->Prop}
def toE (R:XS) (U:St):XK:=λc dct H'=>∃ C,c=.ref C/\R C dct U H'
theorem nH {pins:List (Addr×Obj)}{U:St}{H:Hp}{s:Shared}{R:XS}{us:List Value}{vs:List V}(F:FnOk X.prog X.w X.K X.mg X.base (CX1 X.prog X.w) k f fd ps sp) (hr:Room k X.A) (hb:aw X.K fd ps ds) (hd:am dvs ds)
  (I:Inv X pins U H s) (r:am vs us) (h:sp (vs++dvs) H (λ_ _=>False) (toE R U)):wpAny (model X.prog X.w) X.A (call (.ref f) us) (λ_ _=>False) (XP X pins R) s:=by
 have r2:am (vs++dvs) (us++ds):=r.append hd
 have hl:(us++ds).length=ps.length:=by rw [<- r2.length];exact F.len _ _ _ _ h
 refine wpAny_call (codeAny_mono (F.run X.A X.stack s H ⟨us,[]⟩ (us++ds) (vs++dvs) _ _ hr I.env0 (hb s us I.kIn hl) r2 h) λq s' hq=>?_)
 cases q with
 |error z =>
  obtain ⟨a,C,dct,H',rfl,os,bare,un,hok,x,C',ec,q⟩:=hq
  cases ec
  exact ⟨a,C,dct,U,H',_,rfl,I.call' (ch:=[]) os un hok bare (λ_ z=>nomatch z),I.low,x,q⟩
 |ok fl =>
  cases fl with
  |ret u=>obtain ⟨_,_,_,_,_,_,_,q⟩:=hq;exact q.elim
  |next=>exact False.elim hq
  |brk=>exact False.elim hq
  |cont=>exact False.elim hq
def JW (sp:Sp) (dvs:List V) (t:TA):TR:=λU H R=>t U H λvs H1=>sp (vs++dvs) H1 (λ_ _=>False) (toE R U)
theorem Bm (F:FnOk X.prog X.w X.K X.mg X.base (CX1 X.prog X.w) k f fd ps sp) (hr:Room k X.A) (hg:Gl X x) (hm:X.mg x=some (.ref f)) (hk:PySem.W.keepIn X.K (.ref f)=true) (hb:aw X.K fd ps ds) (hd:am dvs ds)
  (ha:PA X.nox (e::es) t) (MQ:(x==("__debug__":Str))=false:=by decide) (he:starEach (e::es) X.env=(false,eval e X.env)::starEach es X.env:=by rfl) (M6:(backTo pos (starEach es X.env)).any (·.1)=false:=by rfl) :
  PRE X (.Call (.Name x p) (e::es) [] pos) (JW sp dvs t):=by
 intro pins s U H R I h
 refine wpAny_Call_Name_kw (dW I hg hm ?_ MQ)
 refine PySem.W.callWith_K (h₀:=X.base) I.ok.mod.kin hk (eV (ha pos pins s U H _ (I.wish _) h) λus s1 ⟨vs,H1,I1,r,q⟩=>⟨I1.unwish.kIn,?_⟩) he M6
 exact nH F hr hb hd I1.unwish r q
theorem Aa {g:Value}(hg:Gl X x) (hm:X.mg x=some (.ref f)) (hk:PySem.W.keepIn X.K (.ref f)=true) (ha:PRA X (e::es) r) (MQ:(x==("__debug__":Str))=false:=by decide)
  (he:starEach (e::es) X.env=(false,eval e X.env)::starEach es X.env:=by rfl) (M6:(backTo pos (starEach es X.env)).any (·.1)=false:=by rfl):PRE X (.Call (.Name x p) (e::es) [] pos) r:=by
 intro pins s U H R I h
 refine wpAny_Call_Name_kw (dW I hg hm ?_ MQ)
 exact PySem.W.callWith_K (h₀:=X.base) I.ok.mod.kin hk (wpAny_mono (ha pos pins s U H R I h) (λ_ _ z=>z.elim) λ_ _ z=>z) he M6
def pq (G:Addr->Prop) (m:Str) (sp:Sp) (dvs:List V) (ta:TE) (t:TA):TR:=λU H R=>ta U H λx H1=>∃ a C dx fs,x=.ref a/\H1 a=some (.ins C dx fs)/\G C/\fs.lookup m=none/\t U H1 λvs H2=>sp (x::(vs++dvs)) H2 (λ_ _=>False) (toE R U)
theorem Bn {pl:Sem Bool}(he:PE X.nox o ta) (hG:∀ C,G C->Cls X.K C/\Meth X.K C m f) (F:FnOk X.prog X.w X.K X.mg X.base (CX1 X.prog X.w) k f fd ps sp) (hr:Room k X.A) (hb:aw X.K fd ps ds) (hd:am dvs ds) (ha:PA X.nox (e::es) t)
  (QM:starEach (e::es) X.env=(false,eval e X.env)::starEach es X.env:=by rfl) (M6:(backTo pos (starEach es X.env)).any (·.1)=false:=by rfl)
  (ht:eval (.Call (.Attribute o m apos) (e::es) [] pos) X.env=(do
   let ov <- eval o X.env
   standAt apos.atName
   let (f,first) <- holding [ov] (getMethod ov m pl)
   callWith pos f first (backTo pos (starEach (e::es) X.env)) (backToKw pos (keywordEach [] X.env))):=by rfl) :
  PRE X (.Call (.Attribute o m apos) (e::es) [] pos) (pq G m sp dvs ta t):=by
 intro pins s U H R I h
 refine PySem.W.methodCall_KW (pl:=pl) (eV (he pins s U H _ (I.wish _) h) λu s1 ⟨x,H1,I1,rx,a,C,dx,fs,ex,ea,g,l,q⟩=>?_) ht
 subst ex
 obtain rfl:u=Value.ref a:=rx
 obtain ⟨c,hm⟩:=hG C g
 refine jg I1.unwish ea c hm l ?_
 refine PySem.W.callWith_K (first:=[.ref a]) (h₀:=X.base) I.ok.mod.kin hm.kp (eV (ha pos pins s1 U H1 _ I1 q) λus s2 ⟨vs,H2,I2,r,q2⟩=>⟨I2.unwish.kIn,?_⟩) QM M6
 exact nH (us:=.ref a::us) (vs:=.ref a::vs) F hr hb hd I2.unwish (.cons rfl r) q2
theorem Ac {pl:Sem Bool}(he:PE X.nox o ta) (hG:∀ C,G C->Cls X.K C/\Meth X.K C m f) (F:FnOk X.prog X.w X.K X.mg X.base (CX1 X.prog X.w) k f fd ps sp) (hr:Room k X.A) (hb:aw X.K fd ps ds) (hd:am dvs ds)
  (ht:eval (.Call (.Attribute o m apos) [] [] pos) X.env=(do
   let ov <- eval o X.env
   standAt apos.atName
   let (f,first) <- holding [ov] (getMethod ov m pl)
   callWith pos f first (backTo pos (starEach [] X.env)) (backToKw pos (keywordEach [] X.env))):=by rfl) :
  PRE X (.Call (.Attribute o m apos) [] [] pos) (pq G m sp dvs ta dO):=by
 intro pins s U H R I h
 refine PySem.W.methodCall_KW (pl:=pl) (eV (he pins s U H _ (I.wish _) h) λu s1 ⟨x,H1,I1,rx,a,C,dx,fs,ex,ea,g,l,q⟩=>?_) ht
 subst ex
 obtain rfl:u=Value.ref a:=rx
 obtain ⟨c,hm⟩:=hG C g
 refine jg I1.unwish ea c hm l ?_
 exact PySem.W.callWith_K0 (first:=[.ref a]) I1.unwish.kIn hm.kp (nH (us:=[.ref a]) (vs:=[.ref a]) F hr hb hd I1.unwish (.cons rfl .nil) q)
end
section
variable {X:Cx}{pins:List (Addr×Obj)}{U:St}{H:Hp}{s:Shared}
theorem Inv.past {h':Heap}{ch:List Addr}(I:Inv X pins U H s){lo:Nat}(lw:Low X pins lo) (OV:∀ b∈ch,lo<=b/\H b=none/\b∉frs X.stack/\∃ o vs,s.heap.get? b=some o/\o.data=.fields vs) (p:Xc.Past (frs X.stack) ch s.heap h') :
  Inv X pins U H { s with heap:=h' }:=by
 have nfr:∀ b u,H b=some u->b∉frs X.stack:=λb u e z=>by rw [I.stkFree b z] at e;cases e
 have So:∀ b u,H b=some u->b∉ch:=λb u e z=>by rw [(OV b z).2.1] at e;cases e
 have kp:∀ b u o,H b=some u->s.heap.get? b=some o->h'.get? b=some o:=λb u o e g=>p.keep b o g (So b u e) (nfr b u e)
 refine I.call (g':=s.gens) (d':=s.drawn) (t':=s.toks) (ch:=ch) ⟨λb o e _ nf nc=>p.keep b o e nc nf,λb o e _ hf _=>p.slot b o e hf,λb o _ n _=>n,λb o e _=>p.there b o e,λ_ _ e=>e,λ_ _ _ e=>e,λb ps e=>⟨#[],by rw [Array.append_empty];exact e⟩⟩ ?_ I.bare λb hb=>?_
 ·intro b u e
  refine (I.hok b u e).stay (λc v hc g=>?_) (λ_ z=>z) λ_ _ z=>z
  rcases hc with rfl|hc
  ·exact kp c u v e g
  ·exact kp c _ v hc g
 ·have hl:=(OV b hb).1
  exact ⟨.inr (Nat.le_trans lw.s0 hl),λz=>absurd (Nat.lt_of_lt_of_le lw.loc hl) (by rw [z];exact Nat.lt_irrefl _),λx c e z=>absurd (Nat.lt_of_lt_of_le (lw.cell x c e) hl) (by rw [z];exact Nat.lt_irrefl _),λq hq z=>absurd (Nat.lt_of_lt_of_le (lw.pin q hq) hl) (by rw [z];exact Nat.lt_irrefl _)⟩
theorem tq {Q:Unit->Shared->Prop}{E:Value->Shared->Prop}{a C:Addr}{dct:Option Addr}{lo:Nat}(I:Inv X pins U H s) (st:X.stack=X.env::X.outer/\X.env.frame=some X.env.locals) (lw:Low X pins lo) (Sh:lo<=s.heap.objs.size) (x:Xc.Exc s.heap lo (λb=>H b=none) a (.ref C) dct)
  (k:∀ s',Inv X pins U H s'->s'.os=s.os->s'.gens=s.gens->Xc.Exc s'.heap lo (λb=>H b=none) a (.ref C) dct->Q () s'):wpAny (model X.prog X.w) X.A (noteFrame (.ref a) X.env) (λ_ s'=>wpAny (model X.prog X.w) X.A (setFlight (.ref a) none) Q E s') E s:=by
 have fs:s.heap.FunFrames X.base (X.env::X.outer):=by rw [<- st.1];exact I.stack
 refine Xc.note_it (base:=X.base) (L:=X.env.locals) (by rw [I.ok.frames,st.1]) fs st.2 (λb hb=>I.hok.fresh hb) Sh x λh' ch OV p x'=>?_
 have e:(X.env::X.outer).filterMap (·.frame)=frs X.stack:=by rw [st.1];rfl
 rw [e] at OV p
 exact k _ (I.past lw OV p) rfl rfl x'
end
section
variable {P:Program}{w:World}{K:PySem.W.Frag}{mg:Str->Option Value}{base:Heap}
theorem Bo {k:Nat}{f:Addr}{name qual:Str}{params:Arguments}{body:List Stmt}{scope:Scope}{dV kV doc pm cdv ct oc:Value}{an od:Option Addr}{osl:Array (Option Value)}{N ps:List Str}{sp:Sp}
  (lk:K.lookup f=some ⟨oc,od,.func (PySem.W.fnOf name qual params body scope dV kV doc pm an cdv ct),osl⟩) (P2:PySem.W.codeIn K cdv qual=true) (S:FnScope N ps scope) (len:∀ vs H Q E,sp vs H Q E->vs.length=ps.length)
  (Nr:∀ (A:Around) (outer:List Env) (s:Shared) (H:Hp) (vs:List V) (E:XK) (Q:VK),Room k (A.deeper (envOfC qual scope s.heap.objs.size f cdv))->sp vs H Q E ->
   ∃ r,PRs (c3 CX0 P w K mg base N qual scope f cdv A outer s H E) body r/\r (ca N vs) H λC dct _ H'=>E (.ref C) dct H') :
  FnOk P w K mg base (CX1 P w) (k+1) f (PySem.W.fnOf name qual params body scope dV kV doc pm an cdv ct) ps sp:=by
 refine o6 lk P2 S len λA outer s H vs Q E hr RI=>?_
 obtain ⟨r,hr1,SE⟩:=Nr A outer s H vs E Q hr RI
 refine ⟨λ_ U H'=>U=ca N vs/\H'=H,?_,rfl,rfl⟩
 rintro pins s1 U H1 D I ⟨rfl,rfl⟩
 have I0:Inv (c3 CX0 P w K mg base N qual scope f cdv A outer s H1 E) pins (ca N vs) H1 s1:=⟨⟨I.ok.mod,I.ok.kind,I.ok.glob,I.ok.blt,I.ok.above,I.ok.inj,I.ok.has,I.ok.cab,I.ok.hd,I.ok.frames,I.ok.stk,I.ok.exf,I.ok.bs,I.ok.bsz,I.ok.noex,I.ok.exfs,I.ok.funs,I.ok.frf⟩,I.os,I.bare,I.base,I.loc,I.cell,I.free,I.freeC,I.pin,I.hok,I.len⟩
 refine wpAny_mono (hr1 pins s1 _ _ _ I0 SE) (λ_ _ z=>z.elim) λe s2 zz117=>?_
 obtain ⟨a,C,dct,LO,H',lo,ee,J,lw,x,q⟩:=zz117
 subst ee
 show wpAny (model P w) (A.deeper _) (leaving _ (.ref a)) _ _ s2
 unfold leaving
 have Sh:lo<=s2.heap.objs.size:=Nat.le_of_lt (Nat.lt_of_le_of_lt (by obtain ⟨_,_,_,_,_,_,_,_,l,_⟩:=x;exact l) (by obtain ⟨oe,_,_,ge,_⟩:=x;exact Heap.lt_size ge))
 refine wpAny_bind (tq J ⟨rfl,rfl⟩ lw Sh x λs3 J3 _ _ x3=>?_)
 exact ⟨a,C,dct,H',rfl,J3.os,J3.bare,J3.base,J3.hok,x3.mono lw.s0,q⟩
end
end L2
namespace Xc
open PySem
section
variable {M:Model}{A:Around}{E:Value->Shared->Prop}{s:Shared}
theorem flight_it {e:Addr}{lo:Nat}{N:Addr->Prop}{cls:Value}{dct:Option Addr}{Q:Unit->Shared->Prop}(x:Exc s.heap lo N e cls dct)
  (k:∀ h' ch,(∀ b∈ch,lo<=b/\N b/\∃ o vs,s.heap.get? b=some o/\o.data=.fields vs)->Past [] ch s.heap h'->Exc h' lo N e cls dct->Q () { s with heap:=h' }):wpAny M A (setFlight (.ref e) none) Q E s:=by
 have x0:=x
 obtain ⟨oe,vs,hd,ge,hc,hdc,de,e1,le,ne,hh⟩:=x
 unfold setFlight
 refine wpAny_bind (wpAny_field ge de e1.1 ?_)
 rcases hh with rfl|⟨T,oT,ts,rfl,lT,nT,neT,gT,dT,e3⟩
 ·rw [if_neg (by decide)]
  exact wpAny_pure (k s.heap [] (λ_ z=>(nomatch z)) ⟨λb o hb _ _=>hb,λb o hb z=>(nomatch z),λb o hb=>⟨o,hb⟩⟩ x0)
 ·rw [if_pos (show (Value.ref T != Value.none)=true from by simp)]
  have s3:=(Array.getElem?_eq_some_iff.mp e3).1
  refine wpAny_setField gT dT s3 (k _ [T] (λb hb=>by rw [List.mem_singleton.mp hb];exact ⟨lT,nT,_,_,gT,dT⟩) ⟨λb o hb nb _=>?_,λb o hb z=>(nomatch z),λb o hb=>?_⟩ ?_)
  ·rw [Heap.get?_update_other _ _ (λz=>nb (List.mem_singleton.mpr z.symm))];exact hb
  ·by_cases z:b=T
   ·subst z
    exact ⟨_,Heap.get?_update_self _ gT (Obj.isFreed_of_fields (Obj.data_mapFields dT _))⟩
   ·exact ⟨o,by rw [Heap.get?_update_other _ _ (Ne.symm z)];exact hb⟩
  ·refine ⟨oe,vs,.ref T,(Heap.get?_update_other _ _ neT).trans ge,hc,hdc,de,e1,le,ne,.inr ⟨T,_,_,rfl,lT,nT,neT,Heap.get?_update_self _ gT (Obj.isFreed_of_fields (Obj.data_mapFields dT _)),Obj.data_mapFields dT _,?_⟩⟩
   rw [Array.getElem?_setIfInBounds,if_pos rfl,if_pos s3]
   rfl
end
end Xc
namespace L2
open PySem PySem.Spec PyProof.Rows
noncomputable abbrev Cx.inx (X:Cx) (a:Addr):Cx:={ X with A:=X.A.mark (some (.ref a)),calm:=false,xe:=λ_ _=>False }
theorem Cx.Ok.inx {X:Cx}(ok:X.Ok) (a:Addr):(X.inx a).Ok :=
 ⟨ok.mod,ok.kind,ok.glob,ok.blt,ok.above,ok.inj,ok.has,ok.cab,λz=>(nomatch z),ok.frames,ok.stk,ok.exf,ok.bs,ok.bsz,ok.noex,ok.exfs,ok.funs,ok.frf⟩
section
variable {X:Cx}{pins:List (Addr×Obj)}{U:St}{H:Hp}{s:Shared}{a:Addr}
theorem Inv.inx (I:Inv X pins U H s) (a:Addr):Inv (X.inx a) pins U H s:=⟨I.ok.inx a,I.os,I.bare,I.base,I.loc,I.cell,I.free,I.freeC,I.pin,I.hok,I.len⟩
theorem Inv.outx (I:Inv (X.inx a) pins U H s) (ok:X.Ok):Inv X pins U H s:=⟨ok,I.os,I.bare,I.base,I.loc,I.cell,I.free,I.freeC,I.pin,I.hok,I.len⟩
theorem SP.outx {D:Ends}{f:Flow}{s':Shared}(ok:X.Ok) (h:SP (X.inx a) pins D f s'):SP X pins D f s':=by
 cases f with
 |next=>obtain ⟨LO,H',I,q⟩:=h;exact ⟨LO,H',I.outx ok,q⟩
 |brk=>obtain ⟨LO,H',I,q⟩:=h;exact ⟨LO,H',I.outx ok,q⟩
 |cont=>obtain ⟨LO,H',I,q⟩:=h;exact ⟨LO,H',I.outx ok,q⟩
 |ret u=>obtain ⟨v,LO,H',I,r,q⟩:=h;exact ⟨v,LO,H',I.outx ok,r,q⟩
theorem Bp {fr ch:List Addr}{h h':Heap}(p:Xc.Past [] ch h h') (hf:∀ b∈fr,b∉ch):Xc.Past fr ch h h' :=
 ⟨λb o hb nc _=>p.keep b o hb nc (by simp),λb o hb hfr=>⟨o.slots,p.keep b o hb (hf b hfr) (by simp)⟩,p.there⟩
theorem Ae {A:Around}{Q:Unit->Shared->Prop}{E:Value->Shared->Prop}{C:Addr}{dct:Option Addr}{lo:Nat}(I:Inv X pins U H s) (lw:Low X pins lo) (x:Xc.Exc s.heap lo (λb=>H b=none) a (.ref C) dct)
  (k:∀ s',Inv X pins U H s'->Xc.Exc s'.heap lo (λb=>H b=none) a (.ref C) dct->Q () s'):wpAny (model X.prog X.w) A (setFlight (.ref a) none) Q E s:=by
 refine Xc.flight_it x λh' ch OV p x'=>?_
 have hf:∀ b∈frs X.stack,b∉ch:=λb hb hc=>by
  obtain ⟨_,o',g',nf⟩:=I.stack.mem hb
  obtain ⟨_,_,o,vs,g,d⟩:=OV b hc
  rw [g] at g';cases g'
  exact nf vs d
 exact k _ (I.past lw (λb hb=>⟨(OV b hb).1,(OV b hb).2.1,λz=>hf b z hb,(OV b hb).2.2⟩) (Bp p hf)) x'
abbrev TH:=Addr->TS
def PH (X:Cx) (hs:List ExceptHandler) (t:TH):Prop:=∀ (pins:List (Addr×Obj)) (s:Shared) (U:St) (H:Hp) (a C:Addr) (dct:Option Addr) (lo:Nat) (D:Ends),Inv X pins U H s->Low X pins lo->Xc.Exc s.heap lo (λb=>H b=none) a (.ref C) dct->t C D U H ->
 wpAny (model X.prog X.w) X.A (handleBy (.ref a) X.env hs) (SP X pins D) X.xe s
def JX:TH:=λ_ _ _ _=>False
theorem GO:PH X [] JX:=λ_ _ _ _ _ _ _ _ _ _ _ _ h=>h.elim
def GP (K:PySem.W.Frag) (B:Addr) (t:TS) (r:TH):TH:=λC D U H=>∃ b,PySem.W.exmOne K (.ref C) (.ref B)=some b/\if b=true then t D U H else r C D U H
theorem DF {x:Str}{B:Addr}{p pos:Pos}{st:Stmt}{suite:List Stmt}{hs:List ExceptHandler}{t:TS}{r:TH}(hg:Gl X x) (hm:X.mg x=some (.ref B)) (h1:∀ a,PSs (X.inx a) (st::suite) t) (h2:PH X hs r) (MQ:(x==("__debug__":Str))=false:=by decide) :
  PH X (.ExceptHandler (some (.Name x p)) none (st::suite) pos::hs) (GP X.K B t r):=by
 intro pins s U H a C dct lo D I lw x h
 obtain ⟨b,hb,q⟩:=h
 refine wpAny_handleBy_cons (codeAny_handlers_test (dW (X:=X.inx a) (I.inx a) hg hm ?_ MQ)) (by intro z;cases z)
 obtain ⟨oe,ge,hc,_⟩:=x.there
 have lt:PySem.W.Looks (model X.prog X.w) s.heap (typeOf (.ref a)) (.ref C):=hc ▸ (PySem.W.Looks.ld ge).andThen .now
 refine (PySem.W.exm_one (M:=model X.prog X.w) I.kIn lt hb).here ?_
 cases b with
 |true =>
  rw [if_pos rfl] at q
  refine codeAny_handlers_suite ?_
  refine Ae I lw x λs' I' x'=>?_
  exact wpAny_mono (h1 a pins s' U H D (I'.inx a) q) (λf s2 z=>z.outx I.ok) λ_ _ z=>z.elim
 |false =>
  rw [if_neg (by decide)] at q
  exact h2 pins s U H a C dct lo D I lw x q
def Lp (tn:TS) (tr:TR) (th:TH):TS:=λD U H=>tn D U H\/tr U H λC _ LO H'=>th C D LO H'
theorem GQ {body:List Stmt}{hd:ExceptHandler}{hs:List ExceptHandler}{tn:TS}{tr:TR}{th:TH}{pos:Pos}(st:X.stack=X.env::X.outer/\X.env.frame=some X.env.locals) (hn:PSs X.nox body tn) (hr:PRs X body tr) (hh:PH X (hd::hs) th) :
  PS X (.Try body (hd::hs) [] [] pos) (Lp tn tr th):=by
 intro pins s U H D I h
 rcases h with h|h
 ·refine wpAny_Try_except (wpAny_mono (hn pins s U H D (I.wish _) h) (λf s1 q=>?_) λ_ _ z=>z.elim)
  cases f with
  |next=>exact wpAny_execs_nil q.unwish
  |brk=>exact q.unwish
  |cont=>exact q.unwish
  |ret u=>exact q.unwish
 ·refine wpAny_Try_except (wpAny_mono (hr pins s U H _ I h) (λf s1 q=>q.elim) λe s1 ⟨a,C,dct,LO,H',lo,ee,J,lw,x,q⟩=>?_)
  subst ee
  have Sh:lo<=s1.heap.objs.size:=Nat.le_of_lt (Nat.lt_of_le_of_lt (by obtain ⟨_,_,_,_,_,_,_,_,l,_⟩:=x;exact l) (by obtain ⟨oe,_,_,ge,_⟩:=x;exact Heap.lt_size ge))
  exact tq J st lw Sh x λs2 J2 _ _ x2=>hh pins s2 LO H' a C dct lo D J2 lw x2 q
end
end L2
namespace PySem
section
variable {prog:Program}{w:World}{A:Around}{E:Value->Shared->Prop}{h:Heap}{g:Array GenState}{d:Drawn}{t:Nat}{os:OsState}
variable {nm q:Str}{C N:Addr}{bs bm bmB:List Value}{hdct:Bool}{sn:List Str}{sub:List Value}{ab:Bool}{col:Option Bool}{dd:Option Addr}{k0 k1 k2 k3 k5:Option Value}{B newId initId:String}
theorem xO (F:ExcBaseFacts B newId initId bmB) (T:OwnTail h bmB bm){mN:Str->Option Value}{rest:List Value}{Q:Fin->Shared->Prop}
  (hC:h.get? C=some (excClassObj nm q C N bs bm hdct sn sub ab col dd k0 k1 k2 k3 k5 newId)) (hn:h.Ns N mN) (hni:mN "__init__"=none)
  (hq:∀ h' e,Heap.MadeExcOf h h' e (.ref C) rest->h.objs.size<=e->Q (.done (.ret (.ref e))) ⟨h',g,d,t,os⟩) (hrest:rest.length<=sizeLine:=by size_fits) :
  wpAny (model prog w) A (Builtin.«type.__call__» ⟨.ref C::rest,[]⟩) Q E ⟨h,g,d,t,os⟩:=by
 repeat (first|with_reducible refine wpAny_loadPart_at hC ?_|with_reducible refine wpAny_madeBy_exc hC ?_|wp_step)
 refine codeAny_call_builtin_code (Code.quiet_builtin _ F.quiet) (wpAny_check_new_subT F T hC ?_)
 refine codeAny_exc_new_subT F T hC ?_ hrest
 show wpAny _ _ _ _ _ _
 have Rh:=Heap.get?_push_of_some { cls:=.ref C,data:=.fields #[.ref h.objs.size,.none,.none,.none,.bool false,.none] }
  (Heap.get?_push_of_some { cls:=.type "tuple",data:=.seq rest.toArray } hC)
 have hn₁:((h.push { cls:=.type "tuple",data:=.seq rest.toArray }).push { cls:=.ref C,data:=.fields #[.ref h.objs.size,.none,.none,.none,.bool false,.none] }).Ns N mN :=
  let ⟨o,es,ep,e,r⟩:=hn;⟨o,es,ep,Heap.get?_push_of_some _ (Heap.get?_push_of_some _ e),r⟩
 have SF:((h.push { cls:=.type "tuple",data:=.seq rest.toArray }).push
   { cls:=.ref C,data:=.fields #[.ref h.objs.size,.none,.none,.none,.bool false,.none] }).get? (h.objs.size+1)=some
   { cls:=.ref C,data:=.fields #[.ref h.objs.size,.none,.none,.none,.bool false,.none] }:=by heap_get
 have hcC:(Value.ref C::bm).contains (.ref C)=true:=by simp
 have T₁:=T.keeps (h':=(h.push { cls:=.type "tuple",data:=.seq rest.toArray }).push { cls:=.ref C,data:=.fields #[.ref h.objs.size,.none,.none,.none,.bool false,.none] })
  λb o e=>Heap.get?_push_of_some _ (Heap.get?_push_of_some _ e)
 unfold isInstance
 repeat (first|with_reducible refine wpAny_loadPart_at SF ?_|(with_reducible refine wpAny_isSubtype_exc Rh ?_;rw [hcC])|wp_step)
 show wpAny _ _ (typeLookup (.ref C) _) _ _ _
 refine wpAny_typeLookup_tail Rh hn₁ T₁ F.mroIs F.init.lookup ?_
 rw [hni]
 refine wpAny_holding (wpAny_bind (wpAny_of_eq (F.init.bind _) ?_))
 refine wpAny_bind (wpAny_call (codeAny_call_builtin F.init.plain F.initEntry (wpAny_check_init_subT F T₁ Rh SF rfl ?_)))
 wp_walk
 refine hq _ _ ⟨λb o hb=>?_,Heap.get?_none_of_le (Nat.le_succ _),h.objs.size+2,?_,Heap.get?_none_of_le (by omega),?_⟩ (Nat.le_succ _)
 ·rw [Heap.get?_update_other _ _ (Nat.ne_of_gt (Nat.lt_succ_of_lt (Heap.lt_size hb)))]
  exact Heap.get?_push_of_some _ (Heap.get?_push_of_some _ (Heap.get?_push_of_some _ hb))
 ·rw [Heap.get?_update_self _ (Heap.get?_push_of_some _ SF) rfl]
  simp only [Heap.size_push]
  rfl
 ·rw [Heap.get?_update_other _ _ (show h.objs.size+1≠h.objs.size+2 by omega)]
  exact Heap.get?_push_at (by simp only [Heap.size_push]) rfl
theorem Af (F:ExcBaseFacts B newId initId bmB) (T:OwnTail h bmB bm){mN:Str->Option Value}{rest:List Value}{Q:Value->Shared->Prop}
  (hC:h.get? C=some (excClassObj nm q C N bs bm hdct sn sub ab col dd k0 k1 k2 k3 k5 newId)) (hn:h.Ns N mN) (hni:mN "__init__"=none)
  (hq:∀ h' e,Heap.MadeExcOf h h' e (.ref C) rest->h.objs.size<=e->Q (.ref e) ⟨h',g,d,t,os⟩) (hrest:rest.length<=sizeLine:=by size_fits) :
  wpAny (model prog w) A (call (.ref C) rest) Q E ⟨h,g,d,t,os⟩:=by
 have f1:=tc_lookup
 have f2:=tc_bind (.ref C)
 have hT:(⟨h,g,d,t,os⟩:Shared).TypeIs (.ref C) "type":=⟨_,hC,rfl⟩
 refine wpAny_call (codeAny_of_tree ?_)
 show wpAny _ _ (callAny (.ref C) _) _ _ _
 repeat (any_goals (first|assumption|with_reducible refine wpAny_loadPart_at hC ?_|wp_step))
 refine ⟨rfl,?_⟩
 refine codeAny_call_builtin_at (Code.quiet_builtin _ (by decide +kernel)) entry_typeCall (wpAny_check_type_call_sub hC (xO (hrest:=hrest) F T hC hn hni λh' e hm hz=>?_))
 exact hq h' e hm hz
end
end PySem
namespace L2
open PySem PySem.Spec PyProof.Rows
theorem JY {K:PySem.W.Frag}{h:Heap}{N:Addr}{mg:Str->Option Value}{n:Str}{r:Option Value}(X:K.In h) (G:h.Ns N mg) (e:PySem.W.nsIn K N n=some r):mg n=r:=by
 obtain ⟨o,es,ep,ho,hd,_,hf⟩:=G
 unfold PySem.W.nsIn at e
 split at e
 ·rename_i c d es' n' sl q
  have:=X _ _ q
  rw [ho] at this
  cases this
  cases hd
  rw [<- hf]
  unfold nsFind findBy
  rw [<- Array.find?_toList]
  split at e
  ·rename_i y he;cases e;rw [he];rfl
  ·rename_i he
   split at e
   ·cases e
   ·cases e;rw [he];rfl
 ·cases e
theorem rg {K:PySem.W.Frag}{h:Heap}{C:Addr}{r:Option Value}(X:K.In h) (q:bU K C r=true) :
  ∃ bm N nm qn bs hdct sn sub ab col dd k0 k1 k2 k3 k5 mN,h.get? C=some (excClassObj nm qn C N bs bm hdct sn sub ab col dd k0 k1 k2 k3 k5 "ValueError.__new__")/\h.Ns N mN/\mN "__init__"=r/\OwnTail h wE bm:=by
 unfold bU at q
 cases ho:K.lookup C with
 |none=>rw [ho] at q;cases q
 |some o =>
  rw [ho] at q
  obtain ⟨cls,dd,dat,sl⟩:=o
  dsimp only at q
  rw [Bool.and_eq_true,beq_iff_eq] at q
  obtain ⟨rfl,q⟩:=q
  cases dat<;>try (cases q;done)
  rename_i cd
  dsimp only at q
  obtain ⟨nm,bs,mro,ns,qn,hd,sn,sub,ab,col,del⟩:=cd
  cases mro with
  |nil=>cases q
  |cons v bm =>
   simp only [Bool.and_eq_true,beq_iff_eq,Bool.not_eq_true'] at q
   obtain ⟨⟨⟨⟨⟨⟨rfl,h6⟩,h4⟩,hdel⟩,ht⟩,hok⟩,hni⟩:=q
   subst hdel
   obtain ⟨l⟩:=sl
   have h6:l.length=6:=h6
   have h4:l[4]?=some (some (.builtin "ValueError.__new__")):=h4
   obtain ⟨k0,k1,k2,k3,k4,k5,rfl⟩:∃ a b c d e f,l=[a,b,c,d,e,f]:=⟨l[0],l[1],l[2],l[3],l[4],l[5],List.ext_getElem h6 λi h1 h2=>by
    rcases i with _|_|_|_|_|_|i
    ·rfl
    ·rfl
    ·rfl
    ·rfl
    ·rfl
    ·rfl
    ·exact absurd h2 (by simp only [List.length_cons,List.length_nil];omega)⟩
   obtain rfl:k4=some (.builtin "ValueError.__new__"):=Option.some.inj h4
   have N:=Heap.Ns.of_isNs (PySem.W.isNs_of_in X hok)
   exact ⟨bm,ns,nm,qn,bs,hd,sn,sub,ab,col,dd,k0,k1,k2,k3,k5,_,X _ _ ho,N,JY X N hni,PySem.W.tail_of_in X ht⟩
theorem Ag {K:PySem.W.Frag}{h h2:Heap}{C:Addr}{r:Option Value}(X:K.In h) (X2:K.In h2) (q:bU K C r=true):h.get? C=h2.get? C:=by
 unfold bU at q
 cases ho:K.lookup C with
 |none=>rw [ho] at q;cases q
 |some o=>rw [X _ _ ho,X2 _ _ ho]
section
variable {X:Cx}{C:Addr}{x:Str}{p pos SG:Pos}{e:Expr}{es:List Expr}{t:TA}
def GR (C:Addr) (t:TA):TR:=λU H R=>t U H λvs H1=>vs.length<=2/\R C none U H1
theorem Bq (hx:bU X.K C none=true) (hk:PySem.W.keepIn X.K (.ref C)=true) (hc:X.calm=true) (hg:Gl X x) (hm:X.mg x=some (.ref C)) (ha:PA X.nox (e::es) t) (MQ:(x==("__debug__":Str))=false:=by decide)
  (he:starEach (e::es) X.env=(false,eval e X.env)::starEach es X.env:=by rfl) (M6:(backTo pos (starEach es X.env)).any (·.1)=false:=by rfl):PR X (.Raise (some (.Call (.Name x p) (e::es) [] pos)) none SG) (GR C t):=by
 intro pins s U H R I h
 obtain ⟨bm,N,nm,q,bs,hd,sn,sub,ab,col,dd,k0,k1,k2,k3,k5,mN,hC,hN,hi,T⟩:=rg I.kIn hx
 have Nt:bm.contains (.type "BaseException")=true:=T.hasType (by decide)
 rw [arm_exec_Raise]
 have go:wpAny (model X.prog X.w) X.A (eval (.Call (.Name x p) (e::es) [] pos) X.env) (λv s1=>∃ en t0,v=.ref en/\s1.heap.get? C=some (excClassObj nm q C N bs bm hd sn sub ab col dd k0 k1 k2 k3 k5 "ValueError.__new__") /\
   s1.heap.get? en=some { cls:=.ref C,data:=.fields #[.ref t0,.none,.none,.none,.bool false,.none] }/\XP X pins R (.ref en) s1) (XP X pins R) s:=by
  refine wpAny_Call_Name_kw (dW I hg hm ?_ MQ)
  refine PySem.W.callWith_K (h₀:=X.base) I.ok.mod.kin hk (eV (ha pos pins s U H _ (I.wish _) h) λus s1 ⟨vs,H1,I1,r,hl,q1⟩=>⟨I1.unwish.kIn,?_⟩) he M6
  have J:=I1.unwish
  obtain ⟨bm',N',nm',q',bs',hd',sn',sub',ab',col',Rb,k0',k1',k2',k3',k5',mN',hC',hN',hi',T'⟩:=rg J.kIn hx
  have same:s1.heap.get? C=some (excClassObj nm q C N bs bm hd sn sub ab col dd k0 k1 k2 k3 k5 "ValueError.__new__"):=by
   have z:=Ag I.kIn J.kIn hx
   rw [<- z];exact hC
  obtain ⟨hp,g,d,tk,os⟩:=s1
  refine Af PySem.F.excBase_ValueError T' hC' hN' hi' (λh' en m hz=>?_) (by have:=r.length;rw [sizeLine_eq,List.nil_append];omega)
  obtain ⟨t0,g1,g2,g3⟩:=m.there
  refine ⟨en,t0,rfl,m.keeps _ _ same,g1,?_⟩
  refine ⟨en,C,none,U,H1,hp.objs.size,rfl,J.kept (t':=tk) m.keeps,J.low,⟨_,_,.none,g1,rfl,rfl,rfl,⟨rfl,rfl⟩,hz,J.hok.fresh hz,.inl rfl⟩,q1⟩
 exact wpAny_bind (wpAny_standAt (wpAny_raiseStmt_made_sub (C:=C) (nm:=nm) (q:=q) (N:=N) (bs:=bs) (bm:=bm) (hdct:=hd) (sn:=sn) (sub:=sub) (ab:=ab) (col:=col) (dd:=dd) (k0:=k0) (k1:=k1) (k2:=k2) (k3:=k3) (k5:=k5) (newId:="ValueError.__new__") Nt (I.ok.hd hc)
  (wpAny_bind (wpAny_mono go (λv s3 h3=>wpAny_bind (wpAny_standAt (wpAny_pure h3))) λ_ _ z=>z))))
end
end L2
namespace T2
open PySem PySem.Spec PyProof.Rows L2
abbrev WX:=Addr->StT->Sto->Prop
abbrev WR:=StT->Sto->WX->Prop
def lR (K:Fg) (w:WR):TR:=λU H R=>∃ S LP Rt,SRp K H S/\Cov K H S U LP/\w LP S Rt/\∀ C LO H' L1 S',Fr H S H' S'->SRp K H' S'->Cov K H' S' LO L1->Rt C L1 S'->R C none LO H'
def QR (K:Fg) (X:Cx) (st:Stmt) (w:WR):Prop:=PR X st (lR K w)
def QRs (K:Fg) (X:Cx) (st:List Stmt) (w:WR):Prop:=PRs X st (lR K w)
def QRE (K:Fg) (X:Cx) (e:Expr) (w:WR):Prop:=PRE X e (lR K w)
def QRA (K:Fg) (X:Cx) (es:List Expr) (w:WR):Prop:=PRA X es (lR K w)
theorem PR.of {X:Cx}{e:Stmt}{t t':TR}(h:PR X e t) (i:∀ U H Q,t' U H Q->t U H Q):PR X e t':=λpins s U H Q I q=>h pins s U H Q I (i U H Q q)
theorem PRs.of {X:Cx}{e:List Stmt}{t t':TR}(h:PRs X e t) (i:∀ U H Q,t' U H Q->t U H Q):PRs X e t':=λpins s U H Q I q=>h pins s U H Q I (i U H Q q)
theorem PRE.of {X:Cx}{e:Expr}{t t':TR}(h:PRE X e t) (i:∀ U H Q,t' U H Q->t U H Q):PRE X e t':=λpins s U H Q I q=>h pins s U H Q I (i U H Q q)
abbrev bz:=List T->Sto->(Addr->Sto->Prop)->Prop
def aR (K:Fg) (w:bz):Sp:=λvs H _ E=>∃ S ts Rt,SRp K H S/\Rps K H S ts vs/\w ts S Rt/\∀ C H' S',Fr H S H' S'->SRp K H' S'->Rt C S'->E (.ref C) none H'
section
variable {K:Fg}{X:Cx}{st:Stmt}{rest:List Stmt}{w u:WS}{r r2:WR}{e:Expr}{es:List Expr}{we:WE}{pos:Pos}{t:WT}
theorem aH (h:QR K X st r):QRs K X (st::rest) r:=Bi h
def uO (w:WS) (r:WR):WR:=λU S R=>w { nx:=λLO S'=>r LO S' R,rt:=λ_ _=>False } U S
theorem bE (h1:QS K X.nox st w) (h2:QRs K X rest r):QRs K X (st::rest) (uO w r):=PRs.of (Bj h1 h2) λU H R ⟨S,LP,Rt,s,c,q,hr⟩ =>
 ⟨S,LP,_,s,c,q,⟨λLO H' L1 S' f s' c' q'=>⟨S',L1,Rt,s',c',q',λC Mz H2 Oh S2 f2=>hr C Mz H2 Oh S2 (f.trans f2)⟩,λ_ _ _ _ _ _ _ q'=>q'.elim,λ_ _ _ _ _ _ _ q'=>q'.elim,λ_ _ _ _ _ _ _ q'=>q'.elim⟩⟩
def xr (t:WT) (r r2:WR):WR:=λU S R=>t U S λb S1=>if b=true then r U S1 R else r2 U S1 R
theorem bj {c:Expr}{a b:List Stmt}(hc:QT K X.nox c t) (ha:QRs K X a r) (hb:QRs K X b r2):QR K X (.If c a b pos) (xr t r r2):=PR.of (JV hc ha hb) λU H R zz118=>by
 obtain ⟨S,LP,Rt,s,c,q,hr⟩:=zz118
 refine ⟨S,LP,_,s,c,q,λk H1 S1 f1 s1 q1=>?_⟩
 cases k with
 |true=>exact ⟨S1,LP,Rt,s1,c.fr f1,q1,λC Mz H2 Oh S2 f2=>hr C Mz H2 Oh S2 (f1.trans f2)⟩
 |false=>exact ⟨S1,LP,Rt,s1,c.fr f1,q1,λC Mz H2 Oh S2 f2=>hr C Mz H2 Oh S2 (f1.trans f2)⟩
def DG:WR:=λ_ _ _=>False
theorem bn {SA:List Stmt}:QRs K X SA DG:=λ_ _ _ _ _ _ zz119=>by obtain ⟨_,_,_,_,_,q,_⟩:=zz119;exact q.elim
theorem gQ (h:QRE K X e r) (hs:swapsWith e none pos.line X.env=pure false:=by rfl):QR K X (.Expr e pos) r:=DE h hs
theorem cV (h:QRE K X e r):QR K X (.Return (some e) pos) r:=GL h
theorem GU {x:Str}{MA:Pos}(h:QRE K X e r) (hs:swapsWith e (some (.Name x MA)) pos.line X.env=pure false:=by rfl):QR K X (.Assign [.Name x MA] e pos) r:=GN h hs
theorem Br (h:QRE K X e r) (hs:starEach (e::es) X.env=(false,eval e X.env)::starEach es X.env:=by rfl):QRA K X (e::es) r:=Bl h hs
end
section
variable {K:Fg}{X:Cx}{k:Nat}{f C:Addr}{fd:FuncData}{ps:List Str}{LV:bz}{x m:Str}{p pos SG apos:Pos}{e o:Expr}{es:List Expr}{wa:WE}{wr:WA}{r:WR}{G:Addr->Prop}
def uP (LV:bz) (wr:WA):WR:=λU S R=>wr U S λts S1=>LV (ts++[]) S1 λC S'=>R C U S'
theorem DH (F:FnOk X.prog X.w X.K X.mg X.base (CX1 X.prog X.w) k f fd ps (aR K LV)) (D:Df X.K X.mg x f fd ps) (hr:Room k X.A) (hg:Gl X x) (ha:QA K X.nox (e::es) wr)
  (MQ:(x==("__debug__":Str))=false:=by decide) (he:starEach (e::es) X.env=(false,eval e X.env)::starEach es X.env:=by rfl) (M6:(backTo pos (starEach es X.env)).any (·.1)=false:=by rfl) :
  QRE K X (.Call (.Name x p) (e::es) [] pos) (uP LV wr):=PRE.of (Bm (dvs:=[]) F hr hg D.hm D.kp D.b .nil ha MQ he M6) λU H R zz120=>by
 obtain ⟨S,LP,Rt,s,c,q,hq⟩:=zz120
 refine ⟨S,LP,_,s,c,q,λvs H1 ts S1 f1 s1 r1 q1=>?_⟩
 exact ⟨S1,_,_,s1,r1.append .nil,q1,λC H' S' f s' q'=>⟨C,rfl,hq C U H' LP S' (f1.trans f) s' (c.fr (f1.trans f)) q'⟩⟩
theorem Bs (D:Df X.K X.mg x f fd ps) (hg:Gl X x) (ha:QRA K X (e::es) r) (MQ:(x==("__debug__":Str))=false:=by decide) (he:starEach (e::es) X.env=(false,eval e X.env)::starEach es X.env:=by rfl) (M6:(backTo pos (starEach es X.env)).any (·.1)=false:=by rfl) :
  QRE K X (.Call (.Name x p) (e::es) [] pos) r:=Aa (g:=.none) hg D.hm D.kp ha MQ he M6
def jW (G:Addr->Prop) (m:Str) (LV:bz) (wa:WE) (wr:WA):WR:=λU S R=>wa U S λx S1=>∃ a C fs,x=.ref a/\S1 a=some (.ins C fs)/\G C/\fs.lookup m=none/\wr U S1 λts S2=>LV (x::(ts++[])) S2 λC S'=>R C U S'
theorem Ah {U H R}(h:lR K (jW G m LV wa wr) U H R):pq G m (aR K LV) [] (lE K wa) (lA K wr) U H R:=by
 obtain ⟨S,LP,Rt,s,c,q,hq⟩:=h
 refine ⟨S,LP,_,s,c,q,λx H1 tx S1 f1 s1 r1 q1=>?_⟩
 obtain ⟨a,C,fs,rfl,ea,g,l,q1⟩:=q1
 cases r1
 cases s1 a _ ea with
 |ins eh pr =>
  refine ⟨a,C,_,_,rfl,eh,g,cq pr l,S1,LP,_,s1,c.fr f1,q1,λvs H2 ts S2 f2 s2 r2 q2=>?_⟩
  exact ⟨S2,_,_,s2,.cons .ref (r2.append .nil),q2,λC H' S' f s' q'=>⟨C,rfl,hq C U H' LP S' ((f1.trans f2).trans f) s' (c.fr ((f1.trans f2).trans f)) q'⟩⟩
theorem bS {pl:Sem Bool}(hG:∀ C,G C->Cls X.K C/\Meth X.K C m f) (F:FnOk X.prog X.w X.K X.mg X.base (CX1 X.prog X.w) k f fd ps (aR K LV)) (hb:aw X.K fd ps []) (hr:Room k X.A) (ho:QE K X.nox o wa) (ha:QA K X.nox (e::es) wr)
  (QM:starEach (e::es) X.env=(false,eval e X.env)::starEach es X.env:=by rfl) (M6:(backTo pos (starEach es X.env)).any (·.1)=false:=by rfl)
  (ht:eval (.Call (.Attribute o m apos) (e::es) [] pos) X.env=(do
   let ov <- eval o X.env
   standAt apos.atName
   let (f,first) <- holding [ov] (getMethod ov m pl)
   callWith pos f first (backTo pos (starEach (e::es) X.env)) (backToKw pos (keywordEach [] X.env))):=by rfl) :
  QRE K X (.Call (.Attribute o m apos) (e::es) [] pos) (jW G m LV wa wr):=PRE.of (Bn (pl:=pl) (dvs:=[]) ho hG F hr hb .nil ha QM M6 ht) λ_ _ _ h=>Ah h
theorem Bt {pl:Sem Bool}(hG:∀ C,G C->Cls X.K C/\Meth X.K C m f) (F:FnOk X.prog X.w X.K X.mg X.base (CX1 X.prog X.w) k f fd ps (aR K LV)) (hb:aw X.K fd ps []) (hr:Room k X.A) (ho:QE K X.nox o wa)
  (ht:eval (.Call (.Attribute o m apos) [] [] pos) X.env=(do
   let ov <- eval o X.env
   standAt apos.atName
   let (f,first) <- holding [ov] (getMethod ov m pl)
   callWith pos f first (backTo pos (starEach [] X.env)) (backToKw pos (keywordEach [] X.env))):=by rfl) :
  QRE K X (.Call (.Attribute o m apos) [] [] pos) (jW G m LV wa eu):=PRE.of (Ac (pl:=pl) (dvs:=[]) ho hG F hr hb .nil ht) λU H R h=>by
 obtain ⟨S,LP,Rt,s,c,q,hq⟩:=h
 refine ⟨S,LP,_,s,c,q,λx H1 tx S1 f1 s1 r1 q1=>?_⟩
 obtain ⟨a,C,fs,rfl,ea,g,l,q1⟩:=q1
 cases r1
 cases s1 a _ ea with
 |ins eh pr =>
  exact ⟨a,C,_,_,rfl,eh,g,cq pr l,S1,_,_,s1,.cons .ref .nil,q1,λC H' S' f s' q'=>⟨C,rfl,hq C U H' LP S' (f1.trans f) s' (c.fr (f1.trans f)) q'⟩⟩
def tw (C:Addr) (wr:WA):WR:=λU S R=>wr U S λts S1=>ts.length<=2/\R C U S1
theorem cO (hx:bU X.K C none=true) (hk:PySem.W.keepIn X.K (.ref C)=true) (hc:X.calm=true) (hg:Gl X x) (hm:X.mg x=some (.ref C)) (ha:QA K X.nox (e::es) wr) (MQ:(x==("__debug__":Str))=false:=by decide)
  (he:starEach (e::es) X.env=(false,eval e X.env)::starEach es X.env:=by rfl) (M6:(backTo pos (starEach es X.env)).any (·.1)=false:=by rfl):QR K X (.Raise (some (.Call (.Name x p) (e::es) [] pos)) none SG) (tw C wr) :=
 PR.of (Bq hx hk hc hg hm ha MQ he M6) λU H R ⟨S,LP,Rt,s,c,q,hq⟩ =>
  ⟨S,LP,_,s,c,q,λvs H1 ts S1 f1 s1 r1 zz121=>by obtain ⟨hl,q1⟩:=zz121;exact ⟨by rw [r1.length];exact hl,hq C U H1 LP S1 f1 s1 (c.fr f1) q1⟩⟩
end
def iQ (R:Addr->Sto->Prop):WX:=λC _ S=>∃ S0,Le S0 S/\R C S0
theorem iQ.mk {R:Addr->Sto->Prop}{C:Addr}{U:StT}{S:Sto}(h:R C S):iQ R C U S:=⟨S,.refl,h⟩
theorem tD {P:Program}{w:World}{K:Fg}{mg:Str->Option Value}{base:Heap}{x qual:Str}{st:Stmt}{f:Addr}{fd:FuncData}{N ps:List Str}{k:Nat}{LV:bz}(F:FunD K x qual st f fd) (Sc:FnScope N ps (av st)) (len:∀ ts S Q,LV ts S Q->ts.length=ps.length)
  (Nr:∀ (cdv:Value) (A:Around) (outer:List Env) (s:Shared) (H:Hp) (E:XK),Room k (A.deeper (envOfC qual (av st) s.heap.objs.size f cdv)) ->
   ∃ u,QRs K (c3 CX0 P w K mg base N qual (av st) f cdv A outer s H E) (bR st) u/\∀ ts S R,LV ts S R->u (b7 N ts) S (iQ R)):FnOk P w K mg base (CX1 P w) (k+1) f fd ps (aR K LV):=by
 obtain ⟨oc,od,dV,kV,doc,pm,an,cdv,ct,osl,rfl,lk,P2⟩:=F.ex
 refine Bo lk P2 Sc (λvs H Q E ⟨S,ts,Qt,s,r,q,_⟩=>by rw [r.length];exact len _ _ _ q) λA outer s H vs E Q hr ⟨S,ts,Rt,sr,r,q,b⟩=>?_
 obtain ⟨u,hu,hq⟩:=Nr cdv A outer s H E hr
 refine ⟨_,hu,S,b7 N ts,_,sr,mL r,hq ts S Rt q,λC LO H' L1 S' f s' _ zz122=>?_⟩
 obtain ⟨S0,l,q0⟩:=zz122
 exact b C H' S0 (f.trans (Fr.le l)) (s'.le l) q0
section
variable {K:Fg}{X:Cx}{pos p:Pos}{x:Str}{B:Addr}
abbrev WH:=Addr->WS
def lH (K:Fg) (w:WH):TH:=λC D U H=>∃ S LP Dt,SRp K H S/\Cov K H S U LP/\w C Dt LP S/\EndsOk K H S Dt D
def QH (K:Fg) (X:Cx) (hs:List ExceptHandler) (w:WH):Prop:=PH X hs (lH K w)
theorem PH.of {hs:List ExceptHandler}{t t':TH}(h:PH X hs t) (i:∀ C D U H,t' C D U H->t C D U H):PH X hs t':=λpins s U H a C dct lo D I lw x q=>h pins s U H a C dct lo D I lw x (i C D U H q)
def JZ:WH:=λ_ _ _ _=>False
theorem GV:QH K X [] JZ:=PH.of GO λ_ _ _ _ zz123=>by obtain ⟨_,_,_,_,_,q,_⟩:=zz123;exact q
def oq (K:Fg) (B:Addr) (w:WS) (r:WH):WH:=λC D U S=>∃ b,PySem.W.exmOne K (.ref C) (.ref B)=some b/\if b=true then w D U S else r C D U S
theorem gR {st:Stmt}{suite:List Stmt}{hs:List ExceptHandler}{w:WS}{r:WH}(hK:X.K=K) (hg:Gl X x) (hm:X.mg x=some (.ref B)) (h1:∀ a,QSs K (X.inx a) (st::suite) w) (h2:QH K X hs r) (MQ:(x==("__debug__":Str))=false:=by decide) :
  QH K X (.ExceptHandler (some (.Name x p)) none (st::suite) pos::hs) (oq K B w r):=by
 subst hK
 refine PH.of (DF hg hm h1 h2 MQ) λC D U H zz124=>?_
 obtain ⟨S,LP,Dt,s,c,⟨b,hb,q⟩,he⟩:=zz124
 refine ⟨b,hb,?_⟩
 cases b with
 |true=>exact ⟨S,LP,Dt,s,c,q,he⟩
 |false=>exact ⟨S,LP,Dt,s,c,q,he⟩
def pP (wn:WS) (wr:WR) (wh:WH):WS:=λD U S=>wn D U S\/wr U S λC LO S'=>wh C D LO S'
theorem J0 {body:List Stmt}{hd:ExceptHandler}{hs:List ExceptHandler}{wn:WS}{wr:WR}{wh:WH}(st:X.stack=X.env::X.outer/\X.env.frame=some X.env.locals) (hn:QSs K X.nox body wn) (hr:QRs K X body wr) (hh:QH K X (hd::hs) wh) :
  QS K X (.Try body (hd::hs) [] [] pos) (pP wn wr wh):=PS.of (GQ st hn hr hh) λD U H zz125=>by
 obtain ⟨S,LP,Dt,s,c,q,he⟩:=zz125
 rcases q with q|q
 ·exact .inl ⟨S,LP,Dt,s,c,q,he⟩
 ·exact .inr ⟨S,LP,_,s,c,q,λC LO H' L1 S' f s' c' q'=>⟨S',L1,Dt,s',c',q',he.fr f⟩⟩
end
section
variable {K:Fg}{U:StT}{S:Sto}{R:WX}{D:EndsT}{w:WS}{r r2:WR}{t:WT}{we wa:WE}{wr:WA}{LV:bz}{C B:Addr}{G:Addr->Prop}{m:Str}{wh:WH}
theorem hU (h:w { nx:=λLO S'=>r LO S' R,rt:=λ_ _=>False } U S):uO w r U S R:=h
theorem iR (h:t U S λb S1=>if b=true then r U S1 R else r2 U S1 R):xr t r r2 U S R:=h
theorem GW (h:wr U S λts S1=>LV (ts++[]) S1 λC S'=>R C U S'):uP LV wr U S R:=h
theorem GX (h:wa U S λx S1=>∃ a C fs,x=.ref a/\S1 a=some (.ins C fs)/\G C/\fs.lookup m=none/\wr U S1 λts S2=>LV (x::(ts++[])) S2 λC S'=>R C U S'):jW G m LV wa wr U S R:=h
theorem DI (h:wr U S λts S1=>ts.length<=2/\R C U S1):tw C wr U S R:=h
theorem GY (h:w D U S):pP w r wh D U S:=.inl h
theorem GZ (h:r U S λC LO S'=>wh C D LO S'):pP w r wh D U S:=.inr h
theorem iB {w:WS}{r:WH}(e:PySem.W.exmOne K (.ref C) (.ref B)=some true) (h:w D U S):oq K B w r C D U S:=⟨true,e,h⟩
theorem df {w:WS}{r:WH}(e:PySem.W.exmOne K (.ref C) (.ref B)=some false) (h:r C D U S):oq K B w r C D U S:=⟨false,e,h⟩
end
end T2
namespace L2
open PySem PySem.Spec PyProof.Rows
section
variable {X:Cx}
def J1:V->V->Hp->VK->Prop:=λx y H Q=>∃ i j,x=.str i/\y=.str j/\i.length+j.length<=sizeLine/\Q (.str (i++j)) H
theorem DJ:pG X .Add J1:=λpins s U H x y u v Q I rx ry h=>yC pins s U H x y u v Q I rx ry h
variable {pos p2 p3:Pos}{value:Expr}{tv:TE}{s2:Str}{k3:Nat}
def tFr (tv:TE):TE:=λU H Q=>tv U H λx H1=>∃ z:Str,x=.str z/\z.length<=1000/\PyData.strOk z=true/\∀ y,Q (.str y) H1
theorem J4 (hv:PE X value tv) (h2:s2.length<=1000):PE X (.JoinedStr [.FormattedValue value 114 none p2,.Constant (.str s2) k3 p3] pos) (tFr tv):=by
 intro pins s U H Q I h
 refine JoinedStr_many (joinParts_cons ?_)
 show wpAny (model X.prog X.w) X.A (do let v <- eval value X.env;standAt p2;formatted p2 (<- holding [v] (converted 114 v)) none) _ _ s
 refine wpAny_bind (thn (hv pins s U H _ I h) λu sa zz126=>?_)
 obtain ⟨x,H1,I1,rx,z,ex,hz,hok,q⟩:=zz126
 subst ex
 obtain ⟨t1,rfl⟩:=(show ∃ t,u=Value.str z t from rx)
 have hr:(reprText z).length<=10002:=by
  have:=StrLaws.reprText_len z λc hc=>by
   unfold PyData.strOk at hok
   rw [Array.all_eq_true_iff_forall_mem] at hok
   have:=of_decide_eq_true (hok c (by simpa using hc))
   omega
  omega
 refine wpAny_bind (wpAny_standAt (wpAny_bind (wpAny_holding ?_)))
 show wpAny _ _ (pyReprObj (.str z t1)) _ _ _
 refine wpAny_pyReprObj_str (formatField_str (λt' tk=>?_) (by rw [sizeLine_eq];omega)) (by rw [sizeLine_eq];omega)
 have l0:(Str.empty++reprText z).length<=10002:=by rw [PySem.Str.length_append];exact (by simpa [Str.empty,PySem.Str.length] using hr)
 refine ⟨by rw [sizeLine_eq];omega,?_⟩
 refine joinParts_cons (thn (dF pins _ U H1 (λv H2=>v=.str s2/\H2=H1) (I1.tok _) ⟨rfl,rfl⟩) λu3 sc zz127=>?_)
 obtain ⟨v,H3,I3,ru3,ev,eH⟩:=zz127
 subst ev eH
 obtain ⟨t3,rfl⟩:=(show ∃ t,u3=Value.str s2 t from ru3)
 have lz:(Str.empty++reprText z++s2).length<=sizeLine:=by rw [PySem.Str.length_append,sizeLine_eq];omega
 exact ⟨lz,joinParts_nil (show EP X pins U Q _ _ from ⟨.str (Str.empty++reprText z++s2),_,I3.tok _,⟨_,rfl⟩,q _⟩) lz⟩
end
end L2
namespace T2
open PySem PySem.Spec PyProof.Rows L2
section
variable {K:Fg}{X:Cx}{pos p2 p3:Pos}{value o:Expr}{wv wa:WE}{s2:Str}{k3:Nat}{G:Addr->Prop}
def wFr (wv:WE):WE:=λU S Q=>wv U S λx S1=>∃ z:Str,x=.str z/\z.length<=1000/\PyData.strOk z=true/\∀ y,Q (.str y) S1
theorem eI (hv:QE K X value wv) (h2:s2.length<=1000:=by decide):QE K X (.JoinedStr [.FormattedValue value 114 none p2,.Constant (.str s2) k3 p3] pos) (wFr wv) :=
 PE.of (J4 hv h2) λU H Q zz128=>by
  obtain ⟨S,LP,Qt,s,c,q,hq⟩:=zz128
  refine ⟨S,LP,_,s,c,q,λx H1 tx S1 f1 s1 r1 q1=>?_⟩
  obtain ⟨z,rfl,hz,hok,q1⟩:=q1
  cases r1
  exact ⟨z,rfl,hz,hok,λy=>hq _ H1 _ S1 f1 s1 .str (q1 y)⟩
theorem Lq {U:StT}{S:Sto}{Q:T->Sto->Prop}(h:wv U S λx S1=>∃ z:Str,x=.str z/\z.length<=1000/\PyData.strOk z=true/\∀ y,Q (.str y) S1):wFr wv U S Q:=h
def rh (G:Addr->Prop) (wa wv:WE) (f:Str):WS:=λD U S=>wa U S λx S1=>∃ a C fs i,x=.ref a/\S1 a=some (.ins C fs)/\G C/\fs.lookup f=some (.str i) /\
 wv U S1 λy S2=>∃ j M7,y=.str j/\i.length+j.length<=sizeLine/\S2 a=some (.ins C M7)/\M7.length<1000/\D.nx U (put S2 a (.ins C (cf f (.str (i++j)) M7)))
theorem zc {f:Str}{NP:Pos}(hK:X.K=K) (hG:∀ C,G C->Cls K C/\aN K C f) (ha:QE K X o wa) (hv:QE K X value wv):QS K X (.AugAssign (.Attribute o f NP) .Add value pos) (rh G wa wv f):=by
 subst hK
 refine PS.of (qF ha hv DJ) λD U H zz129=>?_
 obtain ⟨S,LP,Dt,s,c,q,he⟩:=zz129
 refine ⟨S,LP,_,s,c,q,λx H1 tx S1 f1 s1 r1 q1=>?_⟩
 obtain ⟨a,C,fs,i,rfl,ea,g,l,q1⟩:=q1
 cases r1
 cases s1 a _ ea with
 |ins eh pr =>
  obtain ⟨u,lu,ru⟩:=mM pr l
  cases ru
  refine ⟨a,C,_,_,_,rfl,eh,(hG C g).1,(hG C g).2,lu,S1,LP,_,s1,c.fr f1,q1,λy H2 ty S2 f2 s2 r2 q2=>?_⟩
  obtain ⟨j,M7,rfl,hz,ea2,l2,q2⟩:=q2
  cases r2
  cases s2 a _ ea2 with
  |ins eh2 pr2 =>
   obtain ⟨fw,sw⟩:=mO (f:=f) (t:=.str (i++j)) (v:=.str (i++j)) s2 ea2 eh2 pr2 .str
   exact ⟨i,j,rfl,rfl,hz,_,_,eh2,by rw [Paired.len pr2];exact l2,he.nx _ _ LP _ ((f1.trans f2).trans fw) sw (c.fr ((f1.trans f2).trans fw)) q2⟩
theorem Bu {U:StT}{S:Sto}{D:EndsT}{f:Str}(h:wa U S λx S1=>∃ a C fs i,x=.ref a/\S1 a=some (.ins C fs)/\G C/\fs.lookup f=some (.str i) /\
 wv U S1 λy S2=>∃ j M7,y=.str j/\i.length+j.length<=sizeLine/\S2 a=some (.ins C M7)/\M7.length<1000/\D.nx U (put S2 a (.ins C (cf f (.str (i++j)) M7)))):rh G wa wv f D U S:=h
end
end T2
namespace L2
open PySem PySem.Spec PyProof.Rows
theorem r9:∀ {xs:List V}{us:List Value},xs.length=us.length->(∀ (i:Nat) x u,xs[i]?=some x->us[i]?=some u->aq x u)->am xs us
 |[],[],_,_=>.nil
 |[],u::us,h,_=>by cases h
 |x::xs,[],h,_=>by cases h
 |x::xs,u::us,h,k=>.cons (k 0 x u rfl rfl) (r9 (by simpa using h) λi y v e1 e2=>k (i+1) y v (by simpa using e1) (by simpa using e2))
noncomputable def eW (z:Str):List V:=z.cps.toList.map λc=>V.str ⟨#[c]⟩
theorem yk {X:Cx}(hc:X.calm=true):bf X (.type "list") (λxs H Q=>∃ z:Str,xs=[.str z]/\z.length<=sizeLine/\∀ l,H l=none->Q (.ref l) (upd H l (.lst (eW z)))):=by
 intro pins s U H xs us Q I r h
 obtain ⟨z,rfl,hz,q⟩:=h
 obtain ⟨u,rfl,rx⟩:=bV r
 obtain ⟨t,rfl⟩:=(show ∃ t,u=Value.str z t from rx)
 refine call_list_str (I.ok.hd hc) z t (λh' tk QV c' kp e Ml=>?_) hz
 have hl:QV.size=z.cps.size:=Ml.1
 refine ⟨.ref s.heap.objs.size,_,I.laid (t':=tk) kp (Nat.le_refl _) (show aS X.prog X.w _ h' _ (.lst (eW z)) from ⟨by unfold eW;rw [List.length_map];exact (by simpa [Str.length] using hz),QV.toList,c',r9 (by unfold eW;rw [List.length_map];simp [hl]) λi x v e1 e2=>?_,by simpa using e⟩),rfl,q _ (I.hok.fresh (Nat.le_refl _))⟩
 obtain ⟨c,u,hcc,rfl⟩:=Ml.2 i v (by simpa using e2)
 unfold eW at e1
 rw [List.getElem?_map] at e1
 have:z.cps.toList[i]?=some c:=by simpa using hcc
 rw [this] at e1
 cases e1
 exact ⟨u,rfl⟩
end L2
namespace T2
open PySem PySem.Spec PyProof.Rows L2
section
variable {K:Fg}{X:Cx}
def uQ (tr:Bool):GC:=λts S Q=>∃ z:Str,ts=[.str z]/\z.length<=sizeLine/\aZ tr (cT z) S Q
theorem Bv {H:Hp}{S:Sto}(z:Str):Rps K H S (cT z) (eW z):=by
 unfold cT eW
 induction z.cps.toList with
 |nil=>exact .nil
 |cons c l ih=>exact .cons .str ih
theorem DK (tr:Bool) (hK:X.K=K) (hc:X.calm=true):bf X (.type "list") (lC K (uQ tr)):=by
 subst hK
 rintro pins s U H xs us Q I r ⟨S,ts,Qt,sr,rs,⟨z,rfl,hz,n⟩,b⟩
 cases rs with
 |cons h rn =>
  cases rn
  cases h
  exact yk hc pins s U H _ us Q I r ⟨z,rfl,hz,dH sr (Bv z) n b⟩
theorem DL {tr:Bool}{S:Sto}{Q:T->Sto->Prop}{z:Str}(hz:z.length<=sizeLine) (h:aZ tr (cT z) S Q):uQ tr [.str z] S Q:=⟨z,rfl,hz,h⟩
end
section
variable {K:Fg}{X:Cx}{SA:List Stmt}{r1 r2:WR}
def kP (r1 r2:WR):WR:=λU S R=>r1 U S R\/r2 U S R
theorem b9 (h1:QRs K X SA r1) (h2:QRs K X SA r2):QRs K X SA (kP r1 r2):=λpins s U H Q I zz130=>by
 obtain ⟨S,LP,Rt,sr,c,q,hr⟩:=zz130
 rcases q with q|q
 ·exact h1 pins s U H Q I ⟨S,LP,Rt,sr,c,q,hr⟩
 ·exact h2 pins s U H Q I ⟨S,LP,Rt,sr,c,q,hr⟩
theorem iC {U:StT}{S:Sto}{R:WX}(h:r1 U S R):kP r1 r2 U S R:=.inl h
theorem iD {U:StT}{S:Sto}{R:WX}(h:r2 U S R):kP r1 r2 U S R:=.inr h
end
end T2
namespace L2
open PySem PySem.Spec PyProof.Rows
section
variable {X:Cx}
theorem zd {A:Around}{pins:List (Addr×Obj)}{s:Shared}{U:St}{H:Hp}{E:Value->Shared->Prop}{Q:Value->Shared->Prop}{x:V}{u t:Value}{tp:Addr}{its:List Value}{b:Bool}(I:Inv X pins U H s) (rx:aq x u) (ty:TyOf X.K H x t)
  (ht:s.heap.IsTuple tp its.toArray) (e:PySem.W.kitAny X.K t its=some b) (h:∀ tk,Q (.bool b) { s with toks:=tk }) :
  wpAny (model X.prog X.w) A (call (.builtin "isinstance") [u,.ref tp]) Q E s:=by
 obtain ⟨⟨oc,dd,od,sl⟩,Ri,hc,n,hd⟩:=ht
 simp only at hc hd
 subst hc hd
 cases ty with
 |non=>cases (show u=Value.none from rx);exact PySem.W.kia_tup PySem.W.kitx_none I.kIn True.intro Ri e (λz=>nomatch z) h
 |bl y=>cases (show u=Value.bool y from rx);exact PySem.W.kia_tup PySem.W.kitx_bool I.kIn True.intro Ri e (λz=>nomatch z) h
 |int i=>obtain ⟨t,q⟩:=(show ∃ t,u=Value.int i t from rx);cases q;exact PySem.W.kia_tup PySem.W.kitx_int I.kIn True.intro Ri e (λz=>nomatch z) h
 |str y=>obtain ⟨t,q⟩:=(show ∃ t,u=Value.str y t from rx);cases q;exact PySem.W.kia_tup PySem.W.kitx_str I.kIn True.intro Ri e (λz=>nomatch z) h
 |flt y=>obtain ⟨t,q⟩:=(show ∃ t,u=Value.float y t from rx);cases q;exact PySem.W.kia_tup PySem.W.kitx_float I.kIn True.intro Ri e (λz=>nomatch z) h
 |@lst a xs ea =>
  cases (show u=Value.ref a from rx)
  obtain ⟨_,_,n,_,h1⟩:=(show aS X.prog X.w H s.heap a (.lst xs) from I.hok a _ ea)
  exact PySem.W.kia_tup PySem.W.kitx_list I.kIn ⟨_,h1,rfl⟩ Ri e (λz=>nomatch z) h
 |@frz a ob xs ea =>
  cases (show u=Value.ref a from rx)
  obtain ⟨_,_,_,n,_,h1⟩:=(show aS X.prog X.w H s.heap a (.frz ob (.lst xs)) from I.hok a _ ea)
  exact PySem.W.kia_tup PySem.W.kitx_list I.kIn ⟨_,h1,rfl⟩ Ri e (λz=>nomatch z) h
 |@tup a xs ea =>
  cases (show u=Value.ref a from rx)
  obtain ⟨_,_,_,p⟩:=(show aS X.prog X.w H s.heap a (.tup xs) from I.hok a _ ea)
  obtain ⟨o,h1,h2,_⟩:=p
  exact PySem.W.kia_tup PySem.W.kitx_tuple I.kIn ⟨o,h1,h2⟩ Ri e (λz=>nomatch z) h
 |@dK a kvs ea =>
  cases (show u=Value.ref a from rx)
  obtain ⟨_,_,vs,_,p⟩:=(show aS X.prog X.w H s.heap a (.dK kvs) from I.hok a _ ea)
  obtain ⟨o,es,ep,h1,h2,_⟩:=p
  exact PySem.W.kia_tup PySem.W.kitx_dict I.kIn ⟨o,h1,h2.1⟩ Ri e (λz=>nomatch z) h
 |@dT a kvs ea =>
  cases (show u=Value.ref a from rx)
  obtain ⟨_,_,xs,_,o,es,ep,h1,h2,_⟩:=(show aS X.prog X.w H s.heap a (.dT kvs) from I.hok a _ ea)
  exact PySem.W.kia_tup PySem.W.kitx_dict I.kIn ⟨o,h1,h2.1⟩ Ri e (λz=>nomatch z) h
 |@ins a C dx fs ea cl ha hn htk hm =>
  cases (show u=Value.ref a from rx)
  obtain ⟨mA,O,_⟩:=gN I.hok ea
  obtain ⟨od,J,_⟩:=O.look
  exact PySem.W.kia_tup (PySem.W.kitx_own (cl.get _) cl.hd ha hn htk hm) I.kIn J Ri e (λz=>nomatch z) h
end
end L2
namespace T2
open PySem PySem.Spec PyProof.Rows L2
section
variable {K:Fg}{X:Cx}
def wm (K:Fg):GC:=λts S Q=>∃ x n m t b,ts=[x,.tup [.ty n,.ty m]]/\tyT S x=some t/\PySem.W.kitAny K t [.type n,.type m]=some b/\Q (.bl b) S
theorem G0 (hK:X.K=K):bf X (.builtin "isinstance") (lC K (wm K)):=by
 subst hK
 rintro pins s U H xs us Q I r ⟨S,ts,Qt,sr,rs,⟨x,n,m,t,k,e1,e,hk,q⟩,b⟩
 subst e1
 cases rs with
 |cons rx rs =>
  cases rs with
  |cons rt rn =>
   cases rn
   cases rt with
   |tup hn hp rr =>
    cases rr with
    |cons r1 rr =>
     cases rr with
     |cons r2 rr =>
      cases rr
      cases r1
      cases r2
      obtain ⟨u1,u2,rfl,v1,v2⟩:=ia r
      cases v2
      obtain ⟨its,rv,ht,hz⟩:=I.tuple (SqT.of hp)
      obtain ⟨w1,w2,rfl,rw1,rw2⟩:=ia rv
      cases rw1
      cases rw2
      exact zd I v1 (uA sr rx e) ht hk λtk=>⟨.bl k,H,I.tok tk,rfl,b _ H _ S .refl sr .bl q⟩
theorem uR {S:Sto}{Q:T->Sto->Prop}{n m:String}{x:T}{t:Value}{b:Bool}(e:tyT S x=some t) (hk:PySem.W.kitAny K t [.type n,.type m]=some b) (h:Q (.bl b) S):wm K [x,.tup [.ty n,.ty m]] S Q:=⟨x,n,m,t,b,rfl,e,hk,h⟩
theorem G6 {t c d:Value}(h:PySem.W.kitOne K t c=some true):PySem.W.kitAny K t [c,d]=some true:=by unfold PySem.W.kitAny;rw [h]
theorem fT {t c d:Value}{b:Bool}(h:PySem.W.kitOne K t c=some false) (h2:PySem.W.kitOne K t d=some b):PySem.W.kitAny K t [c,d]=some b:=by
 unfold PySem.W.kitAny PySem.W.kitAny PySem.W.kitAny
 rw [h,h2]
 cases b<;>rfl
end
end T2
namespace L2
open PySem PySem.Spec PyProof.Rows
section
variable {X:Cx}{pos p2 p3 p4:Pos}{value SH:Expr}{tv tv2:TE}{s2:Str}{k3:Nat}
variable {Os iter LR:Expr}{N3:List Expr}{scope:Scope}{r:TR}
end
end L2
namespace T2
open PySem PySem.Spec PyProof.Rows L2
section
variable {K:Fg}{X:Cx}{pos p2 p3 p4:Pos}{value SH:Expr}{wv wv2:WE}{s2:Str}{k3:Nat}{r:WR}
variable {Os iter LR:Expr}{N3:List Expr}{scope:Scope}
end
end T2
namespace T2
open PySem L2
end T2
namespace L2
open PySem PySem.Spec PyProof.Rows
section
variable {X:Cx}
end
end L2
namespace T2
open PySem PySem.Spec PyProof.Rows L2
section
variable {K:Fg}{X:Cx}
end
end T2
namespace L2
open PySem PySem.Spec PyProof.Rows
end L2
namespace T2
open PySem PySem.Spec PyProof.Rows L2
section
variable {K:Fg}{X:Cx}
end
end T2
namespace L2
open PySem PySem.Spec PyProof.Rows
theorem G7 {X:Cx}{tg e:Expr}{r:TR}{pos:Pos}(h:PRE X e r) (hs:swapsWithSole [tg] e pos.line X.env=pure false:=by rfl) (hw:swappedStores [tg] e X.env=pure none:=by rfl):PR X (.Assign [tg] e pos) r :=
 λpins s U H R I q=>wpAny_Assign_stores (wpAny_mono (h pins s U H R I q) (λ_ _ z=>z.elim) λ_ _ z=>z) hs hw
end L2
namespace T2
open PySem PySem.Spec PyProof.Rows L2
theorem G8 {K:Fg}{X:Cx}{tg e:Expr}{r:WR}{pos:Pos}(h:QRE K X e r) (hs:swapsWithSole [tg] e pos.line X.env=pure false:=by rfl) (hw:swappedStores [tg] e X.env=pure none:=by rfl):QR K X (.Assign [tg] e pos) r:=G7 h hs hw
section
variable {K:Fg}{X:Cx}{k:Nat}{f C:Addr}{fd:FuncData}{ps:List Str}{LV:WSp}{wsr:bz}{x m fl:Str}{p pos apos cpos MA:Pos}{e o value:Expr}{es:List Expr}{wa wv:WE}{wr:WA}{G:Addr->Prop}{i:Int}{tk:Tok}
theorem DM {pl:Sem Bool}(hG:∀ C,G C->Cls X.K C/\Meth X.K C m f) (F:FnOk X.prog X.w X.K X.mg X.base CX0 k f fd ps (lSp K LV)) (hb:aw X.K fd ps [.int i tk]) (hr:Room k X.A) (ho:QE K X o wa) (ha:QA K X (e::es) wr)
  (QM:starEach (e::es) X.env=(false,eval e X.env)::starEach es X.env:=by rfl) (M6:(backTo pos (starEach es X.env)).any (·.1)=false:=by rfl)
  (ht:eval (.Call (.Attribute o m apos) (e::es) [] pos) X.env=(do
   let ov <- eval o X.env
   standAt apos.atName
   let (f,first) <- holding [ov] (getMethod ov m pl)
   callWith pos f first (backTo pos (starEach (e::es) X.env)) (backToKw pos (keywordEach [] X.env))):=by rfl) :
  QE K X (.Call (.Attribute o m apos) (e::es) [] pos) (d3 G m LV [.int i] wa wr):=ut (dvs:=[.int i]) (λ_ _=>.cons .int .nil) (rN (pl:=pl) ho hG F hr hb (.cons ⟨tk,rfl⟩ .nil) fY ha QM M6 ht)
end
section
variable {K:Fg}{X:Cx}{pos p2 p3:Pos}{value:Expr}{tv:TE}{wv:WE}{s2:Str}{k3:Nat}
def tF2 (tv:TE):TE:=λU H Q=>tv U H λx H1=>∃ i:Int,x=.int i/\i.natAbs.log2<1920/\∀ y,Q (.str y) H1
theorem J5 (hv:PE X value tv) (h2:s2.length<=1000):PE X (.JoinedStr [.FormattedValue value (-1) none p2,.Constant (.str s2) k3 p3] pos) (tF2 tv):=by
 intro pins s U H Q I h
 refine JoinedStr_many (joinParts_cons (FormattedValue_plain (thn (hv pins s U H _ I h) λu2 sb zz131=>?_)))
 obtain ⟨x,H2,I2,rx,i,ex,hi,q⟩:=zz131
 subst ex
 obtain ⟨t2,rfl⟩:=(show ∃ t,u2=Value.int i t from rx)
 have li:(Str.ofString (toString i)).length<=1921:=by rw [PySem.ofString_length];exact int_text_length_le (by decide) hi
 have l0:(Str.empty++Str.ofString (toString i)).length<=1921:=by rw [PySem.Str.length_append];exact (by simpa [Str.empty,PySem.Str.length] using li)
 refine formatField_int_small hi ⟨by rw [sizeLine_eq];omega,?_⟩
 refine joinParts_cons (thn (dF pins _ U H2 (λv H1=>v=.str s2/\H1=H2) (I2.tok _) ⟨rfl,rfl⟩) λu3 sc zz132=>?_)
 obtain ⟨v,H3,I3,ru3,ev,eH⟩:=zz132
 subst ev eH
 obtain ⟨t3,rfl⟩:=(show ∃ t,u3=Value.str s2 t from ru3)
 have lz:(Str.empty++Str.ofString (toString i)++s2).length<=sizeLine:=by rw [PySem.Str.length_append,sizeLine_eq];omega
 exact ⟨lz,joinParts_nil (show EP X pins U Q _ _ from ⟨.str (Str.empty++Str.ofString (toString i)++s2),_,I3.tok _,⟨_,rfl⟩,q _⟩) lz⟩
def wF2 (wv:WE):WE:=λU S Q=>wv U S λx S1=>∃ i:Int,x=.int i/\i.natAbs.log2<1920/\∀ y,Q (.str y) S1
theorem Lr (hv:QE K X value wv) (h2:s2.length<=1000:=by decide):QE K X (.JoinedStr [.FormattedValue value (-1) none p2,.Constant (.str s2) k3 p3] pos) (wF2 wv) :=
 PE.of (J5 hv h2) λU H Q zz133=>by
  obtain ⟨S,LP,Qt,s,c,q,hq⟩:=zz133
  refine ⟨S,LP,_,s,c,q,λx H1 tx S1 f1 s1 r1 q1=>?_⟩
  obtain ⟨i,rfl,hi,q1⟩:=q1
  cases r1
  exact ⟨i,rfl,hi,λy=>hq _ H1 _ S1 f1 s1 .str (q1 y)⟩
theorem Lu {U:StT}{S:Sto}{Q:T->Sto->Prop}(h:wv U S λx S1=>∃ i:Int,x=.int i/\i.natAbs.log2<1920/\∀ y,Q (.str y) S1):wF2 wv U S Q:=h
end
noncomputable def d7:List T->Option (List Key)
 |[]=>some []
 |t::ts=>match cx t,d7 ts with
  |some k,some ks=>some (k::ks)
  |_,_=>none
def d8:T->Option (List Key)
 |.tup ts=>d7 ts
 |_=>none
def fo (ks:List Key):T:=.tup (ks.map keyT)
section
variable {K:Fg}{X:Cx}{H:Hp}{S:Sto}
theorem tE:∀ {ts:List T}{vs:List V}{ks:List Key},Rps K H S ts vs->d7 ts=some ks->vs=ks.map kV
 |_,_,_,.nil,e=>by cases e;rfl
 |t::ts,v::vs,ks,.cons r rs,e=>by
  unfold d7 at e
  cases e1:cx t with
  |none=>rw [e1] at e;cases e
  |some k =>
   cases e2:d7 ts with
   |none=>rw [e1,e2] at e;cases e
   |some ks' =>
    rw [e1,e2] at e
    cases e
    rw [List.map_cons,gk r e1,tE rs e2]
theorem ou {t:T}{v:V}{ks:List Key}(r:Rp K H S t v) (e:d8 t=some ks):∃ p,v=.ref p/\H p=some (.tup (ks.map kV)):=by
 cases r with
 |tup n h rs=>exact ⟨_,rfl,by rw [h,tE rs e]⟩
 |_=>cases e
theorem G9 {b:Addr}{vs:List V}(s:SRp K H S) (h:H b=some (.tup vs)):S b=none:=by
 cases e:S b with
 |none=>rfl
 |some o =>
  cases s b o e with
  |lst q _=>rw [h] at q;cases q
  |dK q _=>rw [h] at q;cases q
  |dT q _=>rw [h] at q;cases q
  |fK q _=>rw [h] at q;cases q
  |ins q _=>rw [h] at q;cases q
theorem rj:∀ {ks:List Key},Rps K H S (ks.map keyT) (ks.map kV)
 |[]=>.nil
 |k::ks=>.cons (jI k) rj
theorem DN {b:Addr}{ks:List Key}(n:S b=none) (h:H b=some (.tup (ks.map kV))):Rp K H S (fo ks) (.ref b):=.tup n h rj
theorem kE {a:Addr}{kts:List (List Key×T)}(s:SRp K H S) (e:S a=some (.dT kts)):∃ kvs,H a=some (.dT kvs)/\PrT K H S kts kvs:=by
 cases s a _ e with
 |dT h p=>exact ⟨_,h,p⟩
def wq:GM:=λx ts S Q=>∃ a kts y z ks,x=.ref a/\ts=[y,z]/\S a=some (.dT kts)/\d8 y=some ks/\Q ((aP kts ks).getD z) S
theorem Bw {κ:Type}[DecidableEq κ] {kts:List (κ×T)}{kvs:List (κ×V)}{k:κ}{z:T}{v:V}(p:PrT K H S kts kvs) (r:Rp K H S z v):Rp K H S ((aP kts k).getD z) ((bg kvs k).getD v):=by
 cases e:aP kts k with
 |none =>
  have:=mZ (k:=k) p
  rw [e] at this
  cases e2:bg kvs k with
  |none=>exact r
  |some _=>rw [e2] at this;cases this
 |some t =>
  obtain ⟨u,h1,h2⟩:=jq p e
  rw [h1];exact h2
theorem jX (hu:X.A.units+1<cLine):MtR X "dict.get" (lM K wq):=by
 rintro pins s U H x xs v us Q I rx rv ⟨S,t,ts,Qt,sr,hx,rs,⟨a,kts,y,z,ks,e,e2,ea,ek,q⟩,b⟩
 subst e e2
 cases hx
 cases rs with
 |cons ry rn =>
  cases rn with
  |cons rz rn2 =>
   cases rn2
   obtain ⟨kvs,hk,p⟩:=kE sr ea
   obtain ⟨pb,rfl,hb⟩:=ou ry ek
   obtain ⟨u1,u2,rfl,rr1,rr2⟩:=ia rv
   cases (show v=Value.ref a from rx)
   exact FB hu I (eg.t hk hb) rr1 rr2 λw' s' I' OW=>⟨_,H,I',OW,b _ H _ S .refl sr (Bw p rz) q⟩
def wu:GS:=λo i v S Q=>∃ a kts ks,o=.ref a/\S a=some (.dT kts)/\d8 i=some ks/\kts.length<sizeLine/\Q (put S a (.dT (cF kts ks v)))
theorem ow (hu:X.A.units+1<cLine):dn X (fi K wu):=by
 rintro pins s U H o i v ov iv u Q I ro ri rv ⟨S,to,ti,tv,Qt,sr,hO,hI,hV,⟨a,kts,ks,e,ea,ek,hl,q⟩,b⟩
 subst e
 cases hO
 cases (show ov=Value.ref a from ro)
 obtain ⟨kvs,hk,p⟩:=kE sr ea
 obtain ⟨pb,rfl,hb⟩:=ou hI ek
 have hn:S a≠none:=by rw [ea];simp
 refine qR hu I (e9.t hk hb (by rw [Paired.len p];exact hl)) ri rv λs' I'=>⟨_,I',?_⟩
 exact b _ _ (Fr.write hn) (sr.write hn (.dT aK (Paired.mapP (uM hV p) λ_ _ z=>⟨z.1,z.2.fr (Fr.write hn)⟩))) q
def uS:WE:=λ_ S Q=>∀ p,S p=none->Q (.ref p) (put S p (.dT []))
theorem tF {pos:Pos}:QE K X (.Dict [] [] pos) uS:=PE.of AR λU H Q ⟨S,LP,Qt,s,c,q,hq⟩=>λp hp =>
 hq _ _ (.ref p) _ (Fr.newT hp) (s.newT hp (.dT aK .nil)) .ref (q p (s.fresh hp))
end
section
variable {K:Fg}{X:Cx}{U:StT}{S:Sto}{D:EndsT}{Q:T->Sto->Prop}{R:Prop}{w:World}{a d:Addr}{t x y z:T}{kts:List (List Key×T)}{ks:List Key}{wa:WE}{o:Expr}{pos apos cpos:Pos}
theorem DO (h:∀ p,S p=none->Q (.ref p) (put S p (.dT []))):uS U S Q:=h
theorem jY (e:S a=some (.dT kts)) (ek:d8 y=some ks) (h:Q ((aP kts ks).getD z) S):wq (.ref a) [y,z] S Q:=⟨a,kts,y,z,ks,rfl,rfl,e,ek,h⟩
theorem oA {Q:Sto->Prop}(e:S a=some (.dT kts)) (ek:d8 y=some ks) (l:kts.length<sizeLine) (h:Q (put S a (.dT (cF kts ks t)))):wu (.ref a) y t S Q:=⟨a,kts,ks,rfl,e,ek,l,h⟩
theorem G' (e:S a=some (.dT kts)) (h:R):tyM "dict" S (.ref a)/\R:=⟨by simp only [tyM,e],h⟩
end
end T2
namespace PySem
open PySem.W
def cN (h:Heap) (d:Addr) (es:Array DictEntry) (ep:Nat):Prop:=∃ o,h.get? d=some o/\o.ExactDict/\o.data=.dict es ep
section
variable {prog:Program}{w:World}{A:Around}{E:Value->Shared->Prop}{s:Shared}{d it:Addr}{es:Array DictEntry}{ep i:Nat}
theorem cN.ty (x:cN s.heap d es ep):s.TypeIs (.ref d) "dict":=let ⟨o,ho,hc,_⟩:=x;⟨o,ho,hc.1⟩
theorem cN.lt {h:Heap}(x:cN h d es ep):d<h.objs.size:=let ⟨_,ho,_⟩:=x;Heap.lt_size ho
theorem cN.keep {h h':Heap}(x:cN h d es ep) (k:∀ o,h.get? d=some o->h'.get? d=some o):cN h' d es ep:=let ⟨o,ho,r⟩:=x;⟨o,k o ho,r⟩
theorem Bx {Q:Value->Shared->Prop}(hd:(d==sysModules)=false) (hm:cN s.heap d es ep)
  (hQ:Q (.ref s.heap.objs.size) { s with heap:=s.heap.push { cls:=.type "dict_keyiterator",data:=.fields #[.ref d,.int 0 0,.int es.size 0,.int ep 0] } }) :
  wpAny (model prog w) A (pyIter (.ref d)) Q E s:=by
 have hT:=hm.ty
 obtain ⟨o,ho,hc,RX⟩:=hm
 refine wpAny_pyIter_slot hT F.slot_dict_iter (wpAny_call_entry F.slot_dict_iter hT F.entry_dict_iter ?_ (F.args_dict_iter_1 _))
 unfold Builtin.«dict.__iter__»
 refine wpAny_bind ?_
 unfold Builtin.Dict.dictSlotNone
 refine wpAny_bind (wpAny_notOrdered_dict hT ?_)
 refine (show wpAny _ _ (pure (Value.ref d)) _ _ s from wpAny_pure ?_)
 refine (show wpAny _ _ (Builtin.Dict.showsAll d >>= _) _ _ s from ?_)
 unfold Builtin.Dict.showsAll
 rw [if_neg (by rw [hd];exact Bool.false_ne_true)]
 refine wpAny_bind (wpAny_pure (wpAny_bind (wpAny_dictEntries ho RX (wpAny_bind (wpAny_dictEpoch ho RX ?_)))))
 exact wpAny_bind (wpAny_newObj_type (wpAny_pure ⟨_,rfl,"dict_keyiterator",_,⟨_,Heap.get?_push_size _ rfl,rfl⟩,F.slot_dict_keyiterator_next.lookup,hQ⟩))
theorem By {Q:Option Value->Shared->Prop}{e:DictEntry}(RT:s.heap.IsKeyIter it d i es.size ep) (hm:cN s.heap d es ep) (hx:es[i]?=some e)
  (hQ:∀ h',h'.IsKeyIter it d (i+1) es.size ep->Heap.SameBut it s.heap h'->Q (some e.key) { s with heap:=h' }):wpAny (model prog w) A (pyNext (.ref it)) Q E s:=by
 have hT:=RT.typeIs
 obtain ⟨o,ho,hc,hd⟩:=id RT
 obtain ⟨od,Re,_,hdd⟩:=hm
 unfold pyNext
 refine wpAny_bind (wpAny_attempt (wpAny_callSpecial?_slot (name:=Str.ofString "__next__") hT F.slot_dict_keyiterator_next
  (wpAny_call_entry F.slot_dict_keyiterator_next hT F.entry_dict_keyiterator_next ?_ (F.args_dict_keyiterator_next_1 _))))
 refine wpAny_bind (wpAny_pure (wpAny_bind (wpAny_bind ?_)))
 first|refine wpAny_bind (wpAny_typeNameOfWhole_keyiter hT (wpAny_pure ?_))|refine wpAny_bind (wpAny_typeNameOf_keyiter hT (wpAny_pure ?_))
 refine wpAny_bind (wpAny_fieldsOf ho hd ?_)
 simp only [show Builtin.Dict_items.ownsTuple "dict_keyiterator"=false by decide,Bool.false_eq_true,if_false]
 refine (show wpAny _ _ (if (Value.ref d==Value.none)=true then _ else _) _ _ s from ?_)
 rw [if_neg (show ¬ ((Value.ref d==Value.none)=true) from Bool.false_ne_true)]
 refine wpAny_bind (wpAny_pure (wpAny_bind (wpAny_dictEntries Re hdd ?_)))
 rw [if_neg (by simp)]
 refine wpAny_bind (wpAny_pure (wpAny_bind (wpAny_dictEpoch Re hdd ?_)))
 rw [if_neg (by simp)]
 refine wpAny_pure ?_
 simp only [show ¬ ((i:Int)<0) from by omega,if_false,Int.toNat_natCast,hx]
 refine wpAny_bind ?_
 first|refine wpAny_bind (wpAny_typeNameOfWhole_keyiter hT (wpAny_pure ?_))|refine wpAny_bind (wpAny_typeNameOf_keyiter hT (wpAny_pure ?_))
 refine wpAny_bind (wpAny_isOneOf_keyiter hT ?_)
 refine (show wpAny _ _ (setField (.ref it) 1 (rawInt ((i:Int)+1)) >>= _) _ _ s from wpAny_bind (wpAny_setField ho hd (by simp) ?_))
 have RY:(s.heap.update it (Obj.mapFields (·.setIfInBounds 1 (rawInt ((i:Int)+1))))).IsKeyIter it d (i+1) es.size ep :=
  ⟨_,Heap.get?_update_self _ ho (Obj.isFreed_of_fields (Obj.data_mapFields hd _)),(Obj.cls_mapFields ..).trans hc,by rw [Obj.data_mapFields hd];simp [rawInt]⟩
 refine wpAny_bind (wpAny_holding (wpAny_bind (wpAny_isOneOf_keyiter (s:={ s with heap:=s.heap.update it (Obj.mapFields (·.setIfInBounds 1 (rawInt ((i:Int)+1)))) }) RY.typeIs ?_)))
 refine (show wpAny _ _ (pure e.key) _ _ _ from ?_)
 exact wpAny_pure (wpAny_pure ⟨_,rfl,wpAny_pure (hQ _ RY (Heap.SameBut.update ..))⟩)
theorem DP {Q:Option Value->Shared->Prop}(hh:A.handled=none) (RT:s.heap.IsKeyIter it d es.size es.size ep) (hm:cN s.heap d es ep)
  (hQ:∀ h',Heap.ExtBut it s.heap h'->Q none { s with heap:=h' }):wpAny (model prog w) A (pyNext (.ref it)) Q E s:=by
 have hT:=RT.typeIs
 obtain ⟨o,ho,hc,hd⟩:=id RT
 obtain ⟨od,Re,_,hdd⟩:=hm
 unfold pyNext
 refine wpAny_bind (wpAny_attempt (wpAny_callSpecial?_slot (name:=Str.ofString "__next__") hT F.slot_dict_keyiterator_next
  (wpAny_call_entry F.slot_dict_keyiterator_next hT F.entry_dict_keyiterator_next ?_ (F.args_dict_keyiterator_next_1 _))))
 refine wpAny_bind (wpAny_pure (wpAny_bind (wpAny_bind ?_)))
 first|refine wpAny_bind (wpAny_typeNameOfWhole_keyiter hT (wpAny_pure ?_))|refine wpAny_bind (wpAny_typeNameOf_keyiter hT (wpAny_pure ?_))
 refine wpAny_bind (wpAny_fieldsOf ho hd ?_)
 simp only [show Builtin.Dict_items.ownsTuple "dict_keyiterator"=false by decide,Bool.false_eq_true,if_false]
 refine (show wpAny _ _ (if (Value.ref d==Value.none)=true then _ else _) _ _ s from ?_)
 rw [if_neg (show ¬ ((Value.ref d==Value.none)=true) from Bool.false_ne_true)]
 refine wpAny_bind (wpAny_pure (wpAny_bind (wpAny_dictEntries Re hdd ?_)))
 rw [if_neg (by simp)]
 refine wpAny_bind (wpAny_pure (wpAny_bind (wpAny_dictEpoch Re hdd ?_)))
 rw [if_neg (by simp)]
 refine wpAny_pure ?_
 simp only [show ¬ ((es.size:Int)<0) from by omega,if_false,Int.toNat_natCast,Array.getElem?_eq_none (Nat.le_refl es.size)]
 refine wpAny_bind ?_
 first|refine wpAny_bind (wpAny_typeNameOfWhole_keyiter hT (wpAny_pure ?_))|refine wpAny_bind (wpAny_typeNameOf_keyiter hT (wpAny_pure ?_))
 refine (show wpAny _ _ (setField (.ref it) 0 .none >>= _) _ _ s from wpAny_bind (wpAny_setField ho hd (by simp) ?_))
 refine (show wpAny _ _ (newExc (.type "StopIteration") [] >>= _) _ _ _ from wpAny_bind ?_)
 simp only [newExc,newTuple]
 refine wpAny_bind (wpAny_newObj_type ?_ (by size_fits))
 refine wpAny_bind (m:=firstArgMember _ _) (wpAny_of_eq (a:=Value.none) (by first|rfl|(simp only [firstArgMember];rfl)) ?_)
 refine wpAny_newObj_type ?_ (by size_fits)
 simp only [raiseNew]
 refine wpAny_bind (wpAny_handled ?_)
 rw [show A.in1.handled=none from hh]
 refine wpAny_bind (wpAny_pure (wpAny_throw ?_))
 refine wpAny_bind (wpAny_isInstance (T:="StopIteration") (b:=true) ⟨_,Heap.get?_push_size _ rfl,rfl⟩ isSubtype_stop ?_)
 exact wpAny_pure (hQ _ (((Heap.SameBut.update ..).extBut.push _).push _))
theorem yn {h h':Heap}{it d:Addr}{i n ep:Nat}(x:h.IsKeyIter it d i n ep) (k:∀ o,h.get? it=some o->h'.get? it=some o):h'.IsKeyIter it d i n ep:=let ⟨o,ho,r⟩:=x;⟨o,k o ho,r⟩
theorem Ai (hh:A.handled=none) (Oq:d≠it) :
  Walks prog w A it [it,d] [it] es.size (λi v=>(es[i]?).map (·.key)=some v) (λi h=>h.IsKeyIter it d i es.size ep/\cN h d es ep) where
 sub:=λb hb=>by simp at hb;simp [hb]
 frame:=λ_ _ _ st hk=>⟨yn st.1 λo e=>hk it (by simp) o e,st.2.keep λo e=>hk d (by simp) o e⟩
 item:=λi s Q E hi st hQ=>By st.1 st.2 (Array.getElem?_eq_getElem hi) λh' RY RJ=>hQ _ h' s.toks (by rw [Array.getElem?_eq_getElem hi];rfl) ⟨RY,st.2.keep λo e=>RJ.extBut d o Oq e⟩ λb o hb e=>RJ.extBut b o (λh=>hb (by simp [h])) e
 done:=λs Q E st hQ=>DP hh st.1 st.2 λh' he'=>hQ h' s.toks λb o hb e=>he' b o (λh=>hb (by simp [h])) e
 self:=λ_ _ _ _ st hQ=>wpAny_pyIter_keyiter st.1 hQ
theorem DQ (lo:(d==sysModules)=false):KdlSrc prog w "dict" d d es.size (λi v=>(es[i]?).map (·.key)=some v) (λh=>cN h d es ep) where
 type:=λ_ hm=>hm.ty
 there:=λ_ hm=>⟨hm.lt,hm.lt⟩
 keep:=λ_ _ hm hk=>hm.keep λo e=>hk d (.inl rfl) o e
 notList:=by decide
 notTuple:=by decide
 hint:=λ_ _ _ _ hm hq=>kdl_hint_dict hm.ty hq
 iter:=λ_ _ hh hm=>⟨_,_,(λ_ _ hq=>Bx lo hm hq),Ai hh (Nat.ne_of_lt hm.lt),⟨⟨_,Heap.get?_push_size _ rfl,rfl,rfl⟩,hm.keep λo e=>Heap.get?_push_of_some _ e⟩⟩
end
end PySem
namespace L2
open PySem PySem.Spec PyProof.Rows
abbrev pQ (H:Hp):List Addr->List (List Key×V)->Prop:=Paired λ(b:Addr) (p:List Key×V)=>H b=some (.tup (p.1.map kV))
theorem KT.split {H:Hp}:∀ {kvs:List (List Key×V)}{xs:List (List Key×Addr×Value)},KT H kvs xs->Paired (λ(p:List Key×V) (q:List Key×Addr×Value)=>p.1=q.1/\aq p.2 q.2.2) kvs xs/\pQ H (xs.map (·.2.1)) kvs
 |_,_,.nil=>⟨.nil,.nil⟩
 |_,_,.cons h t=>⟨.cons ⟨h.1,h.2.2⟩ (KT.split t).1,.cons h.2.1 (KT.split t).2⟩
section
variable {X:Cx}{pins:List (Addr×Obj)}{U:St}{H:Hp}{s:Shared}{a:Addr}{kvs:List (List Key×V)}
theorem Ha {Q:VK}(hc:X.calm=true) (I:Inv X pins U H s) (g:H a=some (.dT kvs)) (h:∀ p bs,H p=none->pQ H bs kvs->Q (.ref p) (upd H p (.lst (bs.map V.ref)))) :
  wpAny (model X.prog X.w) X.A (call (.type "list") [.ref a]) (EP X pins U Q) X.xe s:=by
 obtain ⟨z,hd,xs,rel,dd⟩:=vK I.hok g
 obtain ⟨o,es,ep,ho,hcx,RX,he,his,hn⟩:=dd
 have hl:es.size=xs.length:=size_of_entries he
 have hl2:kvs.length=xs.length:=Paired.length rel
 refine PySem.W.kdl_call (DQ (es:=es) (ep:=ep) hd) (I.ok.hd hc) ⟨o,ho,hcx,RX⟩ (by omega) λh' tk LQ c hk P1 hi=>?_
 have hv:am ((xs.map (·.2.1)).map V.ref) LQ.toList:=by
  have Ml:LQ.toList.length=es.size:=by have:=hi.1;simpa using this
  refine nz (by rw [List.length_map,List.length_map,Ml,hl]) λj x u e1 e2=>?_
  have q:(es[j]?).map (·.key)=some u:=hi.2 j u (by rw [<- Array.getElem?_toList];exact e2)
  rw [entry_at he j] at q
  simp only [List.getElem?_map] at e1
  cases hx:xs[j]? with
  |none=>rw [hx] at e1;cases e1
  |some y =>
   rw [hx] at e1 q
   cases e1
   cases q
   rfl
 exact ⟨.ref s.heap.objs.size,_,I.laid (o:=.lst ((xs.map (·.2.1)).map V.ref)) (t':=tk) (λb u e=>hk b u e) (Nat.le_refl _) ⟨by rw [List.length_map,List.length_map];omega,LQ.toList,c,hv,by simpa using P1⟩,rfl,h _ _ (I.hok.fresh (Nat.le_refl _)) (KT.split rel).2⟩
end
end L2
namespace T2
open PySem PySem.Spec PyProof.Rows L2
section
variable {K:Fg}{X:Cx}{H:Hp}{S:Sto}
theorem sd (s:SRp K H S):∀ {kts:List (List Key×T)}{kvs:List (List Key×V)}{bs:List Addr},PrT K H S kts kvs->pQ H bs kvs->Rps K H S (kts.map λkv=>fo kv.1) (bs.map V.ref)
 |_,_,_,.nil,.nil=>.nil
 |(a,b)::l,(c,d)::l',_,.cons ⟨e,r⟩ ps,.cons h t=>by
  simp only at e;subst e
  exact .cons (DN (G9 s h) h) (sd s ps t)
def uT (tr:Bool):GC:=λts S Q=>∃ a kts,ts=[.ref a]/\S a=some (.dT kts)/\aZ tr (kts.map λkv=>fo kv.1) S Q
theorem DR (tr:Bool) (hc:X.calm=true):bf X (.type "list") (lC K (uT tr)):=by
 rintro pins s U H xs us Q I r ⟨S,ts,Qt,sr,rs,⟨a,kts,e,g,n⟩,b⟩
 subst e
 cases rs with
 |cons h rn =>
  cases rn
  cases h
  obtain ⟨u,rfl,ru⟩:=bV r
  cases (show u=Value.ref a from ru)
  obtain ⟨kvs,hk,p⟩:=kE sr g
  exact Ha hc I hk λq bs hq tu=>dH sr (sd sr p tu) n b q hq
def ww:G2:=λx y S Q=>∃ a kts ks t,x=.ref a/\S a=some (.dT kts)/\d8 y=some ks/\aP kts ks=some t/\Q t S
theorem J6 {o i:Expr}{wo wi:WE}{pos:Pos}(hu:X.A.units+1<cLine) (ho:QE K X o wo) (hi:QE K X i wi) (hs:fe i):QE K X (.Subscript o i pos) (w2 ww wo wi):=by
 refine PE.of (CL hu ho hi hs) λU H Q zz=>?_
 obtain ⟨S,LP,Qt,s,c,q,hq⟩:=zz
 refine ⟨S,LP,_,s,c,q,λx H1 tx S1 f1 s1 r1 q1=>?_⟩
 refine ⟨S1,LP,_,s1,c.fr f1,q1,λy H2 ty S2 f2 s2 r2 q2=>?_⟩
 obtain ⟨a,kts,ks,t,rfl,g,ek,l,q2⟩:=q2
 cases r1
 obtain ⟨kvs,hg,p⟩:=kE s2 g
 obtain ⟨b,rfl,hb⟩:=ou r2 ek
 obtain ⟨v,lv,rv⟩:=jq p l
 exact ⟨a,v,rfl,by rw [<- lv];exact eg.t hg hb,hq v H2 t S2 (f1.trans f2) s2 rv q2⟩
theorem Hb {Q:T->Sto->Prop}{a:Addr}{y t:T}{kts:List (List Key×T)}{ks:List Key}(g:S a=some (.dT kts)) (ek:d8 y=some ks) (l:aP kts ks=some t) (h:Q t S):ww (.ref a) y S Q:=⟨a,kts,ks,t,rfl,g,ek,l,h⟩
theorem DS {Q:T->Sto->Prop}{a:Addr}{kts:List (List Key×T)}{tr:Bool}(e:S a=some (.dT kts)) (h:aZ tr (kts.map λkv=>fo kv.1) S Q):uT tr [.ref a] S Q:=⟨a,kts,rfl,e,h⟩
def uU (k1 k2 k3 k4:Str) (w1 w2 w3 w4:WE):WE:=λU S Q=>∀ p,S p=none->w1 U (put S p (.dK [])) λt1 S1=>w2 U S1 λt2 S2=>w3 U S2 λt3 S3=>w4 U S3 λt4 S4=>S4 p=some (.dK [])/\Q (.ref p) (put S4 p (.dK [(.inr k1,t1),(.inr k2,t2),(.inr k3,t3),(.inr k4,t4)]))
theorem DT {k1 k2 k3 k4:Str}{v1 v2 v3 v4:Expr}{j1 j2 j3 j4:Nat}{p1 p2 p3 p4 pos:Pos}{w1 w2 w3 w4:WE}(Oq:k1≠k2/\k1≠k3/\k2≠k3/\k1≠k4/\k2≠k4/\k3≠k4) (h1:QE K X v1 w1) (h2:QE K X v2 w2) (h3:QE K X v3 w3) (h4:QE K X v4 w4):QE K X (.Dict [some (.Constant (.str k1) j1 p1),some (.Constant (.str k2) j2 p2),some (.Constant (.str k3) j3 p3),some (.Constant (.str k4) j4 p4)] [v1,v2,v3,v4] pos) (uU k1 k2 k3 k4 w1 w2 w3 w4):=by
 refine PE.of (sJ (fG dF h1 (fG dF h2 (fG dF h3 (fG dF h4 sI)))) rfl rfl (by simp) (Nat.le_of_ble_eq_true rfl)) λU H Q zz134=>?_
 obtain ⟨S,LP,Qt,s,c,q,hq⟩:=zz134
 intro p hp
 have f0:Fr H S (upd H p (.dK [])) (put S p (.dK [])):=Fr.newT hp
 have s0:=s.newT hp (u:=.dK []) (o:=.dK []) (.dK aK .nil)
 refine ⟨put S p (.dK []),LP,_,s0,c.fr f0,q p (s.fresh hp),λx1 H1 t1 S1 f1 sr1 r1 q1=>?_⟩
 refine ⟨S1,LP,_,sr1,(c.fr f0).fr f1,q1,λx2 H2 t2 S2 f2 sr2 r2 q2=>?_⟩
 refine ⟨S2,LP,_,sr2,((c.fr f0).fr f1).fr f2,q2,λx3 H3 t3 S3 f3 sr3 r3 q3=>?_⟩
 refine ⟨S3,LP,_,sr3,(((c.fr f0).fr f1).fr f2).fr f3,q3,λx4 H4 t4 S4 f4 sr4 r4 q4=>?_⟩
 obtain ⟨e4,q4⟩:=q4
 obtain ⟨kvs,hk,pr⟩:=gr sr4 e4
 cases pr
 refine ⟨hk,[(.inr k1,x1),(.inr k2,x2),(.inr k3,x3),(.inr k4,x4)],rfl,Nat.le_of_ble_eq_true rfl,?_⟩
 obtain ⟨n1,n2,n3,n4,n5,n6⟩:=Oq
 have em:dG [] [((.inr k1:Key),x1),(.inr k2,x2),(.inr k3,x3),(.inr k4,x4)]=[(.inr k1,x1),(.inr k2,x2),(.inr k3,x3),(.inr k4,x4)]:=by
  simp [dG,bC,n1,n2,n3,n4,n5,n6]
 rw [em]
 have hn:S4 p≠none:=by rw [e4];simp
 have fw:Fr H4 S4 (upd H4 p (.dK [(.inr k1,x1),(.inr k2,x2),(.inr k3,x3),(.inr k4,x4)])) (put S4 p (.dK [(.inr k1,t1),(.inr k2,t2),(.inr k3,t3),(.inr k4,t4)])):=Fr.write hn
 exact hq _ _ _ _ (((((f0.trans f1).trans f2).trans f3).trans f4).trans fw) (sr4.write hn (.dK aK (.cons ⟨rfl,(((r1.fr f2).fr f3).fr f4).fr fw⟩ (.cons ⟨rfl,((r2.fr f3).fr f4).fr fw⟩ (.cons ⟨rfl,(r3.fr f4).fr fw⟩ (.cons ⟨rfl,r4.fr fw⟩ .nil)))))) .ref q4
theorem DU {U:StT}{Q:T->Sto->Prop}{k1 k2 k3 k4:Str}{w1 w2 w3 w4:WE}(h:∀ p,S p=none->w1 U (put S p (.dK [])) λt1 S1=>w2 U S1 λt2 S2=>w3 U S2 λt3 S3=>w4 U S3 λt4 S4=>S4 p=some (.dK [])/\Q (.ref p) (put S4 p (.dK [(.inr k1,t1),(.inr k2,t2),(.inr k3,t3),(.inr k4,t4)]))):uU k1 k2 k3 k4 w1 w2 w3 w4 U S Q:=h
end
section
variable {K:Fg}{X:Cx}{o i a b c e:Expr}{es:List Expr}{wa wb wc wi:WE}{wr:WA}{we:WE}{pos p apos cpos:Pos}{x:Str}{k:Nat}{f:Addr}{fd:FuncData}{ps:List Str}{LV:WSp}
abbrev FnO (P:Program) (w:World) (K:Fg) (mg:Str->Option Value) (base:Heap) (n:Nat) (f:Addr) (fd:FuncData) (ps:List Str) (sp:WSp):Prop:=FnOk P w K mg base CX0 n f fd ps (lSp K sp)
theorem aB {LV:WSp}{N:List Str}{u:WS}(h:∀ v:WS,v=u->∀ ts S Q,LV ts S Q->v { nx:=λ_ S'=>Fin Q .non S',rt:=Fin Q } (b7 N ts) S):∀ ts S Q,LV ts S Q->u { nx:=λ_ S'=>Fin Q .non S',rt:=Fin Q } (b7 N ts) S:=h u rfl
theorem cv {LV:bz}{N:List Str}{u:WR}(h:∀ v:WR,v=u->∀ ts S R,LV ts S R->v (b7 N ts) S (iQ R)):∀ ts S R,LV ts S R->u (b7 N ts) S (iQ R):=h u rfl
theorem Hd {w u:WS}{D:EndsT}{U:StT}{S:Sto}(h:∀ X:StT->Sto->Prop,X=u D->w { D with nx:=X } U S):kK w u D U S:=h _ rfl
theorem ak (ha:QE K X a wa) (hc:QE K X c wc) (hK:X.K=K:=by rfl) (hs:ny c:=by exact λ_ _=>rfl):QE K X (.Subscript a c pos) (w2 gIx wa wc):=KY hK ha hc hs
theorem aM (w:World) (ho:QE K X o wa) (hi:QE K X i wi) (hw:X.w=w:=by rfl) (hs:fe i:=by exact λ_ _=>rfl):QE K X (.Subscript o i pos) (w2 (cM w) wa wi):=JJ w hw ho hi hs
theorem ay {j:Nat}(hr:Room j X.A) (ha:QE K X a wa) (hb:QE K X b wb) (hK:X.K=K:=by rfl):QT K X (.Compare a [.Eq] [b] pos) (wB (w2 (gEq false) wa wb)):=aI (eB hK hr.units) ha hb (nW _)
theorem aD {G:Addr->Prop}{fl:Str}(hG:∀ C,G C->Cls K C/\aN K C fl) (he:QE K X o wa) (hK:X.K=K:=by rfl) (hb:attributeBase o fl X.env (eval o X.env)=eval o X.env:=by rfl):QE K X (.Attribute o fl pos) (kL G wa fl):=JI hK hG he hb
theorem aJ {id:String}{g:GC}(hc:bf X (.builtin id) (lC K g)) (hm:X.mg x=none) (hv:bootBuiltins x=some (.builtin id)) (ha:QA K X (e::es) wr) (hg:Gl X x:=by rfl) (hn:x ≠ "__name__":=by decide) (MQ:(x==("__debug__":Str))=false:=by decide)
  (he:starEach (e::es) X.env=(false,eval e X.env)::starEach es X.env:=by rfl) (M6:(backTo pos (starEach es X.env)).any (·.1)=false:=by rfl):QE K X (.Call (.Name x p) (e::es) [] pos) (wCB g wr):=Lj hc hg hm hv ha hn MQ he M6
theorem ax (F:FnOk X.prog X.w X.K X.mg X.base CX0 k f fd ps (lSp K LV)) (D:Df X.K X.mg x f fd ps) (hr:Room k X.A) (ha:QA K X (e::es) wr) (hg:Gl X x:=by rfl)
  (MQ:(x==("__debug__":Str))=false:=by decide) (he:starEach (e::es) X.env=(false,eval e X.env)::starEach es X.env:=by rfl) (M6:(backTo pos (starEach es X.env)).any (·.1)=false:=by rfl) :
  QE K X (.Call (.Name x p) (e::es) [] pos) (ir LV [] wr):=Gx F D hr hg ha MQ he M6
theorem az (i:Nat) {MA:Pos}(hN:X.N.Nodup) (he:QE K X e we) (hi:X.N[i]?=some x:=by rfl) (hx:Loc X.env.scope x:=by first|exact Or.inl rfl|exact Or.inr rfl) (hs:swapsWith e (some (.Name x MA)) pos.line X.env=pure false:=by rfl)
  (hf:X.fn x=true\/X.env.scope.names.lookup x=some .local:=by first|exact .inl rfl|exact .inr rfl|assumption):QS K X (.Assign [.Name x MA] e pos) (fg we (wgN i)):=ID hN hi hx he hs hf
theorem aW (i:Nat) (hN:X.N.Nodup) (hi:X.N[i]?=some x:=by rfl) (hx:Loc X.env.scope x:=by first|exact Or.inl rfl|exact Or.inr rfl) (hf:X.fn x=true\/X.env.scope.names.lookup x=some .local:=by first|exact .inl rfl|exact .inr rfl|assumption):QG K X (.Name x pos) (wgN i):=Dp hN hi hx hf
theorem bu {tg:Expr}{g:WG}(he:QE K X e we) (hg:QG K X tg g) (h:∀ {t g},PE X e t->PG X tg g->PS X (.Assign [tg] e pos) (gx t g):=by exact λh g=>L2.E2 h g):QS K X (.Assign [tg] e pos) (fg we g):=IC h he hg
theorem bA {g:GS}(ho:QE K X o wa) (hi:QE K X i wi) (hs:dn X (fi K g)) (h:∀ {to ti t},PE X o to->PE X i ti->dn X t->PG X (.Subscript o i pos) (L2.e8 to ti t):=by exact λh1 h2 h3=>L2.E1 h1 h2 h3):QG K X (.Subscript o i pos) (wgS wa wi g):=Gy ho hi hs h
theorem bK {ty id:String}{m:Str}{gm:GM}(pa:PlainAttrs ty) (slot:Slot ty m id) (Q4:typeOf (.builtin id)=pure (.type "method_descriptor")) (hm:MtR X id (lM K gm)) (ho:QE K X o wa) (ha:QA K X (e::es) wr) (hK:X.K=K:=by rfl)
  (Nt:attributeBase o m X.env (eval o X.env)=eval o X.env:=by rfl)
  (Sv:((backTo cpos (starEach (e::es) X.env)).all (λx=>!x.1)&&(backToKw cpos (keywordEach [] X.env)).all (λx=>x.1.isSome)
   && decide ((e::es).length+([]:List Keyword).length+(if ([]:List Keyword).isEmpty then 0 else 1)<30))=true:=by rfl)
  (NQ:(apos.endLine==cpos.line)=true:=by rfl) (hs:starEach (e::es) X.env=(false,eval e X.env)::starEach es X.env:=by rfl) (NI:(backTo cpos (starEach es X.env)).any (·.1)=false:=by rfl) :
  QE K X (.Call (.Attribute o m apos) (e::es) [] cpos) (wBM ty gm wa wr):=Ll hK pa slot Q4 hm ho ha λh1 h2 h3=>Ip pa slot Q4 h2 h1 h3 Nt Sv NQ hs NI
end
end T2
open PySem
namespace Sc
noncomputable def isL (c:Nat):Bool:=decide (97<=c)&&decide (c<=122)
def isP (p:List Nat):Bool:=decide (1<=p.length)&&decide (p.length<=12)&&p.all isL
noncomputable def bQ:List Nat->Nat->Nat->Option (Nat×Nat)
 |[],z,n=>some (z,n)
 |c::r,z,n=>if c=32 then (if z=0 then none else bQ r 0 (n+1)) else if isL c=true then (if z+1>12 then none else bQ r (z+1) n) else none
noncomputable def fin:Option (Nat×Nat)->Bool
 |none=>false
 |some (z,n)=>decide (0<z)&&decide (n<5)
theorem mQ:∀ (p rest:List Nat) (z n:Nat),32∉p->z<=12->bQ (p++rest) z n=if (p.all isL&&decide (z+p.length<=12))=true then bQ rest (z+p.length) n else none
 |[],rest,z,n,_,hz=>by simp [hz]
 |c::p,rest,z,n,h,hz=>by
  have hc:c≠32:=λe=>h (by simp [e])
  have hp:32∉p:=λe=>h (by simp [e])
  have ih:=mQ p rest (z+1) n hp
  show bQ (c::(p++rest)) z n=_
  rw [bQ,if_neg hc]
  cases hl:isL c with
  |false=>simp [hl]
  |true =>
   rw [if_pos rfl]
   by_cases hz2:z+1>12
   ·rw [if_pos hz2]
    have:¬ (z+(c::p).length<=12):=by simp;omega
    simp [this]
    omega
   ·rw [if_neg hz2,ih (by omega)]
    have e:z+1+p.length=z+(c::p).length:=by simp;omega
    rw [e]
    simp [hl]
noncomputable def aU (g:List Nat):List (List Nat)->List Nat
 |[]=>[]
 |[p]=>p
 |p::q::r=>p++g++aU g (q::r)
theorem m3:∀ (ps:List (List Nat)) (n:Nat),ps≠[]->(∀ p∈ps,32∉p)->fin (bQ (aU [32] ps) 0 n)=(decide (ps.length+n<=5)&&ps.all isP)
 |[],_,h,_=>absurd rfl h
 |[p],n,_,hf=>by
  have h:=mQ p [] 0 n (hf p (by simp)) (by omega)
  rw [List.append_nil] at h
  show fin (bQ p 0 n)=_
  rw [h]
  simp only [Nat.zero_add,List.length_singleton,List.all_cons,List.all_nil,Bool.and_true]
  by_cases hc:(p.all isL&&decide (p.length<=12))=true
  ·rw [if_pos hc]
   simp only [Bool.and_eq_true,decide_eq_true_eq] at hc
   simp only [bQ,fin,isP,hc.1,hc.2,decide_true,Bool.and_true]
   rw [Bool.eq_iff_iff]
   simp only [Bool.and_eq_true,decide_eq_true_eq]
   omega
  ·rw [if_neg hc]
   have:isP p=false:=by
    simp only [isP]
    rw [Bool.eq_false_iff]
    intro z
    simp only [Bool.and_eq_true,decide_eq_true_eq] at z hc
    exact hc ⟨z.2,z.1.2⟩
   simp [fin,this]
 |p::q::r,n,_,hf=>by
  have h:=mQ p (32::aU [32] (q::r)) 0 n (hf p (by simp)) (by omega)
  have ih:=m3 (q::r) (n+1) (by simp) λx hx=>hf x (List.mem_cons_of_mem _ hx)
  have e:aU [32] (p::q::r)=p++32::aU [32] (q::r):=by simp [aU]
  rw [e,h]
  simp only [Nat.zero_add]
  by_cases hc:(p.all isL&&decide (p.length<=12))=true
  ·rw [if_pos hc]
   simp only [Bool.and_eq_true,decide_eq_true_eq] at hc
   rw [bQ,if_pos rfl]
   by_cases hz:p.length=0
   ·rw [if_pos hz]
    have:isP p=false:=by simp [isP,hz]
    simp [fin,this]
   ·rw [if_neg hz,ih]
    have:isP p=true:=by
     simp only [isP,hc.1,hc.2,decide_true,Bool.and_true,decide_eq_true_eq]
     omega
    have ea:(p::q::r).all isP=(q::r).all isP:=by rw [List.all_cons,this,Bool.true_and]
    rw [ea]
    have e2:(q::r).length+(n+1)=(p::q::r).length+n:=by simp;omega
    rw [e2]
  ·rw [if_neg hc]
   have:isP p=false:=by
    simp only [isP]
    rw [Bool.eq_false_iff]
    intro z
    simp only [Bool.and_eq_true,decide_eq_true_eq] at z hc
    exact hc ⟨z.2,z.1.2⟩
   simp [fin,this]
theorem tG (c:Nat):decide (c∈[97,98,99,100,101,102,103,104,105,106,107,108,109,110,111,112,113,114,115,116,117,118,119,120,121,122])=isL c:=by
 have lo:∀ c<123,decide (c∈[97,98,99,100,101,102,103,104,105,106,107,108,109,110,111,112,113,114,115,116,117,118,119,120,121,122])=isL c:=by decide +kernel
 by_cases h:c<123
 ·exact lo c h
 ·have hi:∀ x∈[97,98,99,100,101,102,103,104,105,106,107,108,109,110,111,112,113,114,115,116,117,118,119,120,121,122],x<123:=by decide +kernel
  rw [decide_eq_false λq=>h (hi c q)]
  unfold isL
  rw [decide_eq_false (p:=c<=122) λq=>h (Nat.lt_succ_of_le q),Bool.and_false]
theorem He (a b:Nat):decide ([a]<[b])=decide (a<b):=by
 rw [Bool.eq_iff_iff]
 simp [List.cons_lt_cons_iff]
end Sc
namespace Wm
open PySem
theorem mD (g:List Nat):∀ ps:List (List Nat),Sc.aU g ps=Tm.aU g ps
 |[]=>rfl
 |[p]=>rfl
 |p::q::r=>by
  show p++g++Sc.aU g (q::r)=p++g++Tm.aU g (q::r)
  rw [mD g (q::r)]
noncomputable def Wd (z:Str):Bool:=decide (z.length<=24)&&Sc.fin (Sc.bQ (Tm.tl z) 0 1)
theorem qB (z:Str):Sc.fin (Sc.bQ (Tm.tl z) 0 1)=(decide ((Txt.split z " ").length<=4)&&(Txt.split z " ").all λp=>Sc.isP (Tm.tl p)):=by
 have hn:=PyProof.Rows.split_pos z " "
 rw [<- Tm.mC z,<- mD,Sc.m3 _ 1 (by simp [Tm.A9]) (Tm.split_free z),List.length_map,List.all_map]
 congr 1
 rw [Bool.eq_iff_iff]
 simp only [decide_eq_true_eq]
 omega
theorem Hf:Tm.tl "abcdefghijklmnopqrstuvwxyz"=[97,98,99,100,101,102,103,104,105,106,107,108,109,110,111,112,113,114,115,116,117,118,119,120,121,122]:=by decide +kernel
theorem Hg (c:Nat):(!(Builtin.Str.occurrences ("abcdefghijklmnopqrstuvwxyz":Str) ⟨#[c]⟩ 0 ("abcdefghijklmnopqrstuvwxyz":Str).length 1).isEmpty)=Sc.isL c:=by
 rw [PySem.StrLaws.found_one,show ("abcdefghijklmnopqrstuvwxyz":Str).cps.toList=_ from Hf,Sc.tG]
theorem uV (c d:Nat):T2.ltS ⟨#[c]⟩ ⟨#[d]⟩=decide (c<d):=by
 unfold T2.ltS
 exact Sc.He c d
theorem Hh (c:Nat):(!T2.ltS ⟨#[c]⟩ "a" && !T2.ltS "z" ⟨#[c]⟩)=Sc.isL c:=by
 rw [show ("a":Str)=⟨#[97]⟩ by decide +kernel,show ("z":Str)=⟨#[122]⟩ by decide +kernel,uV,uV,Bool.eq_iff_iff]
 simp only [Sc.isL,Bool.and_eq_true,Bool.not_eq_true',decide_eq_false_iff_not,decide_eq_true_eq]
 omega
theorem all_map (l:List Bool):T2.eD (l.map T2.T.bl)=some l:=by
 induction l with
 |nil=>rfl
 |cons a l ih=>simp [T2.eD,ih]
theorem tH {α β:Type}(f:α->β) (l:List α):l.filterMap (λx=>some (f x))=l.map f:=by
 induction l with
 |nil=>rfl
 |cons a l ih=>simp [ih]
end Wm
namespace Wm
open PySem
theorem rp:∀ (ls:List (List Nat)),Tm.aU [] ls=ls.flatten
 |[]=>rfl
 |[p]=>by simp [Tm.aU]
 |p::q::r=>by
  show p++[]++Tm.aU [] (q::r)=_
  rw [rp (q::r)];simp
theorem jz {ys:List Str}(h1:∀ y∈ys,∃ c,y=⟨#[c]⟩/\Sc.isL c=true) (h2:1<=ys.length) (h3:ys.length<=12):Sc.isP (Tm.tl (Txt.join "" ys))=true:=by
 rw [Tm.jH,Tm.empty,rp]
 have len:((ys.map Tm.tl).flatten).length=ys.length:=by
  clear h2 h3
  induction ys with
  |nil=>rfl
  |cons y l ih =>
   obtain ⟨c,rfl,_⟩:=h1 y (by simp)
   simp only [List.map_cons,List.flatten_cons,List.length_append,ih λz hz=>h1 z (by simp [hz]),List.length_cons]
   simp [Tm.tl];omega
 unfold Sc.isP
 rw [len]
 simp only [Bool.and_eq_true,decide_eq_true_eq]
 refine ⟨⟨h2,h3⟩,?_⟩
 rw [List.all_eq_true]
 intro c hc
 rw [List.mem_flatten] at hc
 obtain ⟨l,hl,hc⟩:=hc
 rw [List.mem_map] at hl
 obtain ⟨y,hy,rfl⟩:=hl
 obtain ⟨d,rfl,hd⟩:=h1 y hy
 simp [Tm.tl] at hc
 rw [hc];exact hd
theorem Bz {p:List Nat}(h:Sc.isP p=true):32∉p:=λhm=>by
 unfold Sc.isP at h
 simp only [Bool.and_eq_true,List.all_eq_true] at h
 have:=h.2 32 hm
 simp [Sc.isL] at this
theorem DV {ps:List Str}(h1:∀ p∈ps,Sc.isP (Tm.tl p)=true) (h2:ps≠[]) (h3:ps.length<=4):Sc.fin (Sc.bQ (Tm.tl (Txt.join " " ps)) 0 1)=true:=by
 rw [Tm.jH,Tm.kA,<- mD]
 rw [Sc.m3 (ps.map Tm.tl) 1 (by simpa using h2) (λp hp=>by
  rw [List.mem_map] at hp
  obtain ⟨y,hy,rfl⟩:=hp
  exact Bz (h1 y hy))]
 simp only [List.length_map,Bool.and_eq_true,decide_eq_true_eq,List.all_map,List.all_eq_true]
 exact ⟨by omega,λp hp=>h1 p hp⟩
theorem hZ {z:Str}(h:Wd z=true):1<=z.length/\z.length<=24:=by
 unfold Wd at h
 simp only [Bool.and_eq_true,decide_eq_true_eq] at h
 refine ⟨?_,h.1⟩
 rcases Nat.eq_zero_or_pos z.length with e|e
 ·have:Tm.tl z=[]:=List.length_eq_zero_iff.mp (by rw [Tm.len];exact e)
  rw [this] at h
  simp [Sc.bQ,Sc.fin] at h
 ·exact e
theorem nI:∀ (l:List Nat) (z n:Nat){p:Nat×Nat},Sc.bQ l z n=some p->∀ c∈l,c=32\/Sc.isL c=true
 |[],_,_,_,_,c,hc=>by cases hc
 |d::l,z,n,p,h,c,hc=>by
  rw [Sc.bQ] at h
  rcases List.mem_cons.mp hc with rfl|hc
  ·by_cases e:c=32
   ·exact .inl e
   ·rw [if_neg e] at h
    split at h
    ·exact .inr ‹_›
    ·cases h
  ·split at h
   ·split at h
    ·cases h
    ·exact nI l _ _ h c hc
   ·split at h
    ·split at h
     ·cases h
     ·exact nI l _ _ h c hc
    ·cases h
theorem BA {z:Str}(h:Wd z=true):∀ c∈Tm.tl z,c=32\/Sc.isL c=true:=by
 unfold Wd at h
 simp only [Bool.and_eq_true] at h
 cases q:Sc.bQ (Tm.tl z) 0 1 with
 |none=>rw [q] at h;simp [Sc.fin] at h
 |some p=>exact nI _ _ _ q
theorem iE {z:Str}(h:Wd z=true):PyData.strOk z=true:=by
 unfold PyData.strOk
 rw [Array.all_eq_true_iff_forall_mem]
 intro c hc
 have:=BA h c (by simpa [Tm.tl] using hc)
 rw [decide_eq_true_eq]
 rcases this with e|e
 ·omega
 ·simp only [Sc.isL,Bool.and_eq_true,decide_eq_true_eq] at e;omega
end Wm
namespace Rk
open PySem T2 S6
abbrev Rt:=Str×Int
noncomputable def rt (a:Rt):T:=.tup [.str a.1,.int a.2]
noncomputable def ky (a:Rt):Ky:=.cons (.i (-a.2)) (.cons (.s a.1) .nil)
theorem oB (a:Rt):tre (ky a)=.tup [.int (-a.2),.str a.1]:=by simp [ky,tre,iO]
def ah (a b:Rt):Bool:=Ky.lt (ky a) (ky b)
theorem jZ (a b:Rt):Ky.shp (ky a) (ky b)=true:=rfl
theorem Hi {a b:Rt}(h:ky a=ky b):a=b:=by
 simp only [ky,Ky.cons.injEq,Ky.i.injEq,Ky.s.injEq,and_true] at h
 exact Prod.ext h.2 (by omega)
theorem BB {a b c:Rt}(h1:ah a b=true) (h2:ah b c=true):ah a c=true:=Ky.trans (jZ _ _) (jZ _ _) h1 h2
theorem uW (a b:Rt):ah a b=true\/a=b\/ah b a=true:=by
 rcases Ky.tri (jZ a b) with h|h|h
 ·exact .inl h
 ·exact .inr (.inl (Hi h))
 ·exact .inr (.inr h)
theorem DW {a b:Rt}(h:ah a b=true):ah b a=false:=Ky.Lh (jZ _ _) h
noncomputable def kyT:T->Ky
 |.tup [.str w,.int n]=>ky (w,n)
 |_=>.nil
theorem uX (a:Rt):kyT (rt a)=ky a:=rfl
noncomputable def ins (LQ:List Rt) (a:Rt):List Rt:=LQ.takeWhile (λx=>ah x a)++a::LQ.dropWhile (λx=>ah x a)
def bst (l:List Rt):List Rt:=l.foldl ins []
theorem m5 (LQ:List Rt) (a:Rt):(ins LQ a).Perm (a::LQ):=by
 unfold ins
 refine (List.perm_middle).trans ?_
 rw [List.takeWhile_append_dropWhile]
theorem rq:∀ (l LQ:List Rt),(l.foldl ins LQ).Perm (l++LQ)
 |[],LQ=>by simp
 |a::l,LQ=>by
  rw [List.foldl_cons]
  refine (rq l (ins LQ a)).trans ?_
  refine ((m5 LQ a).append_left l).trans ?_
  exact List.perm_middle
theorem dU (l:List Rt):(bst l).Perm l:=by
 have:=rq l []
 rwa [List.append_nil] at this
theorem ze {LQ:List Rt}{a:Rt}(h:LQ.Pairwise λx y=>ah x y=true) (hn:a∉LQ):(ins LQ a).Pairwise λx y=>ah x y=true:=by
 induction LQ with
 |nil=>simp [ins]
 |cons b l ih =>
  have hb:b≠a:=λe=>hn (by simp [e])
  obtain ⟨h1,h2⟩:=List.pairwise_cons.mp h
  have Su:a∉l:=λe=>hn (by simp [e])
  unfold ins
  by_cases q:ah b a=true
  ·rw [List.takeWhile_cons,if_pos q,List.dropWhile_cons,if_pos q,List.cons_append]
   refine List.pairwise_cons.mpr ⟨λx hx=>?_,ih h2 Su⟩
   have:=(m5 l a).mem_iff.mp (show x∈ins l a from hx)
   rcases List.mem_cons.mp this with rfl|hx
   ·exact q
   ·exact h1 x hx
  ·rw [List.takeWhile_cons,if_neg q,List.dropWhile_cons,if_neg q,List.nil_append]
   have ab:ah a b=true:=by
    rcases uW a b with z|z|z
    ·exact z
    ·exact (hb z.symm).elim
    ·exact (q z).elim
   refine List.pairwise_cons.mpr ⟨λx hx=>?_,h⟩
   rcases List.mem_cons.mp hx with rfl|hx
   ·exact ab
   ·exact BB ab (h1 x hx)
theorem qm:∀ (l LQ:List Rt),(l++LQ).Nodup->(LQ.Pairwise λx y=>ah x y=true)->((l.foldl ins LQ).Pairwise λx y=>ah x y=true)
 |[],LQ,_,h=>h
 |a::l,LQ,hn,h=>by
  rw [List.foldl_cons]
  have hm:a∉LQ:=λe=>by
   rw [List.cons_append,List.nodup_cons] at hn
   exact hn.1 (List.mem_append_right _ e)
  refine qm l (ins LQ a) ?_ (ze h hm)
  have p:(l++ins LQ a).Perm (a::l++LQ):=((m5 LQ a).append_left l).trans List.perm_middle
  exact p.nodup_iff.mpr hn
theorem zg {l:List Rt}(h:l.Nodup):(bst l).Pairwise λx y=>ah x y=true:=qm l [] (by simpa using h) .nil
theorem xt:∀ {l m:List Rt},(l.Pairwise λx y=>ah x y=true)->(m.Pairwise λx y=>ah x y=true)->l.Perm m->l=m
 |[],m,_,_,p=>(List.perm_nil.mp p.symm).symm
 |a::l,[],_,_,p=>absurd p.length_eq (by simp)
 |a::l,b::m,h1,h2,p=>by
  obtain ⟨a1,a2⟩:=List.pairwise_cons.mp h1
  obtain ⟨b1,b2⟩:=List.pairwise_cons.mp h2
  have e:a=b:=by
   rcases List.mem_cons.mp (p.mem_iff.mp (List.mem_cons_self ..):a∈b::m) with e|e
   ·exact e
   ·rcases List.mem_cons.mp (p.mem_iff.mpr (List.mem_cons_self ..):b∈a::l) with q|q
    ·exact q.symm
    ·have x1:=a1 b q
     have x2:=b1 a e
     rw [DW x1] at x2;cases x2
  subst e
  rw [xt a2 b2 (List.perm_cons a |>.mp p)]
theorem BC {l:List Rt}(h:(l.map (·.1)).Nodup):l.Nodup:=by
 unfold List.Nodup at h ⊢
 rw [List.pairwise_map] at h
 exact h.imp fun {a b} Oq e=>Oq (by rw [e])
theorem Aj {l l':List Rt}(hn:l.Nodup) (p:l'.Perm l) (h:l'.Pairwise λa b=>Ky.lt (kyT (rt b)) (kyT (rt a))=false):l'=bst l:=by
 refine xt ?_ (zg hn) (p.trans (dU l).symm)
 have n':l'.Nodup:=p.nodup_iff.mpr hn
 refine (h.and n').imp fun {a b} hab=>?_
 rcases uW a b with z|z|z
 ·exact z
 ·exact (hab.2 z).elim
 ·have:=hab.1
  rw [uX,uX] at this
  rw [show Ky.lt (ky b) (ky a)=true from z] at this;cases this
theorem J7 {S:Sto}{Q:T->Sto->Prop}{a:Rt}(h:Q (.str a.1) S):gIx (rt a) (.int 0) S Q:=gi (t:=.str a.1) rfl h
end Rk
namespace As
open PySem T2
variable {α β:Type}
noncomputable def kt (f:α->T) (l:List (Str×α)):List (L2.Key×T):=l.map λa=>(Sum.inr a.1,f a.2)
noncomputable def look (l:List (Str×α)) (z:Str):Option α:=(l.find? λa=>decide (a.1=z)).map (·.2)
noncomputable def pu (l:List (Str×α)) (z:Str) (x:α):List (Str×α):=if (l.any λa=>decide (a.1=z))=true then l.map (λa=>if a.1=z then (a.1,x) else a) else l++[(z,x)]
noncomputable def dr (l:List (Str×α)) (z:Str):List (Str×α):=l.filter λa=>decide (a.1≠z)
theorem ba (f:α->T) (z:Str):∀ l:List (Str×α),aP (kt f l) (Sum.inr z)=(look l z).map f
 |[]=>rfl
 |a::l=>by
  have ih:=ba f z l
  unfold aP kt look at *
  rw [List.map_cons,List.find?_cons,List.find?_cons]
  by_cases e:a.1=z
  ·simp [e]
  ·have e2:¬ (Sum.inr a.1:L2.Key)=Sum.inr z:=λq=>e (Sum.inr.inj q)
   simp only [e,e2,decide_false]
   exact ih
theorem uY (f:α->T) (z:Str):∀ l:List (Str×α),((kt f l).any λkv=>decide (kv.1=Sum.inr z))=l.any λa=>decide (a.1=z)
 |[]=>rfl
 |a::l=>by
  have ih:=uY f z l
  unfold kt at *
  rw [List.map_cons,List.any_cons,List.any_cons,ih]
  congr 1
  rw [Bool.eq_iff_iff]
  simp
theorem fU (f:α->T) (l:List (Str×α)) (z:Str) (x:α):cF (kt f l) (Sum.inr z) (f x)=kt f (pu l z x):=by
 unfold cF pu
 rw [uY]
 split
 ·unfold kt
  rw [List.map_map,List.map_map]
  refine List.map_congr_left λa _=>?_
  by_cases e:a.1=z
  ·simp [e]
  ·have e2:¬ (Sum.inr a.1:L2.Key)=Sum.inr z:=λq=>e (Sum.inr.inj q)
   simp [e]
 ·unfold kt;simp
theorem jJ (f:α->T) (l:List (Str×α)) (z:Str):gj (kt f l) (Sum.inr z)=kt f (dr l z):=by
 unfold gj dr kt
 rw [List.filter_map]
 congr 1
 refine List.filter_congr λa _=>?_
 rw [Bool.eq_iff_iff]
 simp
theorem se (g:α->β) (z:Str):∀ l:List (Str×α),look (l.map λa=>(a.1,g a.2)) z=(look l z).map g
 |[]=>rfl
 |a::l=>by
  have ih:=se g z l
  unfold look at *
  rw [List.map_cons,List.find?_cons,List.find?_cons]
  by_cases e:a.1=z
  ·simp [e]
  ·simp only [e,decide_false];exact ih
theorem Hj (g:α->β) (l:List (Str×α)) (z:Str) (x:α):pu (l.map λa=>(a.1,g a.2)) z (g x)=(pu l z x).map λa=>(a.1,g a.2):=by
 unfold pu
 have:((l.map λa=>(a.1,g a.2)).any λa=>decide (a.1=z))=l.any λa=>decide (a.1=z):=by rw [List.any_map];rfl
 rw [this]
 split
 ·rw [List.map_map,List.map_map]
  refine List.map_congr_left λa _=>?_
  by_cases e:a.1=z<;>simp [e]
 ·simp
theorem Hk (g:α->β) (l:List (Str×α)) (z:Str):dr (l.map λa=>(a.1,g a.2)) z=(dr l z).map λa=>(a.1,g a.2):=by
 unfold dr
 rw [List.filter_map]
 rfl
theorem cP {l:List (Str×α)}{z:Str}{x:α}(h:look l z=some x):(z,x)∈l:=by
 unfold look at h
 rw [Option.map_eq_some_iff] at h
 obtain ⟨a,h1,h2⟩:=h
 have h3:=List.find?_some h1
 have h4:=List.mem_of_find?_eq_some h1
 simp only [decide_eq_true_eq] at h3
 rw [<- h3,<- h2];exact h4
theorem tI {l:List (Str×α)}(hn:(l.map (·.1)).Nodup){a:Str×α}(h:a∈l):look l a.1=some a.2:=by
 induction l with
 |nil=>cases h
 |cons b l ih =>
  rw [List.map_cons,List.nodup_cons] at hn
  unfold look
  rw [List.find?_cons]
  rcases List.mem_cons.mp h with rfl|h
  ·simp
  ·rw [decide_eq_false (λe=>hn.1 (by rw [e];exact List.mem_map_of_mem h))]
   exact ih hn.2 h
theorem cq {l:List (Str×α)}{z:Str}:look l z=none ↔ z∉l.map (·.1):=by
 unfold look
 rw [Option.map_eq_none_iff,List.find?_eq_none]
 constructor
 ·intro h hm
  obtain ⟨a,ha,e⟩:=List.mem_map.mp hm
  exact h a ha (by simp [e])
 ·intro h a ha e
  exact h (by rw [<- of_decide_eq_true e];exact List.mem_map_of_mem ha)
theorem h7 {l:List (Str×α)}{z:Str}(x:α) (h:z∉l.map (·.1)):pu l z x=l++[(z,x)]:=by
 unfold pu
 rw [if_neg]
 intro e
 rw [List.any_eq_true] at e
 obtain ⟨a,ha,e⟩:=e
 exact h (by rw [<- of_decide_eq_true e];exact List.mem_map_of_mem ha)
theorem DX {l:List (Str×α)}{z:Str}(x:α) (h:z∈l.map (·.1)):(pu l z x).map (·.1)=l.map (·.1):=by
 unfold pu
 rw [if_pos (by
  obtain ⟨a,ha,e⟩:=List.mem_map.mp h
  exact List.any_eq_true.mpr ⟨a,ha,by simp [e]⟩),List.map_map]
 refine List.map_congr_left λa _=>?_
 by_cases e:a.1=z<;>simp [e]
theorem tJ (l:List (Str×α)) (z:Str):(dr l z).map (·.1)=(l.map (·.1)).filter λy=>decide (y≠z):=by
 unfold dr
 rw [List.filter_map];rfl
theorem uZ {l:List (Str×α)}{z:Str}{x:α}{a:Str×α}(h:a∈pu l z x):a∈l\/a=(z,x):=by
 unfold pu at h
 split at h
 ·obtain ⟨b,hb,e⟩:=List.mem_map.mp h
  by_cases q:b.1=z
  ·rw [if_pos q] at e;exact .inr (by rw [<- e,q])
  ·rw [if_neg q] at e;exact .inl (e ▸ hb)
 ·rcases List.mem_append.mp h with h|h
  ·exact .inl h
  ·exact .inr (List.mem_singleton.mp h)
theorem fV (f:α->T) (l:List (Str×α)):(kt f l).length=l.length:=by unfold kt;rw [List.length_map]
noncomputable def wrt (m:Int×Int) (now:Int):Int:=m.1 / 2 ^ (now - m.2).toNat
noncomputable def mkT (m:Int×Int):T:=.tup [.int m.1,.int m.2]
end As
open PySem
namespace Wm
theorem rA (y:List Nat):∀ i:List (List Nat),i≠[]->Tm.aU [32] (i++[y])=Tm.aU [32] i++32::y
 |[],h=>absurd rfl h
 |[a],_=>by
  show a++[32]++y=a++32::y
  rw [List.append_assoc];rfl
 |a::b::i,_=>by
  have ih:=rA y (b::i) (by simp)
  show a++[32]++Tm.aU [32] (b::i++[y])=a++[32]++Tm.aU [32] (b::i)++32::y
  rw [ih,List.append_assoc (a++[32])]
end Wm
seal T2.QE T2.QT T2.QW T2.QA T2.QS T2.QSs T2.QG T2.QGs T2.QI T2.QTs T2.QO L2.PE L2.PT L2.PA L2.PS L2.PSs L2.PG L2.PGs L2.PI L2.PTs L2.PO L2.PW
namespace My
open PySem L2 T2
set_option genInjectivity false
set_option hygiene false
local macro_rules
 | `(tactic|nofun)=>`(tactic|exact ⟨rfl,rfl,rfl,by decide +kernel,rfl,by decide +kernel,by decide +kernel⟩)
local macro_rules
 | `(tactic|subst_eqs)=>`(tactic|simp only [Option.isSome_none,Option.isSome_some,Bool.true_xor,Bool.false_xor,Bool.not_false,Bool.not_true])
local macro_rules
 | `(tactic|and_intros)=>`(tactic|simp only [List.set_cons_zero,List.set_cons_succ])
local macro_rules
 |`(tactic| ac_rfl)=>`(tactic| (first|(with_reducible assumption)|with_reducible exact aF|exact (aA (by assumption)).trans (by assumption)|exact (aA (by assumption)).trans aF|exact (aA (Ne.symm (by assumption))).trans aF|exact (aA (Ne.symm (by assumption))).trans (by assumption)))
local macro_rules
 |`(tactic| infer_instance)=>`(tactic| (first|omega|(with_reducible assumption)|((with_reducible apply Int.emod_nonneg);omega)|((with_reducible apply Int.emod_lt_of_pos);omega)|(simp only [Int.reduceToNat,Int.reducePow];omega)|(simp only [PySem.Str.length_append];omega)|(simp only [List.length_range,List.length_map];omega)))
local macro_rules
 |`(tactic| contradiction)=>`(tactic| (first|(simp only [PySem.sizeLine_eq,PySem.Str.length_append,Tm.Dm,Tm.qX,Tm.mP];omega)|(rw [PySem.sizeLine_eq];omega)|(rw [PySem.sizeLine_eq];decide)))
local macro_rules
 |`(tactic| ext)=>`(tactic| (repeat (first
   |(with_reducible first|apply IM|apply FR|apply FS|apply IN|apply IP|apply IQ|apply K1|apply C0|apply FT|apply IR|apply i_C|apply i_2|apply i_B|apply K3|apply C1|apply IS|apply K4|apply IT|apply FU|apply FV|apply IU|apply FW|apply K5|apply IV|apply FX|apply IW|apply IX|apply FY|apply FZ|apply K6|apply K7|apply IY|apply K8|apply K9|apply K'|apply F0|apply F6|apply La|apply IZ|apply Lb|apply Ja|apply F7|apply Jf|apply Jg|apply Jh|apply Ji|apply Jj|apply Jk|apply Jl|apply Jm|apply Lc|apply Jx|apply vY|apply Gd|apply Gf|apply Ge|apply Gg|apply Js|apply uF|apply A1|apply Jt|apply Jv|apply ifT|apply ifF|apply Lf|apply Lg|apply Lv|apply Lw|apply Lx|apply Lz|apply uF|apply DU|apply DD|apply Lm|apply LA|apply LB|apply J7|apply va|apply BD|apply DI|apply GX|apply GW|apply iR|apply hU|apply JT|apply Bu|apply Lu|apply Lq|apply JS|apply Li|apply Ln|apply DO|apply GJ|apply JP|apply JO|apply DA|apply GI|apply JM|apply GG|apply GF)
   |((with_reducible apply J8);(ac_rfl))
   |((with_reducible apply J9);(ac_rfl))
   |((with_reducible apply Ka);(ac_rfl))
   |((with_reducible apply LC);(ac_rfl))
   |((with_reducible apply LD);(ac_rfl))
   |((with_reducible apply LF);(ac_rfl))
   |((with_reducible apply LG);(ac_rfl))
   |((with_reducible apply LH);(ac_rfl))
   |((with_reducible apply LI);(ac_rfl))
   |((with_reducible apply ck);((decide +kernel)))
   |((with_reducible apply b5);((decide +kernel)))
   |((with_reducible apply Kb);((with_reducible assumption)))
   |((with_reducible apply BE);((with_reducible assumption);intro r o' hr0 hr1 hbx))
   |((with_reducible apply BF);((with_reducible assumption);intro r o' hr0 hr1 hbx))
   |((with_reducible apply DY);((with_reducible assumption);intro z o' hzw hbx))
   |((with_reducible apply v5);(rfl;first|exact T.ss|exact T.is|exact T.ii|exact T.ib|exact T.tt|exact T.lt|exact T.ll|exact T.bs|exact T.bb))
   |((with_reducible apply uR);(rfl;first|exact fT T.nt T.nl|exact G6 T.tt|exact fT T.lt T.ll|exact fT T.st T.sl|exact fT T.it T.il|exact fT T.bt T.bl))
   |((with_reducible apply DZ);(infer_instance;infer_instance;(with_reducible assumption);intro r o' hr0 hr1 hbx))
   |((with_reducible apply Hl);(infer_instance;infer_instance;ac_rfl;(with_reducible assumption);intro r o' hr0 hr1 hbx))
   |((with_reducible apply Kc);(infer_instance;intro q ob hq0 hbx))
   |((with_reducible apply Hm);(infer_instance;intro z))
   |((with_reducible apply Hn);(infer_instance))
   |((with_reducible apply D0);(infer_instance))
   |((with_reducible apply BG);(infer_instance))
   |((with_reducible apply G');(ac_rfl))
   |((with_reducible apply JR);(ac_rfl))
   |((with_reducible apply Lo);(ac_rfl))
   |((with_reducible apply Be);(ac_rfl;(simp only [List.length_cons,List.length_nil];decide)))
   |((with_reducible apply DB);(ac_rfl;rfl;rfl))
   |((with_reducible apply eT);(ac_rfl;rfl;(simp only [List.length_cons,List.length_nil];decide)))
   |((with_reducible apply JN);(ac_rfl;rfl;rfl))
   |((with_reducible apply GH);(ac_rfl;rfl;rfl))
   |((with_reducible apply GK);(infer_instance;infer_instance;infer_instance;infer_instance))
   |((with_reducible apply i_V);(rfl))
   |((with_reducible apply pf);(((try and_intros);rfl)))
   |((with_reducible apply K2);(rfl))
   |((with_reducible apply gi);(rfl))
   |((with_reducible apply cE);(rfl))
   |((with_reducible apply iz);(ac_rfl;rfl))
   |((with_reducible apply C2);(rfl;(simp only [List.length_cons,List.length_nil];decide);((try and_intros);rfl)))
   |((with_reducible apply Ga);(ac_rfl;rfl;(simp only [List.length_cons,List.length_nil];decide);((try and_intros);rfl)))
   |((with_reducible apply Jc);(infer_instance))
   |((with_reducible apply Jb);(infer_instance;infer_instance))
   |((with_reducible apply Jd);(decide;decide;decide))
   |((with_reducible apply F');(first|exact .inl ⟨by first|omega|decide,by first|omega|decide⟩|exact .inr ⟨by first|omega|decide,by first|omega|decide⟩))
   |((with_reducible apply Jp);(infer_instance;infer_instance;intro z hz ez))
   |((with_reducible apply Je);(infer_instance))
   |((with_reducible apply F8);(contradiction))
   |((with_reducible apply Jo);(contradiction))
   |((with_reducible apply Gc);(contradiction))
   |((with_reducible apply C6);(decide;infer_instance))
   |((with_reducible apply Jy);(infer_instance;infer_instance))
   |((with_reducible apply Gj);(ac_rfl))
   |((with_reducible apply C8);(ac_rfl))
   |((with_reducible apply Gh);(ac_rfl))
   |((with_reducible apply Gi);(contradiction;infer_instance;infer_instance;intro d hd ed))
   |((with_reducible apply Ju);(ac_rfl))
   |((with_reducible apply Jw);(ac_rfl))
   |((with_reducible apply C5);(ac_rfl))
   |((with_reducible apply Jq);(rfl;rfl))
   |((with_reducible apply Ld (n:=0));((first|decide|(simp only [List.length_cons,List.length_nil];decide)))))))
local macro_rules
 |`(tactic| ac_nf)=>`(tactic| (subst hu;simp only [b7,List.map_cons,List.map_nil,List.length_cons,List.length_nil,List.replicate,List.cons_append,List.nil_append,Nat.zero_add,Nat.reduceAdd,Nat.reduceSub]))
local macro_rules
 |`(tactic| exfalso)=>`(tactic| (ext;repeat' ((with_reducible refine ifB ?_ ?_)<;>(intro hb;(try simp only [Bool.false_xor,Bool.true_xor,Bool.not_eq_true',Bool.not_eq_false',Bool.not_eq_true,Bool.not_eq_false,Bool.not_not,decide_eq_true_eq,decide_eq_false_iff_not,Int.not_lt,Int.not_le,Bool.not_true,Bool.not_false] at hb);ext))))
local macro_rules
 |`(tactic| left)=>`(tactic| (cases d<;>first|exact ⟨_,_,rfl⟩|exact ⟨_,rfl⟩|rfl|exact absurd h (by dsimp only [kd];decide +kernel)))
local macro_rules
 |`(tactic| exists $x)=>`(tactic| ((first|refine FE F $x (λts S Q h=>?_) λcdv A outer s H E hr=>?_|refine Dz F $x (λts S Q h=>?_) λcdv A outer s H E hr=>?_|refine tD F $x (λts S Q h=>?_) λcdv A outer s H E hr=>?_|refine tD (T2.Fun.toD F) $x (λts S Q h=>?_) λcdv A outer s H E hr=>?_);(focus ((repeat obtain ⟨_,h⟩:=h)<;>(subst_vars;rfl)));have nd:=($x).nd))
local macro_rules
 |`(tactic| symm)=>`(tactic| ((with_reducible apply Hd);intro X hr))
local macro_rules
 |`(tactic| right)=>`(tactic| refine ifK (λk=>?_) λ_=>?_)
local macro_rules
 |`(!$n:num)=>`(Txt K mg C L R Y Z)
local macro_rules
 |`(!$a:str $m)=>`(Fun K $a $a $m f fd)
local macro_rules
 |`(!$a:str $b:str $m)=>`(FunD K $a $b $m f fd)
local macro_rules
 |`(!$n:num $a $b $c $d)=>`(FnO P w K mg base $n $a $b $c $d)
set_option hygiene true
open Rk S6 As
structure Zs where
 (N T A S H:Addr)
abbrev vv0:List Str:=["self","word"]
abbrev vv1:List Str:=["_law_house","_law_layers","_law_typist","_law_deed"]
abbrev vv2:List Str:=["self","word","times"]
abbrev vv3:List Str:=["_law_box_here","_law_many"]
abbrev vv4:List Str:=["self","word","count"]
abbrev vv5:List Str:=["_law_house","_law_layer","_law_typist","_law_deed"]
abbrev vv6:List Str:=["self"]
abbrev vv7:List Str:=["_law_box_here","_law_pool_here"]
abbrev vv8:List Str:=["self","times"]
abbrev vv9:List Str:=["_law_house","_law_layer","_law_word_here","_law_times_here"]
abbrev eJ:List Str:=["_law_house","_law_layer","_law_typist"]
abbrev du:List Str:=["_law_found","_law_due"]
abbrev dw:List Str:=["_law_script","_law_k"]
abbrev cn:List Str:=["_law_box_here"]
abbrev kQ:List Str:=["_law_typists","_law_table","_law_layers","_law_states"]
abbrev kR:List Str:=["_law_house","_law_layer","_law_typist","_law_number"]
abbrev dQ:List Str:=["self","before","word"]
abbrev dR:List Str:=["self","beginning"]
abbrev eK:List Str:=["mark","era","times"]
abbrev kS:List Str:=["_law_script","_law_first","_law_most"]
abbrev iS:List Str:=["_law_table","_law_times_here"]
abbrev vv21:List Str:=["word","worth","own","before","self"]
abbrev dS:List Str:=["mark","era"]
abbrev iT:List Str:=["self","layers","many"]
abbrev eM:List Str:=["self","sign"]
abbrev fq:List Str:=["self","number"]
abbrev vv26:List Str:=["_law_k","_law_box_here"]
abbrev vv27:List Str:=["word","mark","self","beginning"]
abbrev iU:List Str:=["rated","many"]
abbrev iV:List Str:=["self","house"]
structure Txt (K:PySem.W.Frag) (mg:Str->Option Value) (C L R Y:Addr) (Z:Zs):Prop where
 len:mg "len"=none
 range:mg "range"=none
 all:mg "all"=none
 max:mg "max"=none
 min:mg "min"=none
 sorted:mg "sorted"=none
 isinstance:mg "isinstance"=none
 bool:mg "bool"=none
 int:mg "int"=none
 str:mg "str"=none
 list:mg "list"=none
 tuple:mg "tuple"=none
 ss:PySem.W.kitOne K (.type "str") (.type "str")=some true
 ii:PySem.W.kitOne K (.type "int") (.type "int")=some true
 ib:PySem.W.kitOne K (.type "int") (.type "bool")=some false
 tt:PySem.W.kitOne K (.type "tuple") (.type "tuple")=some true
 ll:PySem.W.kitOne K (.type "list") (.type "list")=some true
 lt:PySem.W.kitOne K (.type "list") (.type "tuple")=some false
 st:PySem.W.kitOne K (.type "str") (.type "tuple")=some false
 it:PySem.W.kitOne K (.type "int") (.type "tuple")=some false
 sl:PySem.W.kitOne K (.type "str") (.type "list")=some false
 il:PySem.W.kitOne K (.type "int") (.type "list")=some false
 bb:PySem.W.kitOne K (.type "bool") (.type "bool")=some true
 is:PySem.W.kitOne K (.type "int") (.type "str")=some false
 nt:PySem.W.kitOne K (.type "NoneType") (.type "tuple")=some false
 nl:PySem.W.kitOne K (.type "NoneType") (.type "list")=some false
 bt:PySem.W.kitOne K (.type "bool") (.type "tuple")=some false
 bl:PySem.W.kitOne K (.type "bool") (.type "list")=some false
 bs:PySem.W.kitOne K (.type "bool") (.type "str")=some false
 c_MOST_SIGNS:∃ tk,mg "MOST_SIGNS"=some (.int 24 tk)
 c_MOST_PARTS:∃ tk,mg "MOST_PARTS"=some (.int 4 tk)
 c_MOST_LETTERS:∃ tk,mg "MOST_LETTERS"=some (.int 12 tk)
 mg_Wood:mg "Wood"=some (.ref C)
 cl:Cls K C
 nm:aN K C "marks"
 nn:aN K C "now"
 mg_Layers:mg "Layers"=some (.ref L)
 cL:Cls K L
 nh:aN K L "house"
 no:aN K L "own"
 nv:aN K L "veiled"
 mg_Pairs:mg "Pairs"=some (.ref R)
 cR:Cls K R
 rm:aN K R "marks"
 rn:aN K R "now"
 mg_Typist:mg "Typist"=some (.ref Y)
 cY:Cls K Y
 yl:aN K Y "layers"
 ym:aN K Y "many"
 yp:aN K Y "pairs"
 yt:aN K Y "text"
 yc:aN K Y "chosen"
 mg_NoWord:mg "NoWord"=some (.ref Z.N)
 mg_Twice:mg "Twice"=some (.ref Z.T)
 mg_Absent:mg "Absent"=some (.ref Z.A)
 mg_NoSign:mg "NoSign"=some (.ref Z.S)
 mg_NoChoice:mg "NoChoice"=some (.ref Z.H)
 x_NoWord:bU K Z.N none=true
 k_NoWord:PySem.W.keepIn K (.ref Z.N)=true
 x_Twice:bU K Z.T none=true
 k_Twice:PySem.W.keepIn K (.ref Z.T)=true
 x_Absent:bU K Z.A none=true
 k_Absent:PySem.W.keepIn K (.ref Z.A)=true
 x_NoSign:bU K Z.S none=true
 k_NoSign:PySem.W.keepIn K (.ref Z.S)=true
 x_NoChoice:bU K Z.H none=true
 k_NoChoice:PySem.W.keepIn K (.ref Z.H)=true
 eNN:PySem.W.exmOne K (.ref Z.N) (.ref Z.N)=some true
 eNT:PySem.W.exmOne K (.ref Z.N) (.ref Z.T)=some false
 eNA:PySem.W.exmOne K (.ref Z.N) (.ref Z.A)=some false
 eNS:PySem.W.exmOne K (.ref Z.N) (.ref Z.S)=some false
 eNH:PySem.W.exmOne K (.ref Z.N) (.ref Z.H)=some false
 eTN:PySem.W.exmOne K (.ref Z.T) (.ref Z.N)=some false
 eTT:PySem.W.exmOne K (.ref Z.T) (.ref Z.T)=some true
 eTA:PySem.W.exmOne K (.ref Z.T) (.ref Z.A)=some false
 eTS:PySem.W.exmOne K (.ref Z.T) (.ref Z.S)=some false
 eTH:PySem.W.exmOne K (.ref Z.T) (.ref Z.H)=some false
 eAN:PySem.W.exmOne K (.ref Z.A) (.ref Z.N)=some false
 eAT:PySem.W.exmOne K (.ref Z.A) (.ref Z.T)=some false
 eAA:PySem.W.exmOne K (.ref Z.A) (.ref Z.A)=some true
 eAS:PySem.W.exmOne K (.ref Z.A) (.ref Z.S)=some false
 eAH:PySem.W.exmOne K (.ref Z.A) (.ref Z.H)=some false
 eSN:PySem.W.exmOne K (.ref Z.S) (.ref Z.N)=some false
 eST:PySem.W.exmOne K (.ref Z.S) (.ref Z.T)=some false
 eSA:PySem.W.exmOne K (.ref Z.S) (.ref Z.A)=some false
 eSS:PySem.W.exmOne K (.ref Z.S) (.ref Z.S)=some true
 eSH:PySem.W.exmOne K (.ref Z.S) (.ref Z.H)=some false
 eHN:PySem.W.exmOne K (.ref Z.H) (.ref Z.N)=some false
 eHT:PySem.W.exmOne K (.ref Z.H) (.ref Z.T)=some false
 eHA:PySem.W.exmOne K (.ref Z.H) (.ref Z.A)=some false
 eHS:PySem.W.exmOne K (.ref Z.H) (.ref Z.S)=some false
 eHH:PySem.W.exmOne K (.ref Z.H) (.ref Z.H)=some true
section
variable {P:Program}{w:World}{K:PySem.W.Frag}{mg:Str->Option Value}{base:Heap}{C L R Y:Addr}{Z:Zs}
theorem Txt.gm (T:!0):∀ c,c=C->Cls K c/\aN K c "marks":=λc e=>by subst e;exact ⟨T.cl,T.nm⟩
theorem Txt.gn (T:!0):∀ c,c=C->Cls K c/\aN K c "now":=λc e=>by subst e;exact ⟨T.cl,T.nn⟩
theorem Txt.gh (T:!0):∀ c,c=L->Cls K c/\aN K c "house":=λc e=>by subst e;exact ⟨T.cL,T.nh⟩
theorem Txt.go (T:!0):∀ c,c=L->Cls K c/\aN K c "own":=λc e=>by subst e;exact ⟨T.cL,T.no⟩
theorem Txt.gv (T:!0):∀ c,c=L->Cls K c/\aN K c "veiled":=λc e=>by subst e;exact ⟨T.cL,T.nv⟩
theorem Txt.gpm (T:!0):∀ c,c=R->Cls K c/\aN K c "marks":=λc e=>by subst e;exact ⟨T.cR,T.rm⟩
theorem Txt.gpn (T:!0):∀ c,c=R->Cls K c/\aN K c "now":=λc e=>by subst e;exact ⟨T.cR,T.rn⟩
theorem Txt.gul (T:!0):∀ c,c=Y->Cls K c/\aN K c "layers":=λc e=>by subst e;exact ⟨T.cY,T.yl⟩
theorem Txt.gum (T:!0):∀ c,c=Y->Cls K c/\aN K c "many":=λc e=>by subst e;exact ⟨T.cY,T.ym⟩
theorem Txt.gup (T:!0):∀ c,c=Y->Cls K c/\aN K c "pairs":=λc e=>by subst e;exact ⟨T.cY,T.yp⟩
theorem Txt.gut (T:!0):∀ c,c=Y->Cls K c/\aN K c "text":=λc e=>by subst e;exact ⟨T.cY,T.yt⟩
theorem Txt.guc (T:!0):∀ c,c=Y->Cls K c/\aN K c "chosen":=λc e=>by subst e;exact ⟨T.cY,T.yc⟩
theorem Txt.gf (T:!0){m:Str}{f:Addr}(h:Meth K C m f):∀ c,c=C->Cls K c/\Meth K c m f:=λc e=>by subst e;exact ⟨T.cl,h⟩
theorem Txt.gl (T:!0){m:Str}{f:Addr}(h:Meth K L m f):∀ c,c=L->Cls K c/\Meth K c m f:=λc e=>by subst e;exact ⟨T.cL,h⟩
theorem Txt.gp (T:!0){m:Str}{f:Addr}(h:Meth K R m f):∀ c,c=R->Cls K c/\Meth K c m f:=λc e=>by subst e;exact ⟨T.cR,h⟩
theorem Txt.gu (T:!0){m:Str}{f:Addr}(h:Meth K Y m f):∀ c,c=Y->Cls K c/\Meth K c m f:=λc e=>by subst e;exact ⟨T.cY,h⟩
def aO (o:O):Prop:=∃ a b c d:Int,o=.lst [.int a,.int b,.int c,.int d]
def cS:WSp:=λts S Q=>∃ p m o,ts=[.ref p,.int m]/\0<m/\m<18446744073709551616/\S p=some o/\aO o/\∀ r o',0<=r->r<m->aO o'->Q (.int r) (put S p o')
theorem Hl {S:Sto}{Q:T->Sto->Prop}{p:Addr}{m:Int}{o:O}(h1:0<m) (h2:m<18446744073709551616) (e:S p=some o) (f:aO o) (h:∀ r o',0<=r->r<m->aO o'->Q (.int r) (put S p o')) :
  cS ([.ref p,.int m]++[]) S Q:=⟨p,m,o,rfl,h1,h2,e,f,h⟩
theorem DZ {S:Sto}{Q:T->Sto->Prop}{p:Addr}{m:Int}{o:O}(h1:0<m) (h2:m<18446744073709551616) (f:aO o) (h:∀ r o',0<=r->r<m->aO o'->Q (.int r) (put S p o')) :
  cS ([.ref p,.int m]++[]) (put S p o) Q:=⟨p,m,o,rfl,h1,h2,aF,f,λr o' a b c=>by rw [bM];exact h r o' a b c⟩
theorem yJ:FnScope ["_law_box_here","_law_many","_law_found"] vv3 (av mi):=by nofun
theorem D6 (F:!"_law_take" mi):!1 f fd vv3 cS:=by
 exists yJ
 refine ⟨_,((aj (bu (aC (bi false) (ak (aa 0) af) af) (bA (aa 0) af (g7 2))) (aj (ao (dq (iq (ay hr (ak (aa 0) af) af) (gX (gK cy cy (cX af) (ak (aa 0) af) af)))) (aj (bu (ak (aa 0) af) (bA (aa 0) af (g7 0))) (ag (bu af (bA (aa 0) af (g7 1))))) au) (aj (ao (ay hr (ak (aa 0) af) af) (aj (az 2 nd (aC dJ (ak (aa 0) af) (aa 1))) (aj (bu (aC di (ak (aa 0) af) (aa 1)) (bA (aa 0) af (g7 0))) (ag (ap (aa 2))))) au) (aj (bu (aC dJ (aC (bi false) (aC (bi false) (aC (d5 false) (aC dJ (ak (aa 0) af) af) af) (aC (d5 false) af (ak (aa 0) af))) af) af) (bA (aa 0) af (g7 0))) (ag (ap (aC dJ (aC di (aC dJ (aC (d5 false) (ak (aa 0) af) af) af) af) (aa 1))))))))),aB λv hu ts S Q h=>?_⟩
 obtain ⟨p,m,o,rfl,h1,h2,hp,⟨a,b,c,d,rfl⟩,hq⟩:=h
 ac_nf
 refine cb (λLO S'=>LO=[some (.ref p),some (.int m),none]/\S'=put S p (.lst [.int a,.int b,.int (c+1),.int d])) ?_ ?_
 ·intro X hX
  ext
  exact hX _ _ ⟨rfl,rfl⟩
 rintro LO S' ⟨rfl,rfl⟩
 refine cb (λLO S'=>LO=[some (.ref p),some (.int m),none]/\∃ o',aO o'/\S'=put S p o') ?_ ?_
 ·intro X hX
  exfalso
  all_goals exact hX _ _ ⟨rfl,_,⟨_,_,_,_,rfl⟩,rfl⟩
 ·rintro LO S' ⟨rfl,o',⟨a,b,c,d,rfl⟩,rfl⟩
  exfalso
  all_goals exact .mk (hq _ _ (Int.emod_nonneg _ (by omega)) (Int.emod_lt_of_pos _ h1) ⟨_,_,_,_,rfl⟩)
def jQ:WSp:=λts S Q=>∃ (ns:List Int) (k:Int),ts=[.scr ns,.int k]/\0<=k/\∀ z:Int,Q (.int z) S
theorem Hm {S:Sto}{Q:T->Sto->Prop}{ns:List Int}{k:Int}(h0:0<=k) (h:∀ z:Int,Q (.int z) S):jQ ([.scr ns,.int k]++[]) S Q:=⟨ns,k,rfl,h0,h⟩
theorem xP:FnScope ["_law_script","_law_k","_law_seed"] dw (av lB):=by nofun
theorem D7 (F:!"_law_cell_at" lB) (T:!0):!1 f fd dw jQ:=by
 exists xP
 refine ⟨_,((aj (ao (aI cI (aa 1) (aJ (a8 rfl) T.len PySem.boot_len (ac (aa 0) ae))) (ag (ap (ak (aa 0) (aa 1)))) au) (aj (az 2 nd af) (aj (ao (aI gA (aJ (a8 rfl) T.len PySem.boot_len (ac (aa 0) ae)) af) (ag (az 2 nd (ak (aa 0) (aC dJ (aa 1) (aJ (a8 rfl) T.len PySem.boot_len (ac (aa 0) ae)))))) au) (ag (ap (aC (bi false) (aC (d5 false) (aC dJ (aC (bi false) (aC (bi false) (aC (d5 false) (aC dJ (aa 2) af) af) (aC (d5 false) (aa 1) af)) af) af) af) af))))))),aB λv hu ts S Q h=>?_⟩
 obtain ⟨ns,k,rfl,h0,hq⟩:=h
 ac_nf
 refine cb (λLO S'=>LO=[some (.scr ns),some (.int k),none]/\S=S') ?_ ?_
 ·intro X hX
  exfalso
  ·refine vZ h0 hb λz _ _=>?_
   ext
   exact .mk (hq _)
  ·exact hX _ _ ⟨rfl,rfl⟩
 rintro LO S' ⟨rfl,rfl⟩
 refine cb (λLO S'=>∃ z:Int,LO=[some (.scr ns),some (.int k),some (.int z)]/\S=S') ?_ ?_
 ·intro X hX
  ext
  exact hX _ _ ⟨_,rfl,rfl⟩
 rintro LO S' ⟨z,rfl,rfl⟩
 refine cb (λLO S'=>∃ z:Int,LO=[some (.scr ns),some (.int k),some (.int z)]/\S=S') ?_ ?_
 ·intro X hX
  exfalso
  ·refine vZ (Int.emod_nonneg _ (by omega)) (Int.emod_lt_of_pos _ hb) λz _ _=>?_
   ext
   exact hX _ _ ⟨_,rfl,rfl⟩
  ·exact hX _ _ ⟨_,rfl,rfl⟩
 rintro LO S' ⟨z,rfl,rfl⟩
 ext
 exact .mk (hq _)
def ie:WSp:=λts S Q=>∃ (ns:List Int) (k:Int),ts=[.scr ns,.int k]/\0<=k/\∀ p o,S p=none->aO o->Q (.ref p) (put S p o)
theorem Kc {S:Sto}{Q:T->Sto->Prop}{ns:List Int}{k:Int}(h0:0<=k) (h:∀ p o,S p=none->aO o->Q (.ref p) (put S p o)):ie ([.scr ns,.int k]++[]) S Q:=⟨ns,k,rfl,h0,h⟩
theorem zh:FnScope ["_law_script","_law_k","_law_cell"] dw (av mJ):=by nofun
theorem Ho (F:!"_law_box" mJ) (Ov:!1 f1 LW dw jQ) (Ow:Df K mg "_law_cell_at" f1 LW dw) :
  !2 f fd dw ie:=by
 exists zh
 refine ⟨_,((aj (az 2 nd (ax Ov Ow hr.m (ac (aa 0) (ac (aa 1) ae)))) (ag (ap (gZ (ac (aC di (aa 2) af) (ac (aC dJ (aa 2) af) (ac af (ac (aa 2) ae))))))))),aB λv hu ts S Q h=>?_⟩
 obtain ⟨ns,k,rfl,h0,hq⟩:=h
 ac_nf
 ext
 exact λp hp=>.mk (hq p _ hp ⟨_,_,_,_,rfl⟩)
def oE:WSp:=λts S Q=>∃ p o,ts=[.ref p]/\S p=some o/\aO o/\∀ z o',Wm.Wd z=true->aO o'->Q (.str z) (put S p o')
theorem DY {S:Sto}{Q:T->Sto->Prop}{p:Addr}{o:O}(f:aO o) (h:∀ z o',Wm.Wd z=true->aO o'->Q (.str z) (put S p o')):oE ([.ref p]++[]) (put S p o) Q :=
 ⟨p,o,rfl,aF,f,λz o' a b=>by rw [bM];exact h z o' a b⟩
theorem D8 {z:Str}(h:Tm.tl z=[]):z="":=by
 obtain ⟨a⟩:=z
 have:a=#[]:=Array.toList_inj.mp h
 rw [this];rfl
structure Mkw (z:Str) (zs:List Str):Prop where
 pt:∀ y∈zs,Sc.isP (Tm.tl y)=true
 eq:Tm.tl z=Tm.aU [32] (zs.map Tm.tl)
 le:z.length<=24
theorem Mkw.ne {z:Str}{zs:List Str}(h:Mkw z zs) (hz:z ≠ ""):zs≠[]:=λe=>hz (D8 (by rw [h.eq,e];rfl))
theorem Mkw.one {y:Str}(h:Sc.isP (Tm.tl y)=true) (hl:y.length<=24):Mkw y [y]:=⟨by simpa using h,rfl,hl⟩
theorem Mkw.more {z y:Str}{zs:List Str}(h:Mkw z zs) (hz:z ≠ "") (hy:Sc.isP (Tm.tl y)=true) (hl:(z ++ " " ++ y).length<=24):Mkw (z ++ " " ++ y) (zs++[y]):=by
 refine ⟨λx hx=>?_,?_,hl⟩
 ·rcases List.mem_append.mp hx with q|q
  ·exact h.pt x q
  ·rw [List.mem_singleton.mp q];exact hy
 ·rw [Tm.fS,Tm.fS,h.eq,List.map_append,List.map_cons,List.map_nil,Wm.rA _ _ (by simpa using h.ne hz),Tm.kA,List.append_assoc]
  rfl
theorem Mkw.wd {z:Str}{zs:List Str}(h:Mkw z zs) (hn:zs≠[]) (h4:zs.length<=4):Wm.Wd z=true:=by
 have:=Wm.DV h.pt hn h4
 rw [Tm.jH,Tm.kA,<- h.eq] at this
 unfold Wm.Wd
 rw [this,decide_eq_true h.le];rfl
theorem yK:FnScope ["_law_box_here","_law_letters","_law_word_here","_law_k","_law_size","_law_part"] cn (av mj):=by nofun
theorem D9 (F:!"_law_word" mj) (T:!0) (LM:!1 f1 LW vv3 cS) (LN:Df K mg "_law_take" f1 LW vv3) :
  !2 f fd cn oE:=by
 exists yK
 refine ⟨_,((aj (az 1 nd (ak (a9 (ac ai (ac ai (ac ai ae)))) (ax LM LN hr.m (ac (aa 0) (ac af ae))))) (aj (az 2 nd ai) (aj (cD PassesOwn.never rfl (dB (by rfl) T.range (ak (a9 (ac af (ac af (ac af (ac af (ac af (ac af (ac af ae)))))))) (ax LM LN hr.m (ac (aa 0) (ac af ae))))) (aW 3 nd) (aj (az 4 nd (ak (a9 (ac af (ac af (ac af (ac af (ac af (ac af (ac af ae)))))))) (ax LM LN hr.m (ac (aa 0) (ac af ae))))) (aj (az 5 nd (bK PySem.F.plainAttrs_str PySem.F.slot_str_join PySem.F.type_str_join (FO rfl) ai (ac (cU false ["_law_j","_law_letters","_law_box_here"] 1 [1,0] rfl (dB (by rfl) T.range (aa 4)) (λ_ _ _ _=>(aW 0 (show List.Nodup (["_law_j","_law_letters","_law_box_here"]:List Str) from by decide +kernel))) (λ_ _ _ _=>cQ) (λ_ _ _ _=>(ak (aa 1) (ax LM LN hr.m (ac (aa 2) (ac (aJ (a8 rfl) T.len PySem.boot_len (ac (aa 1) ae)) ae)))))) ae))) (ag (ao (ay hr (aa 2) ai) (ag (az 2 nd (aa 5))) (ag (ao (aI cy (aC (bi false) (aC (bi false) (aJ (a8 rfl) T.len PySem.boot_len (ac (aa 2) ae)) af) (aa 4)) af) (ag (az 2 nd (aC (bi false) (aC (bi false) (aa 2) ai) (aa 5)))) au))))))) (ag (ap (aa 2))))))),aB λv hu ts S Q h=>?_⟩
 obtain ⟨p,o,rfl,hp,hf,hq⟩:=h
 ac_nf
 ext
 refine d6 (λt=>∃ z:Str,t=.str z/\1<=z.length/\z.length<=26/\(Tm.tl z).all Sc.isL=true) hr0 ?_ ?_ ?_
 ·simpa using hr1
 ·intro t ht
  simp only [List.mem_cons,List.not_mem_nil,or_false] at ht
  rcases ht with rfl|rfl|rfl<;>exact ⟨_,rfl,by decide +kernel,by decide +kernel,by decide +kernel⟩
 rintro _ ⟨le,rfl,hle1,hle2,hle3⟩
 ext
 refine d6 (λt=>∃ z:Int,t=.int z/\1<=z/\z<=4) hr0 ?_ ?_ ?_
 ·simpa using hr1
 ·simp
 rintro _ ⟨m,rfl,hm1,RZ⟩
 ext
 refine fD (λk LO S'=>∃ (z:Str) (zs:List Str) (o2:O) (u v q:Option T2.T),Mkw z zs/\zs.length<=k/\(1<=k->zs≠[])/\LO=[some (.ref p),some (.str le),some (.str z),u,v,q]/\S'=put S p o2/\aO o2)
  ⟨"",[],_,none,none,none,⟨by simp,rfl,by decide⟩,Nat.zero_le _,λh=>absurd h (by decide),rfl,rfl,hbx⟩ ?_ ?_
 ·rintro k LO S' N hk ⟨z,zs,o2,u,v,q,hmk,hzk,hz1,rfl,rfl,Qo⟩ hN
  have hz24:=hmk.le
  refine ⟨trivial,?_⟩
  have hk4:k<4:=by omega
  ext
  refine d6 (λt=>∃ z:Int,t=.int z/\1<=z/\z<=12) hr0 ?_ ?_ ?_
  ·simpa using hr1
  ·simp
  rintro _ ⟨n,rfl,hn1,Su⟩
  ext
  refine gH (λitems LQ LO S'=>∃ (ys:List Str) (u:Option T2.T) (o4:O),LQ=ys.map T2.T.str/\(∀ y∈ys,∃ c,y=⟨#[c]⟩/\Sc.isL c=true)/\ys.length+items.length=n.toNat/\LO=[u,some (.str le),some (.ref p)]/\S'=put S p o4/\aO o4)
   ⟨[],none,_,rfl,by simp,by simp [bT],rfl,rfl,by assumption⟩ ?_ ?_
  ·rintro t ts LQ LO S' N2 ⟨ys,u,o4,rfl,hys,hl,rfl,rfl,Sk⟩ Sl
   simp only [List.length_cons] at hl
   refine ⟨trivial,?_⟩
   ext
   refine ⟨by rw [List.length_map,sizeLine_eq];omega,Sl _ _ _ ⟨ys++[⟨#[d]⟩],_,_,by simp,?_,by simp;omega,rfl,rfl,by assumption⟩⟩
   intro y hy
   rcases List.mem_append.mp hy with h|h
   ·exact hys y h
   ·exact ⟨d,List.mem_singleton.mp h,List.all_eq_true.mp hle3 d hd⟩
  ·rintro LQ LO S' ⟨ys,u,o4,rfl,hys,hl,rfl,rfl,Sk⟩
   have hl2:ys.length=n.toNat:=by simpa using hl
   have hy1:∀ y∈ys,y.length<=1:=λy hy=>by obtain ⟨c,rfl,_⟩:=hys y hy;exact Nat.le_refl _
   refine ⟨trivial,?_⟩
   ext
   refine C7 (Tm.Ba ys) (Tm.Gw (b:=1) hy1 (by rw [Tm.mP];omega)) ?_
   have hj:=Tm.Do "" (b:=1) ys hy1
   rw [Tm.mP] at hj
   have hpt:Sc.isP (Tm.tl (Txt.join "" ys))=true:=Wm.jz hys (by omega) (by omega)
   have hj12:(Txt.join "" ys).length<=n.toNat:=by omega
   generalize Txt.join "" ys=pt at hj12 hpt
   exfalso
   ·exact hN _ _ ⟨pt,[pt],_,_,_,_,Mkw.one hpt (by omega),by simp,by simp,rfl,rfl,Sk⟩
   ·refine hN _ _ ⟨z ++ " " ++ pt,zs++[pt],_,_,_,_,Mkw.more hmk (by first|assumption|simpa using hb_1|simpa using hb) hpt ?_,by simp;omega,by simp,rfl,rfl,Sk⟩
    simp only [PySem.Str.length_append,Tm.qX];omega
   ·exact hN _ _ ⟨z,zs,_,_,_,_,hmk,by omega,λ_=>hmk.ne (by first|assumption|simpa using hb_1|simpa using hb),rfl,rfl,Sk⟩
 ·rintro LO S' ⟨z,zs,o2,u,v,q,hmk,hzk,hz1,rfl,rfl,Qo⟩
  refine ⟨trivial,?_⟩
  ext
  exact .mk (hq _ _ (hmk.wd (hz1 (by omega)) (by omega)) Qo)
def Wds (ws:List Str):Prop:=ws.Nodup/\(∀ z∈ws,Wm.Wd z=true)
theorem _root_.T2.Le.of_put {S S':Sto}{l:Addr}{o:O}(h:S l=none) (le:Le (put S l o) S'):Le S S':=(Le.put h).trans le
theorem _root_.T2.Le.at {S S':Sto}{l:Addr}{o:O}(le:Le (put S l o) S'):S' l=some o:=le l o aF
theorem _root_.T2.Le.new {S S':Sto}{l:Addr}{o:O}(le:Le S S') (h:S' l=none):Le S (put S' l o):=le.trans (Le.put h)
theorem _root_.T2.Le.chg {S S':Sto}{l:Addr}{o:O}(le:Le S S') (h:S l=none):Le S (put S' l o):=λa u e=>by
 have:a≠l:=λz=>by rw [z,h] at e;cases e
 rw [aA this];exact le a u e
def vb:WSp:=λts S Q=>∃ (ns:List Int) (a m:Int),ts=[.scr ns,.int a,.int m]/\0<=a/\a<1000/\1<=m/\m<=10/\∀ ws:List Str,Wds ws->1<=ws.length->ws.length<=10->Q (.lst (ws.map T.str)) S
theorem yL:FnScope ["_law_script","_law_first","_law_most","_law_pool_here","_law_k","_law_word_here"] kS (av mo):=by nofun
theorem D' (F:!"_law_pool" mo) (T:!0) (Na:!2 f1 LW dw ie) (Nb:Df K mg "_law_box" f1 LW dw)
  (P6:!2 f2 Nd cn oE) (P7:Df K mg "_law_word" f2 Nd cn) :
  !3 f fd kS vb:=by
 exists yL
 refine ⟨_,((aj (az 3 nd (gZ ae)) (aj (cD PassesOwn.never rfl (qU (by rfl) T.range (aa 1) (aC (bi false) (aa 1) (aa 2))) (aW 4 nd) (aj (az 5 nd (ax P6 P7 hr.m (ac (ax Na Nb hr.m (ac (aa 0) (ac (aa 4) ae))) ae))) (ag (ao (aI (nC rfl) (aa 5) (aa 3) (by with_unfolding_all rfl)) (ag (bd (bK PySem.F.plainAttrs_list PySem.F.slot_list_append PySem.F.type_list_append jo (aa 3) (ac (aa 5) ae)))) au)))) (ag (ap (aa 3)))))),aB λv hu ts S Q h=>?_⟩
 obtain ⟨ns,a,m,rfl,ha0,ha1,hm0,hm1,hq⟩:=h
 ac_nf
 ext
 intro l hl0
 ext
 refine fD (λk LO S'=>∃ (ws:List Str) (u v:Option T2.T),Wds ws/\ws.length<=k/\(1<=k->1<=ws.length)/\LO=[some (.scr ns),some (.int a),some (.int m),some (.ref l),u,v]/\Le (put S l (.lst (ws.map T2.T.str))) S')
  ⟨[],none,none,⟨List.nodup_nil,by simp⟩,Nat.le_refl _,λh=>absurd h (by decide),rfl,Le.refl⟩ ?_ ?_
 ·rintro k LO S' N hk ⟨ws,u,v,Sm,Mr,Oq,rfl,le⟩ hN
  refine ⟨trivial,?_⟩
  have hl:=Le.at le
  have hk10:k<10:=by omega
  ext
  have hlq:l≠q:=λe=>by rw [e,hq0] at hl;cases hl
  ext
  have le2:Le (put S l (.lst (ws.map T2.T.str))) (put S' q o'):=le.new hq0
  refine ifB (λhb=>?_) λhb=>?_
  ·have hn:z∉ws:=by simpa using hb
   ext
   refine jp ((aA hlq).trans hl) (by rw [List.length_map,sizeLine_eq];omega) ?_
   refine hN _ _ ⟨ws++[z],_,_,⟨?_,?_⟩,?_,λ_=>by rw [List.length_append,List.length_singleton];omega,rfl,?_⟩
   ·rw [List.nodup_append]
    exact ⟨Sm.1,by simp,λx hx y hy e=>by rw [List.mem_singleton] at hy;subst hy;subst e;exact hn hx⟩
   ·intro y hy
    rcases List.mem_append.mp hy with h|h
    ·exact Sm.2 y h
    ·rw [List.mem_singleton.mp h];exact hzw
   ·rw [List.length_append,List.length_singleton];omega
   ·rw [List.map_append]
    exact Le.put2 (Le.of_put hl0 le2)
  ·ext
   exact hN _ _ ⟨ws,_,_,Sm,by omega,λ_=>List.length_pos_of_mem (show z∈ws by simpa using hb),rfl,le2⟩
 ·rintro LO S' ⟨ws,u,v,Sm,Mr,Oq,rfl,le⟩
  refine ⟨trivial,?_⟩
  ext
  exact .frz (Le.at le) (Le.of_put hl0 le) hl0 (hq ws Sm (Oq (by omega)) (by omega))
def nJ:WSp:=λts S Q=>∃ p o,ts=[.ref p]/\S p=some o/\aO o/\∀ (z:Int) o',0<=z->z<=1000000000->aO o'->Q (.int z) (put S p o')
theorem BF {S:Sto}{Q:T->Sto->Prop}{p:Addr}{o:O}(f:aO o) (h:∀ (z:Int) o',0<=z->z<=1000000000->aO o'->Q (.int z) (put S p o')):nJ ([.ref p]++[]) (put S p o) Q:=⟨p,o,rfl,aF,f,λz o' a b c=>by rw [bM];exact h z o' a b c⟩
theorem yo:FnScope cn cn (av lW):=by nofun
theorem BH (F:!"_law_count" lW) (LM:!1 f1 LW vv3 cS) (LN:Df K mg "_law_take" f1 LW vv3) :
  !2 f fd cn nJ:=by
 exists yo
 refine ⟨_,((ag (ap (ak (a9 (ac (ax LM LN hr.m (ac (aa 0) (ac af ae))) (ac (ax LM LN hr.m (ac (aa 0) (ac af ae))) (ac (ax LM LN hr.m (ac (aa 0) (ac (aC (bi false) (aC pc af af) af) ae))) ae)))) (ax LM LN hr.m (ac (aa 0) (ac af ae))))))),aB λv hu ts S Q h=>?_⟩
 obtain ⟨p,o,rfl,hp,hf,hq⟩:=h
 ac_nf
 ext
 try simp only [Int.reduceToNat,Int.reducePow] at *
 refine d6 (λt=>∃ z:Int,t=.int z/\0<=z/\z<=1000000000) hr0 ?_ ?_ ?_
 ·simp only [List.length_cons,List.length_nil];omega
 ·intro t ht
  simp only [List.mem_cons,List.not_mem_nil,or_false] at ht
  rcases ht with rfl|rfl|rfl<;>exact ⟨_,rfl,by omega,by omega⟩
 rintro _ ⟨m,rfl,hm1,RZ⟩
 ext
 exact .mk (hq _ _ (by omega) (by omega) hbx)
def nK:WSp:=λts S Q=>∃ p o,ts=[.ref p]/\S p=some o/\aO o/\∀ (z:Int) o',1<=z->z<=1000000->aO o'->Q (.int z) (put S p o')
theorem BE {S:Sto}{Q:T->Sto->Prop}{p:Addr}{o:O}(f:aO o) (h:∀ (z:Int) o',1<=z->z<=1000000->aO o'->Q (.int z) (put S p o')):nK ([.ref p]++[]) (put S p o) Q:=⟨p,o,rfl,aF,f,λz o' a b c=>by rw [bM];exact h z o' a b c⟩
theorem yq:FnScope cn cn (av lX):=by nofun
theorem BI (F:!"_law_times" lX) (LM:!1 f1 LW vv3 cS) (LN:Df K mg "_law_take" f1 LW vv3) :
  !2 f fd cn nK:=by
 exists yq
 refine ⟨_,((ag (ap (aC (bi false) af (ak (a9 (ac (ax LM LN hr.m (ac (aa 0) (ac af ae))) (ac (ax LM LN hr.m (ac (aa 0) (ac af ae))) (ac (ax LM LN hr.m (ac (aa 0) (ac (aC pc af af) ae))) ae)))) (ax LM LN hr.m (ac (aa 0) (ac af ae)))))))),aB λv hu ts S Q h=>?_⟩
 obtain ⟨p,o,rfl,hp,hf,hq⟩:=h
 ac_nf
 ext
 try simp only [Int.reduceToNat,Int.reducePow] at *
 refine d6 (λt=>∃ z:Int,t=.int z/\0<=z/\z<=999999) hr0 ?_ ?_ ?_
 ·simp only [List.length_cons,List.length_nil];omega
 ·intro t ht
  simp only [List.mem_cons,List.not_mem_nil,or_false] at ht
  rcases ht with rfl|rfl|rfl<;>exact ⟨_,rfl,by omega,by omega⟩
 rintro _ ⟨m,rfl,hm1,RZ⟩
 ext
 exact .mk (hq _ _ (by omega) (by omega) hbx)
def jr:WSp:=λts S Q=>∃ c:Nat,ts=[.str ⟨#[c]⟩]/\Q (.bl (Sc.isL c)) S
theorem BD {S:Sto}{Q:T->Sto->Prop}{c:Nat}(h:Q (.bl (Sc.isL c)) S):jr ([.str ⟨#[c]⟩]++[]) S Q:=⟨c,rfl,h⟩
theorem yr:FnScope ["sign"] ["sign"] (av lP):=by nofun
theorem Ak (F:!"is_letter" lP):!1 f fd ["sign"] jr:=by
 exists yr
 refine ⟨_,((ag (ap (sK cy cy ai (aa 0) ai)))),aB λv hu ts S Q h=>?_⟩
 obtain ⟨c,rfl,hq⟩:=h
 rw [<- Wm.Hh] at hq
 ac_nf
 ext
 refine ifB (λhb=>?_) λhb=>?_
 ·ext
  rw [hb,Bool.true_and] at hq
  exact .mk hq
 ·rw [hb,Bool.false_and] at hq
  exact .mk hq
def m6:WSp:=λts S Q=>∃ z:Str,ts=[.str z]/\z.length<=1000/\Q (.bl (Sc.isP (Tm.tl z))) S
theorem BG {S:Sto}{Q:T->Sto->Prop}{z:Str}(h0:z.length<=1000) (h:Q (.bl (Sc.isP (Tm.tl z))) S):m6 ([.str z]++[]) S Q:=⟨z,rfl,h0,h⟩
theorem zi:FnScope ["text"] ["text"] (av mG):=by nofun
theorem Al (F:!"is_part" mG) (T:!0) (Nu:!1 f1 LW ["sign"] jr) (Nv:Df K mg "is_letter" f1 LW ["sign"]) :
  !2 f fd ["text"] m6:=by
 exists zi
 refine ⟨_,((ag (ap (db (sK cy cy af (aJ (a8 rfl) T.len PySem.boot_len (ac (aa 0) ae)) (hE (n:=12) (by rfl) T.c_MOST_LETTERS)) (cC (aJ (vV rfl rfl) T.all PyProof.Rows.boot_all (ac (cU false ["sign"] 1 [] rfl (uw (aa 0)) (λ_ _ _ _=>(aW 0 (show List.Nodup (["sign"]:List Str) from by decide +kernel))) (λ_ _ _ _=>cQ) (λ_ _ _ _=>(ax Nu Nv hr.m (ac (aa 0) ae)))) ae))))))),aB λv hu ts S Q h=>?_⟩
 obtain ⟨z,rfl,hz,hq⟩:=h
 have e:Sc.isP (Tm.tl z)=(decide (1<=(z.length:Int))&&decide ((z.length:Int)<=12)&&(Tm.tl z).all Sc.isL):=by
  unfold Sc.isP
  rw [Tm.len]
  congr 1
  congr 1
  ·rw [Bool.eq_iff_iff];simp only [decide_eq_true_eq];omega
  ·rw [Bool.eq_iff_iff];simp only [decide_eq_true_eq];omega
 rw [e] at hq
 ac_nf
 ext
 refine ifB (λhb=>?_) λhb=>?_
 ·rw [hb,Bool.true_and] at hq
  ext
  refine ifB (λhb=>?_) λhb=>?_
  ·rw [hb,Bool.true_and] at hq
   ext
   refine c8 (ls:=Tm.tl z) (λc=>T2.T.str ⟨#[c]⟩) (λc=>some (.bl (Sc.isL c))) [] ?_ ?_ (λx hx u LQ N Ml hN=>?_) ?_
   ·trivial
   ·rw [Tm.len,sizeLine_eq];omega
   ·ext
    exact ⟨Ml,hN _⟩
   ·ext
    refine uE (bs:=(Tm.tl z).map Sc.isL) (by rw [<- Wm.all_map,List.map_map];rw [Wm.tH];rfl) ?_
    rw [List.all_map]
    exact .mk hq
  ·rw [hb,Bool.false_and] at hq
   exact .mk hq
 ·rw [hb,Bool.false_and,Bool.false_and] at hq
  ext
  exact .mk hq
def gL:WSp:=λts S Q=>∃ z:Str,ts=[.str z]/\z.length<=1000/\Q (.bl (Wm.Wd z)) S
theorem zj:FnScope ["thing","parts"] ["thing"] (av mH):=by nofun
theorem Am (F:!"is_word" mH) (T:!0) (QX:!2 f1 LW ["text"] m6) (QY:Df K mg "is_part" f1 LW ["text"]) :
  !3 f fd ["thing"] gL:=by
 exists zj
 refine ⟨_,((aj (ao (dq (iK (br (a0 (aJ (dk rfl) T.isinstance PyProof.Rows.boot_isinstance (ac (aa 0) (ac (cK (n:="str") (by rfl) T.str PyProof.Rows.boot_str) ae))))) (io (aI gA (aJ (a8 rfl) T.len PySem.boot_len (ac (aa 0) ae)) (hE (n:=24) (by rfl) T.c_MOST_SIGNS))))) (ag (ap bP)) au) (aj (az 1 nd (bK PySem.F.plainAttrs_str PySem.F.slot_str_split PySem.F.type_str_split (sR false) (aa 0) (ac ai ae))) (ag (ap (db (bN cy (aJ (a8 rfl) T.len PySem.boot_len (ac (aa 1) ae)) (hE (n:=4) (by rfl) T.c_MOST_PARTS)) (cC (aJ (vV rfl rfl) T.all PyProof.Rows.boot_all (ac (cU false ["part"] 1 [] rfl (cB rfl (aa 1)) (λ_ _ _ _=>(aW 0 (show List.Nodup (["part"]:List Str) from by decide +kernel))) (λ_ _ _ _=>cQ) (λ_ _ _ _=>(ax QX QY hr.m (ac (aa 0) ae)))) ae))))))))),aB λv hu ts S Q h=>?_⟩
 obtain ⟨z,rfl,hz,hq⟩:=h
 ac_nf
 ·unfold Wm.Wd at hq
  ext
  refine ifB (λhb=>?_) λhb=>?_
  ·ext
   have hb:=of_decide_eq_true hb
   rw [decide_eq_false (by omega),Bool.false_and] at hq
   exact .mk hq
  ·have hb:=of_decide_eq_false hb
   rw [decide_eq_true (by omega),Bool.true_and,Wm.qB] at hq
   have hsl:=PyProof.Rows.split_le z " "
   ext
   refine ifB (λhb=>?_) λhb=>?_
   ·have hb:=of_decide_eq_true hb
    rw [decide_eq_true (by omega),Bool.true_and] at hq
    ext
    refine c8 (ls:=Txt.split z " ") T2.T.str (λp=>some (.bl (Sc.isP (Tm.tl p)))) [] ?_ ?_ (λx hx u LQ N Ml hN=>?_) ?_
    ·trivial
    ·rw [sizeLine_eq];omega
    ·have hxl:=Tm.qZ hx
     ext
     exact ⟨Ml,hN _⟩
    ·ext
     refine uE (bs:=(Txt.split z " ").map λp=>Sc.isP (Tm.tl p)) (by rw [<- Wm.all_map,List.map_map];rw [Wm.tH];rfl) ?_
     rw [List.all_map]
     exact .mk hq
   ·have hb:=of_decide_eq_false hb
    rw [decide_eq_false (by omega),Bool.false_and] at hq
    exact .mk hq
def fI:WSp:=λts S Q=>∃ (m:Int×Int) (OX:Int),ts=[mkT m,.int OX]/\m.2<=OX/\Q (.int (wrt m OX)) S
theorem D0 {S:Sto}{Q:T->Sto->Prop}{m:Int×Int}{OX:Int}(h0:m.2<=OX) (h:Q (.int (wrt m OX)) S):fI ([mkT m,.int OX]++[]) S Q:=⟨m,OX,rfl,h0,h⟩
theorem yM:FnScope dS dS (av md):=by nofun
theorem BJ (F:!"worth_at" md):!1 f fd dS fI:=by
 exists yM
 refine ⟨_,((ag (ap (aC IF (ak (aa 0) af) (aC d4 (aa 1) (ak (aa 0) af)))))),aB λv hu ts S Q h=>?_⟩
 obtain ⟨m,OX,rfl,h0,hq⟩:=h
 ac_nf
 unfold mkT
 ext
 exact .mk hq
def gW:WSp:=λts S Q=>∃ (m:Int×Int) (OX n:Int),ts=[mkT m,.int OX,.int n]/\m.2<=OX/\Q (mkT (wrt m OX+n,OX)) S
theorem Hn {S:Sto}{Q:T->Sto->Prop}{m:Int×Int}{OX n:Int}(h0:m.2<=OX) (h:Q (mkT (wrt m OX+n,OX)) S):gW ([mkT m,.int OX,.int n]++[]) S Q:=⟨m,OX,n,rfl,h0,h⟩
theorem yu:FnScope eK eK (av lQ):=by nofun
theorem Ea (F:!"used_mark" lQ) (MB:!1 f1 LW dS fI) (MC:Df K mg "worth_at" f1 LW dS):!2 f fd eK gW:=by
 exists yu
 refine ⟨_,((ag (ap (aL (ac (aC (bi false) (ax MB MC hr.m (ac (aa 0) (ac (aa 1) ae))) (aa 2)) (ac (aa 1) ae)))))),aB λv hu ts S Q h=>?_⟩
 obtain ⟨m,OX,n,rfl,h0,hq⟩:=h
 ac_nf
 ext
 exact .mk hq
abbrev Ms:=List (Str×Int×Int)
structure Wo (C:Addr) (S:Sto) (p d:Addr) (n:Int) (ms:Ms):Prop where
 ins:S p=some (.ins C [("marks",.ref d),("now",.int n)])
 dct:S d=some (.dK (kt mkT ms))
theorem Wo.ne {S:Sto}{p d:Addr}{n:Int}{ms:Ms}(h:Wo C S p d n ms):p≠d:=λe=>by
 have:=h.ins
 rw [e,h.dct] at this;cases this
def oF (C:Addr):WSp:=λts S Q=>∃ p,ts=[.ref p]/\S p=some (.ins C [])/\∀ d,S d=none->Q .non (put (put S d (.dK [])) p (.ins C [("marks",.ref d),("now",.int 0)]))
theorem yv:FnScope vv6 vv6 (av lU):=by nofun
theorem Eb (F:!"__init__" "Wood.__init__" lU) (T:!0):!1 f fd vv6 (oF C):=by
 exists yv
 refine ⟨_,((aj (b8 rfl T.gm (aa 0) eS) (ag (b8 rfl T.gn (aa 0) af)))),aB λv hu ts S Q h=>?_⟩
 obtain ⟨p,rfl,hp,hq⟩:=h
 ac_nf
 ext
 intro d hd
 have Oq:p≠d:=λe=>by rw [e,hd] at hp;cases hp
 ext
 refine eT aF rfl (Nat.le_of_ble_eq_true rfl) ?_
 rw [bM]
 exact .mk (hq d hd)
def j5 (C:Addr):WSp:=λts S Q=>∃ p d n ms z m,ts=[.ref p,.str z]/\Wo C S p d n ms/\look ms z=some m/\Q (mkT m) S
theorem vc {S:Sto}{Q:T->Sto->Prop}{p d:Addr}{n:Int}{ms:Ms}{z:Str}{m:Int×Int}(h1:Wo C S p d n ms) (h2:look ms z=some m) (h:Q (mkT m) S):j5 C ([.ref p,.str z]++[]) S Q:=⟨p,d,n,ms,z,m,rfl,h1,h2,h⟩
theorem pW:FnScope vv0 vv0 (av iX):=by nofun
theorem Ec (F:!"mark_of" "Wood.mark_of" iX) (T:!0):!1 f fd vv0 (j5 C):=by
 exists pW
 refine ⟨_,((aj (ao (aI (eN w rfl) (aa 1) (aD T.gm (aa 0)) (by with_unfolding_all rfl)) (ag bY) au) (ag (ap (aM w (aD T.gm (aa 0)) (aa 1)))))),aB λv hu ts S Q h=>?_⟩
 obtain ⟨p,d,n,ms,z,m,rfl,⟨hw,hd⟩,hm,hq⟩:=h
 have hv:aP (kt mkT ms) (Sum.inr z)=some (mkT m):=by rw [ba,hm];rfl
 ac_nf
 ext
 refine bG hd rfl ?_
 rw [hv]
 subst_eqs
 ext
 refine dL hd rfl hv ?_
 exact .mk hq
def pv (C:Addr):WSp:=λts S Q=>∃ p d n ms z c,ts=[.ref p,.str z,.int c]/\Wo C S p d n ms/\ms.length<=100/\Wm.Wd z=true/\look ms z=none/\Q .non (put S d (.dK (kt mkT (ms++[(z,c,n)]))))
theorem qo:FnScope vv4 vv4 (av jb):=by nofun
theorem Hq (F:!"put" "Wood.put" jb) (T:!0) (Ma:!3 f1 LW ["thing"] gL) (Mb:Df K mg "is_word" f1 LW ["thing"]):!4 f fd vv4 (pv C):=by
 exists qo
 refine ⟨_,((aj (ao (br (a0 (ax Ma Mb hr.m (ac (aa 1) ae)))) (ag bY) au) (aj (ao (aI (bJ w rfl) (aa 1) (aD T.gm (aa 0)) (by with_unfolding_all rfl)) (ag bY) au) (ag (bu (aL (ac (aa 2) (ac (aD T.gn (aa 0)) ae))) (bA (aD T.gm (aa 0)) (aa 1) (cu (bq hr)))))))),aB λv hu ts S Q h=>?_⟩
 obtain ⟨p,d,n,ms,z,c,rfl,⟨hw,hd⟩,hl,hz,hm,hq⟩:=h
 have hv:aP (kt mkT ms) (Sum.inr z)=none:=by rw [ba,hm];rfl
 have hzl:=Wm.hZ hz
 ac_nf
 ext
 refine ⟨z,rfl,by omega,?_⟩
 rw [hz]
 ext
 refine bG hd rfl ?_
 rw [hv]
 subst_eqs
 ext
 refine eU hd rfl (by rw [fV,sizeLine_eq];omega) ?_
 rw [show (T2.T.tup [.int c,.int n])=mkT (c,n) from rfl,fU,h7 _ (cq.mp hm)]
 exact .mk hq
def py (C:Addr):WSp:=λts S Q=>∃ p d n ms z c m,ts=[.ref p,.str z,.int c]/\Wo C S p d n ms/\ms.length<=100/\look ms z=some m/\m.2<=n/\Q .non (put S d (.dK (kt mkT (pu ms z (wrt m n+c,n)))))
theorem qp:FnScope vv2 vv2 (av jc):=by nofun
theorem Hr (F:!"use" "Wood.use" jc) (T:!0) (Nw:!2 f1 LW eK gW) (Mt:Df K mg "used_mark" f1 LW eK)
  (MD:!1 f2 Nd vv0 (j5 C)) (LX:Meth K C "mark_of" f2) (LY:aw K Nd vv0 []):!3 f fd vv2 (py C):=by
 exists qp
 refine ⟨_,((ag (bu (ax Nw Mt hr.m (ac (aY (T.gf LX) MD LY hr.m (aa 0) (ac (aa 1) ae)) (ac (aD T.gn (aa 0)) (ac (aa 2) ae)))) (bA (aD T.gm (aa 0)) (aa 1) (cu (bq hr)))))),aB λv hu ts S Q h=>?_⟩
 obtain ⟨p,d,n,ms,z,c,m,rfl,⟨hw,hd⟩,hl,hm,hn,hq⟩:=h
 ac_nf
 ext
 refine vc ⟨hw,hd⟩ hm ?_
 ext
 refine eU hd rfl (by rw [fV,sizeLine_eq];omega) ?_
 rw [fU]
 exact .mk hq
def m7 (C:Addr):WSp:=λts S Q=>∃ p d n ms z m,ts=[.ref p,.str z]/\Wo C S p d n ms/\look ms z=some m/\Q .non (put S d (.dK (kt mkT (dr ms z))))
theorem pX:FnScope vv0 vv0 (av i4):=by nofun
theorem An (F:!"strike" "Wood.strike" i4) (T:!0)
  (MD:!1 f2 Nd vv0 (j5 C)) (LX:Meth K C "mark_of" f2) (LY:aw K Nd vv0 []):!2 f fd vv0 (m7 C):=by
 exists pX
 refine ⟨_,((aj (bd (aY (T.gf LX) MD LY hr.m (aa 0) (ac (aa 1) ae))) (ag (bd (bK PySem.F.plainAttrs_dict PySem.F.slot_dict_pop PySem.F.type_dict_pop hJ (aD T.gm (aa 0)) (ac (aa 1) ae)))))),aB λv hu ts S Q h=>?_⟩
 obtain ⟨p,d,n,ms,z,m,rfl,⟨hw,hd⟩,hm,hq⟩:=h
 have hv:aP (kt mkT ms) (Sum.inr z)=some (mkT m):=by rw [ba,hm];rfl
 ac_nf
 ext
 refine vc ⟨hw,hd⟩ hm ?_
 ext
 refine jV hd rfl hv ?_
 rw [jJ]
 exact .mk hq
def oG (C:Addr):WSp:=λts S Q=>∃ p d n ms c,ts=[.ref p,.int c]/\Wo C S p d n ms/\Q .non (put S p (.ins C [("marks",.ref d),("now",.int (n+c))]))
theorem yw:FnScope vv8 vv8 (av lV):=by nofun
theorem Ed (F:!"fade" "Wood.fade" lV) (T:!0):!1 f fd vv8 (oG C):=by
 exists yw
 refine ⟨_,((ag (qT rfl T.gn (aa 0) (aa 1)))),aB λv hu ts S Q h=>?_⟩
 obtain ⟨p,d,n,ms,c,rfl,⟨hw,hd⟩,hq⟩:=h
 ac_nf
 ext
 exact .mk hq
theorem js {S:Sto}{a:Addr}{o:O}(h:S a=some o):put S a o=S:=by
 funext b
 by_cases e:b=a
 ·subst e;rw [aF,h]
 ·rw [aA e]
theorem qC {α:Type}{grd:Sto->Prop}{g:WG}{tt:WT}{te:WE}{Q:List T2.T->Sto->Prop}(f:α->T2.T) (φ:α->Option T2.T) (cs:StT){ls:List α}{S:Sto}(hg:grd S) (hz:ls.length<=sizeLine)
  (step:∀ a∈ls,∀ (u v:Option T2.T) (LQ:List T2.T) (N:List T2.T->StT->Sto->Prop),LQ.length<sizeLine->(∀ u' v',N (LQ++(φ a).toList) (u'::v'::cs) S) ->
   g (f a) (u::v::cs) S λMz S2=>tt Mz S2 λb S3=>if b=true then te Mz S3 λy S4=>LQ.length<sizeLine/\N (LQ++[y]) Mz S4 else N LQ Mz S3)
  (done:Q (ls.filterMap φ) S):dj grd g tt te Q (ls.map f) [] (none::none::cs) S:=by
 refine gH (λitems LQ LO S'=>∃ pre NH u v,ls=pre++NH/\items=NH.map f/\LQ=pre.filterMap φ/\LO=u::v::cs/\S'=S) ⟨[],ls,none,none,rfl,rfl,rfl,rfl,rfl⟩ ?_ ?_
 ·rintro t ts LQ LO S' N ⟨pre,NH,u,v,e,e2,rfl,rfl,rfl⟩ hN
  cases NH with
  |nil=>cases e2
  |cons a r =>
   simp only [List.map_cons,List.cons.injEq] at e2
   obtain ⟨rfl,rfl⟩:=e2
   refine ⟨hg,step a (by rw [e];simp) u v _ N ?_ λu' v'=>hN _ _ _ ⟨pre++[a],r,u',v',by rw [e];simp,rfl,?_,rfl,rfl⟩⟩
   ·have h1:=List.length_filterMap_le φ pre
    have h2:ls.length=pre.length+(r.length+1):=by rw [e];simp
    omega
   ·rw [List.filterMap_append];cases h:φ a<;>simp [h]
 ·rintro LQ LO S' ⟨pre,NH,u,v,e,e2,rfl,rfl,rfl⟩
  have:NH=[]:=by cases NH with|nil=>rfl|cons _ _=>cases e2
  subst this
  rw [List.append_nil] at e
  subst e
  exact ⟨hg,done⟩
def fu (ms:Ms) (b:Str):Ms:=ms.filter λa=>PySem.Txt.startswith a.1 b
def rtd (ms:Ms) (n:Int) (b:Str):List Rt:=(fu ms b).map λa=>(a.1,wrt a.2 n)
theorem j6 {ms:Ms}{n:Int}{b:Str}(h:(ms.map (·.1)).Nodup):(rtd ms n b).Nodup:=by
 refine BC ?_
 unfold rtd fu
 rw [List.map_map]
 exact (List.Sublist.map _ (List.filter_sublist)).nodup h
theorem jK (ms:Ms) (n:Int) (b:Str):(rtd ms n b).length<=ms.length:=by
 unfold rtd fu
 rw [List.length_map];exact List.length_filter_le _ _
def tK (C:Addr):WSp:=λts S Q=>∃ p d n ms b,ts=[.ref p,.str b]/\Wo C S p d n ms/\ms.length<=100/\(∀ a∈ms,a.2.2<=n)/\Q (.lst ((rtd ms n b).map rt)) S
theorem x9:FnScope dR dR (av lN):=by nofun
theorem BK (F:!"begun" "Wood.begun" lN) (T:!0) (MB:!1 f1 LW dS fI) (MC:Df K mg "worth_at" f1 LW dS):!2 f fd dR (tK C):=by
 exists x9
 refine ⟨_,((ag (ap (JK w rfl (cU false vv27 2 [0,1] rfl (Dy w rfl rfl (aD T.gm (aa 0))) (λ_ _ _ _=>(jT (λh=>jy (n:=2) rfl rfl h) (dD (aW 0 (show List.Nodup (vv27:List Str) from by decide +kernel)) (dD (aW 1 (show List.Nodup (vv27:List Str) from by decide +kernel)) jB (λh1 h2=>dC h1 h2)) (λh1 h2=>dC h1 h2)))) (λ_ _ _ _=>(jE (a0 (bK PySem.F.plainAttrs_str PySem.F.slot_str_startswith PySem.F.type_str_startswith rS (aa 0) (ac (aa 3) ae))))) (λ_ _ _ _=>(aL (ac (aa 0) (ac (ax MB MC hr.m (ac (aa 1) (ac (aD T.gn (aa 2)) ae))) ae))))))))),aB λv hu ts S Q h=>?_⟩
 obtain ⟨p,d,n,ms,b,rfl,W,hl,hn,hq⟩:=h
 have hw:=W.ins
 have hd:=W.dct
 have hpd:=W.ne
 ac_nf
 ext
 intro od kvs
 rw [show (kt mkT ms).map kD=ms.map (λa=>T2.T.tup [.str a.1,mkT a.2]) by unfold kt;rw [List.map_map];rfl]
 refine qC (λa:Str×Int×Int=>T2.T.tup [.str a.1,mkT a.2]) (λa=>if PySem.Txt.startswith a.1 b=true then some (rt (a.1,wrt a.2 n)) else none) [some (.ref p),some (.str b)] aF (by rw [sizeLine_eq];omega) (λa ha u v LQ N Ml hN=>?_) ?_
 ·have hn1:=hn a ha
  ext
  refine ifB (λhb=>?_) λhb=>?_
  ·ext
   rw [if_pos hb] at hN
   exact ⟨Ml,hN _ _⟩
  ·rw [hb] at hN
   have:=hN (some (.str a.1)) (some (mkT a.2))
   rw [if_neg (by decide),Option.toList_none,List.append_nil] at this
   exact this
 rw [show (ms.filterMap λa=>if PySem.Txt.startswith a.1 b=true then some (rt (a.1,wrt a.2 n)) else none)=(rtd ms n b).map rt by
  unfold rtd fu
  clear hd hl hn hq W
  induction ms with
  |nil=>rfl
  |cons a l ih =>
   rw [List.filterMap_cons,List.filter_cons]
   by_cases e:PySem.Txt.startswith a.1 b=true
   ·rw [if_pos e,if_pos e];simp only [List.map_cons,ih]
   ·rw [if_neg e,if_neg e];exact ih]
 ext
 refine xm aF ?_
 rw [bM,js hd]
 exact .mk hq
def kF (C:Addr):WSp:=λts S Q=>∃ p d n ms z,ts=[.ref p,.str z]/\Wo C S p d n ms/\Q (.bl (look ms z).isSome) S
theorem yN:FnScope vv0 vv0 (av mf):=by nofun
theorem Hs (F:!"has" "Wood.has" mf) (T:!0):!1 f fd vv0 (kF C):=by
 exists yN
 refine ⟨_,((ag (ap (bN (bJ w rfl) (aa 1) (aD T.gm (aa 0)) (by with_unfolding_all rfl))))),aB λv hu ts S Q h=>?_⟩
 obtain ⟨p,d,n,ms,z,rfl,⟨hw,hd⟩,hq⟩:=h
 ac_nf
 ext
 refine bG hd rfl ?_
 rw [ba,Option.isSome_map,Bool.false_xor]
 exact .mk hq
def j7:WSp:=λts S Q=>∃ a:Rt,ts=[rt a]/\Q (tre (ky a)) S
theorem va {S:Sto}{Q:T->Sto->Prop}{a:Rt}(h:Q (tre (ky a)) S):j7 ([rt a]++[]) S Q:=⟨a,rfl,h⟩
theorem yO:FnScope ["pair"] ["pair"] (av ma):=by nofun
theorem Ee (F:!"rank_key" ma):!1 f fd ["pair"] j7:=by
 exists yO
 refine ⟨_,((ag (ap (aL (ac (cX (ak (aa 0) af)) (ac (ak (aa 0) af) ae)))))),aB λv hu ts S Q h=>?_⟩
 obtain ⟨a,rfl,hq⟩:=h
 rw [oB] at hq
 ac_nf
 unfold rt
 ext
 exact .mk hq
def oH:WSp:=λts S Q=>∃ (x:T2.T) (l:List Rt) (m:Int),ts=[x,.int m]/\aT S x=some (l.map rt)/\l.length<64/\l.Nodup/\0<=m/\Q (.lst (((bst l).take m.toNat).map rt)) S
theorem zk:FnScope iU iU (av mF):=by nofun
theorem Ef (F:!"best_of" mF) (T:!0) (NK:!1 f1 LW ["pair"] j7) (NL:Df K mg "rank_key" f1 LW ["pair"]):!4 f fd iU oH:=by
 exists zk
 refine ⟨_,((ag (ap (dX false rfl (sY false rfl NK NL hr.m (by rfl) T.sorted (by rfl) (ac (aa 0) ae)) eP (dE (aa 1)))))),aB λv hu ts S Q h=>?_⟩
 obtain ⟨x,l,m,rfl,hv,Ps,hn,hm,hq⟩:=h
 ac_nf
 ext
 refine sZ kyT (ky ("",0)) hv Ps rfl (by decide) (λa ha=>⟨rfl,rfl,λS' Q' q=>⟨a,rfl,q⟩⟩) λl' p hs=>?_
 rw [Aj hn p hs]
 ext
 rw [nE hm]
 exact .mk hq
def nM (C XA:Addr):bz:=λts S R=>∃ p d n ms z,ts=[.ref p,.str z]/\Wo C S p d n ms/\look ms z=none/\z.length<=1000/\PyData.strOk z=true/\R XA S
theorem Eg (F:!"mark_of" "Wood.mark_of" iX) (T:!0):FnOk P w K mg base (CX1 P w) 1 f fd vv0 (aR K (nM C Z.A)):=by
 exists pW
 refine ⟨_,((aH (bj (aI (eN w rfl) (aa 1) (aD T.gm (aa 0)) (by with_unfolding_all rfl)) (aH (cO T.x_Absent T.k_Absent rfl (by rfl) T.mg_Absent (ac (eI (aa 1)) ae))) bn))),cv λv hu ts S Q h=>?_⟩
 obtain ⟨p,d,n,ms,z,rfl,⟨hw,hd⟩,hm,hz,N4,hq⟩:=h
 have hv:aP (kt mkT ms) (Sum.inr z)=none:=by rw [ba,hm];rfl
 ac_nf
 ext
 refine bG hd rfl ?_
 rw [hv]
 subst_eqs
 ext
 refine ⟨z,rfl,hz,N4,λe=>?_⟩
 ext
 exact ⟨Nat.le_of_ble_eq_true rfl,.mk hq⟩
def oI (C XN XT:Addr):bz:=λts S R=>∃ p d n ms z c,ts=[.ref p,.str z,.int c]/\Wo C S p d n ms/\z.length<=1000/\PyData.strOk z=true/\(Wm.Wd z=false/\R XN S\/Wm.Wd z=true/\(∃ m,look ms z=some m)/\R XT S)
theorem Ht (F:!"put" "Wood.put" jb) (T:!0) (Ma:!3 f1 LW ["thing"] gL) (Mb:Df K mg "is_word" f1 LW ["thing"]):FnOk P w K mg base (CX1 P w) 4 f fd vv4 (aR K (oI C Z.N Z.T)):=by
 exists qo
 refine ⟨_,((b9 (aH (bj (br (a0 (ax Ma Mb hr.m (ac (aa 1) ae)))) (aH (cO T.x_NoWord T.k_NoWord rfl (by rfl) T.mg_NoWord (ac (eI (aa 1)) ae))) bn)) (bE (ao (br (a0 (ax Ma Mb hr.m (ac (aa 1) ae)))) (ag bY) au) (aH (bj (aI (bJ w rfl) (aa 1) (aD T.gm (aa 0)) (by with_unfolding_all rfl)) (aH (cO T.x_Twice T.k_Twice rfl (by rfl) T.mg_Twice (ac (eI (aa 1)) ae))) bn))))),cv λv hu ts S Q h=>?_⟩
 obtain ⟨p,d,n,ms,z,c,rfl,⟨hw,hd⟩,hz,N4,h⟩:=h
 ac_nf
 rcases h with ⟨hm,hq⟩|⟨hm,⟨m,hl⟩,hq⟩
 ·refine iC (iR ?_)
  ext
  refine ⟨z,rfl,hz,?_⟩
  rw [hm]
  ext
  refine ⟨z,rfl,hz,N4,λe=>?_⟩
  ext
  exact ⟨Nat.le_of_ble_eq_true rfl,.mk hq⟩
 ·have hv:aP (kt mkT ms) (Sum.inr z)=some (mkT m):=by rw [ba,hl];rfl
  refine iD (hU ?_)
  ext
  refine ⟨z,rfl,hz,?_⟩
  rw [hm]
  ext
  refine bG hd rfl ?_
  rw [hv]
  subst_eqs
  ext
  refine ⟨z,rfl,hz,N4,λe=>?_⟩
  ext
  exact ⟨Nat.le_of_ble_eq_true rfl,.mk hq⟩
def oJ (C XA:Addr):bz:=λts S R=>∃ p d n ms z c,ts=[.ref p,.str z,.int c]/\Wo C S p d n ms/\look ms z=none/\z.length<=1000/\PyData.strOk z=true/\R XA S
theorem Hu (F:!"use" "Wood.use" jc) (T:!0) (Mt:Df K mg "used_mark" f1 LW eK)
  (ME:FnOk P w K mg base (CX1 P w) 1 f2 Nd vv0 (aR K (nM C Z.A))) (LX:Meth K C "mark_of" f2) (LY:aw K Nd vv0 []):FnOk P w K mg base (CX1 P w) 3 f fd vv2 (aR K (oJ C Z.A)):=by
 exists qp
 refine ⟨_,((aH (G8 (Bs Mt (by rfl) (Br (bS (T.gf LX) ME LY hr.m (aa 0) (ac (aa 1) ae))))))),cv λv hu ts S Q h=>?_⟩
 obtain ⟨p,d,n,ms,z,c,rfl,W,hm,hz,N4,hq⟩:=h
 have hw:=W.ins
 ac_nf
 ext
 exact ⟨p,d,n,ms,z,rfl,W,hm,hz,N4,.mk hq⟩
def mR (C XA:Addr):bz:=λts S R=>∃ p d n ms z,ts=[.ref p,.str z]/\Wo C S p d n ms/\look ms z=none/\z.length<=1000/\PyData.strOk z=true/\R XA S
theorem Ao (F:!"strike" "Wood.strike" i4) (T:!0)
  (ME:FnOk P w K mg base (CX1 P w) 1 f2 Nd vv0 (aR K (nM C Z.A))) (LX:Meth K C "mark_of" f2) (LY:aw K Nd vv0 []):FnOk P w K mg base (CX1 P w) 3 f fd vv0 (aR K (mR C Z.A)):=by
 exists pX
 refine ⟨_,((aH (gQ (bS (T.gf LX) ME LY hr.m (aa 0) (ac (aa 1) ae))))),cv λv hu ts S Q h=>?_⟩
 obtain ⟨p,d,n,ms,z,rfl,W,hm,hz,N4,hq⟩:=h
 have hw:=W.ins
 ac_nf
 ext
 exact ⟨p,d,n,ms,z,rfl,W,hm,hz,N4,.mk hq⟩
abbrev Rw:=Str×Int×Bool
noncomputable def rw3 (a:Rw):T2.T:=.tup [.str a.1,.int a.2.1,.bl a.2.2]
def wo (b:Bool) (l:List Rt):List Rw:=l.map λa=>(a.1,a.2,b)
theorem gS (l:List Rt):(bst l).length=l.length:=(dU l).length_eq
theorem Hv {S:Sto}{Q:T->Sto->Prop}{l:List Rt}{m:Int}(h1:l.length<64) (h2:l.Nodup) (h3:0<=m) (h:Q (.lst (((bst l).take m.toNat).map rt)) S):oH ([.lst (l.map rt),.int m]++[]) S Q:=⟨_,l,m,rfl,rfl,h1,h2,h3,h⟩
def oK:WSp:=λts S Q=>∃ (l:List Rt) (b:Bool),ts=[.lst (l.map rt),.bl b]/\l.length<64/\l.Nodup/\Q (.lst ((wo b (bst l)).map rw3)) S
theorem yP:FnScope ["rated","own"] ["rated","own"] (av mh):=by nofun
theorem Eh (F:!"with_own" mh) (T:!0)
  (QZ:!4 f2 Nd iU oH) (Q0:Df K mg "best_of" f2 Nd iU):!5 f fd ["rated","own"] oK:=by
 exists yP
 refine ⟨_,((ag (ap (cU false ["word","worth","own"] 2 [1] rfl (cB rfl (ax QZ Q0 hr.m (ac (aa 0) (ac (aJ (a8 rfl) T.len PySem.boot_len (ac (aa 0) ae)) ae)))) (λ_ _ _ _=>(jT (λh=>jy (n:=2) rfl rfl h) (dD (aW 0 (show List.Nodup (["word","worth","own"]:List Str) from by decide +kernel)) (dD (aW 1 (show List.Nodup (["word","worth","own"]:List Str) from by decide +kernel)) jB (λh1 h2=>dC h1 h2)) (λh1 h2=>dC h1 h2)))) (λ_ _ _ _=>cQ) (λ_ _ _ _=>(aL (ac (aa 0) (ac (aa 1) (ac (aa 2) ae))))))))),aB λv hu ts S Q h=>?_⟩
 obtain ⟨l,b,rfl,Ps,hn,hq⟩:=h
 have hbl:=gS l
 ac_nf
 ext
 refine Hv Ps hn (by omega) ?_
 rw [show ((l.length:Int)).toNat=(bst l).length by rw [hbl];omega,List.take_length]
 ext
 refine qC (ls:=bst l) rt (λa=>some (rw3 (a.1,a.2,b))) [some (.bl b)] trivial (by rw [sizeLine_eq];omega) (λa ha u v LQ N Ml hN=>?_) ?_
 ·unfold rt
  ext
  exact ⟨Ml,hN _ _⟩
 ·rw [show (bst l).filterMap (λa=>some (rw3 (a.1,a.2,b)))=(wo b (bst l)).map rw3 by unfold wo;rw [List.map_map,<- List.filterMap_eq_map];rfl]
  ext
  exact .mk hq
structure Ly (C L:Addr) (S:Sto) (y h e p d v:Addr) (k n:Int) (hs ms:Ms) (vs:List (Str×Bool)):Prop where
 ins:S y=some (.ins L [("house",.ref h),("own",.ref p),("veiled",.ref v)])
 wh:Wo C S h e k hs
 wp:Wo C S p d n ms
 ve:S v=some (.dK (kt T2.T.bl vs))
structure Mo (n:Int) (ms:Ms):Prop where
 len:ms.length<=60
 old:∀ a∈ms,a.2.2<=n
 nd:(ms.map (·.1)).Nodup
 wd:∀ a∈ms,Wm.Wd a.1=true
theorem iF {S:Sto}{a b:Addr}{o:O}(h1:S a=none) (h2:S b=some o):a≠b:=λe=>by rw [e,h2] at h1;cases h1
theorem Kd {S:Sto}{x y:Addr}{o1 o2 o3:O}(hx:S x=none) (hy:put S x o1 y=none) :
  put (put (put S x o1) y o2) x o3 x=some o3/\put (put (put S x o1) y o2) x o3 y=some o2/\(∀ a o,S a=some o->put (put (put S x o1) y o2) x o3 a=some o)/\S y=none:=by
 obtain ⟨h1,h2⟩:=b6 hy
 refine ⟨aF,(aA h1).trans aF,λa o e=>?_,h2⟩
 have e1:=iF hx e
 have e2:=iF h2 e
 rw [aA (Ne.symm e1),aA (Ne.symm e2),aA (Ne.symm e1)];exact e
def tL (C L:Addr):WSp:=λts S Q=>∃ y h,ts=[.ref y,.ref h]/\S y=some (.ins L [])/\∀ S' p d v,S' y=some (.ins L [("house",.ref h),("own",.ref p),("veiled",.ref v)])->Wo C S' p d 0 []->S' v=some (.dK [])->d≠v->S p=none->S d=none->S v=none ->
 (∀ a o,S a=some o->a≠y->S' a=some o)->Q .non S'
theorem xQ:FnScope iV iV (av lq):=by nofun
theorem BL (F:!"__init__" "Layers.__init__" lq) (T:!0)
  (Mu:!1 f1 LW vv6 (oF C)) (Qp:Mk K C f1) (Mv:aw K LW vv6 []):!3 f fd iV (tL C L):=by
 exists xQ
 refine ⟨_,((aj (b8 rfl T.gh (aa 0) (aa 1)) (aj (b8 rfl T.go (aa 0) (nG Qp Mu Mv hr.m (by rfl) T.mg_Wood)) (ag (b8 rfl T.gv (aa 0) eS))))),aB λv hu ts S Q hh=>?_⟩
 obtain ⟨y,h,rfl,hy,hq⟩:=hh
 ac_nf
 ext
 rw [show cf (Str.ofString "house") (T2.T.ref h) []=[(Str.ofString "house",T2.T.ref h)] from rfl]
 intro p hp
 refine ⟨p,rfl,aF,λd hd=>⟨rfl,?_⟩⟩
 obtain ⟨x1,x2,kp,hd1⟩:=Kd (o2:=.dK []) (o3:=.ins C [("marks",.ref d),("now",.int 0)]) hp hd
 have hpy:=(b6 hp).1
 have hp0:=(b6 hp).2
 have hdy:=(b6 hd1).1
 have hd0:=(b6 hd1).2
 have k1:=kp y _ aF
 have k2:∀ a o,S a=some o->a≠y->put (put (put (put S y (.ins L [("house",.ref h)])) p (.ins C [])) d (.dK [])) p (.ins C [("marks",.ref d),("now",.int 0)]) a=some o:=λa o ha hay=>kp a o ((aA hay).trans ha)
 generalize put (put (put (put S y (.ins L [("house",.ref h)])) p (.ins C [])) d (.dK [])) p (.ins C [("marks",.ref d),("now",.int 0)])=S1 at x1 x2 k1 k2 ⊢
 clear kp
 ext
 intro v hv
 have hvy:=(b6 hv).1
 have hv0:=(b6 hv).2
 have hvd:d≠v:=λe=>by rw [e,hv0] at x2;cases x2
 have hvp:p≠v:=λe=>by rw [e,hv0] at x1;cases x1
 ext
 refine eT (fs:=[(Str.ofString "house",T2.T.ref h),(Str.ofString "own",T2.T.ref p)]) ((aA (Ne.symm hvy)).trans aF) rfl (by simp) ?_
 refine .mk (hq _ p d v aF ⟨?_,?_⟩ ?_ hvd hp0 hd0 ?_ λa o ha hay=>?_)
 ·rw [aA hpy,aA hvp,aA hpy];exact x1
 ·rw [aA hdy,aA hvd,aA hdy];exact x2
 ·rw [aA hvy];exact aF
 ·cases hsv:S v with
  |none=>rfl
  |some o=>rw [k2 v o hsv hvy] at hv0;cases hv0
 ·have h1:=k2 a o ha hay
  rw [aA hay,aA (λe=>by rw [e,hv0] at h1;cases h1),aA hay];exact h1
def vd (C L:Addr):WSp:=λts S Q=>∃ y h e p d v k n hs ms vs z c,ts=[.ref y,.str z,.int c]/\Ly C L S y h e p d v k n hs ms vs/\ms.length<=60/\Wm.Wd z=true/\look ms z=none/\Q .non (put S d (.dK (kt mkT (ms++[(z,c,n)]))))
theorem p8:FnScope vv4 vv4 (av i8):=by nofun
theorem Ei (F:!"put" "Layers.put" i8) (T:!0)
  (NM:!4 f1 LW vv4 (pv C)) (Mg:Meth K C "put" f1) (Mh:aw K LW vv4 []):!5 f fd vv4 (vd C L):=by
 exists p8
 refine ⟨_,((ag (bd (aY (T.gf Mg) NM Mh hr.m (aD T.go (aa 0)) (ac (aa 1) (ac (aa 2) ae)))))),aB λv hu ts S Q hh=>?_⟩
 obtain ⟨y,h,e,p,d,v,k,n,hs,ms,vs,z,c,rfl,hL,hl,hz,hm,hq⟩:=hh
 have hy:=hL.ins
 have hp:=hL.wp.ins
 ac_nf
 ext
 refine ⟨p,d,n,ms,z,c,rfl,hL.wp,by omega,hz,hm,?_⟩
 ext
 exact .mk hq
def rB (C L:Addr):WSp:=λts S Q=>∃ y h e p d v k n hs ms vs z m,ts=[.ref y,.str z]/\Ly C L S y h e p d v k n hs ms vs/\look ms z=some m/\Q .non (put S d (.dK (kt mkT (dr ms z))))
theorem pV:FnScope vv0 vv0 (av iW):=by nofun
theorem zl (F:!"strike" "Layers.strike" iW) (T:!0)
  (MR:!2 f1 LW vv0 (m7 C)) (LZ:Meth K C "strike" f1) (L0:aw K LW vv0 []):!3 f fd vv0 (rB C L):=by
 exists pV
 refine ⟨_,((ag (bd (aY (T.gf LZ) MR L0 hr.m (aD T.go (aa 0)) (ac (aa 1) ae))))),aB λv hu ts S Q hh=>?_⟩
 obtain ⟨y,h,e,p,d,v,k,n,hs,ms,vs,z,m,rfl,hL,hm,hq⟩:=hh
 have hy:=hL.ins
 have hp:=hL.wp.ins
 ac_nf
 ext
 refine ⟨p,d,n,ms,z,m,rfl,hL.wp,hm,?_⟩
 ext
 exact .mk hq
def vf (C L:Addr):WSp:=λts S Q=>∃ y h e p d v k n hs ms vs z,ts=[.ref y,.str z]/\Ly C L S y h e p d v k n hs ms vs/\vs.length<=60/\Wm.Wd z=true/\look vs z=none/\Q .non (put S v (.dK (kt T2.T.bl (vs++[(z,true)]))))
theorem pY:FnScope vv0 vv0 (av i5):=by nofun
theorem Ej (F:!"hide" "Layers.hide" i5) (T:!0) (Ma:!3 f1 LW ["thing"] gL) (Mb:Df K mg "is_word" f1 LW ["thing"]):!4 f fd vv0 (vf C L):=by
 exists pY
 refine ⟨_,((aj (ao (br (a0 (ax Ma Mb hr.m (ac (aa 1) ae)))) (ag bY) au) (aj (ao (aI (bJ w rfl) (aa 1) (aD T.gv (aa 0)) (by with_unfolding_all rfl)) (ag bY) au) (ag (bu bP (bA (aD T.gv (aa 0)) (aa 1) (cu (bq hr)))))))),aB λv hu ts S Q hh=>?_⟩
 obtain ⟨y,h,e,p,d,v,k,n,hs,ms,vs,z,rfl,hL,hl,hz,hm,hq⟩:=hh
 have hy:=hL.ins
 have hd:=hL.ve
 have hv:aP (kt T2.T.bl vs) (Sum.inr z)=none:=by rw [ba,hm];rfl
 have hzl:=Wm.hZ hz
 ac_nf
 ext
 refine ⟨z,rfl,by omega,?_⟩
 rw [hz]
 ext
 refine bG hd rfl ?_
 rw [hv]
 subst_eqs
 ext
 refine eU hd rfl (by rw [fV,sizeLine_eq];omega) ?_
 rw [fU,h7 _ (cq.mp hm)]
 exact .mk hq
def vg (C L:Addr):WSp:=λts S Q=>∃ y h e p d v k n hs ms vs z x,ts=[.ref y,.str z]/\Ly C L S y h e p d v k n hs ms vs/\look vs z=some x/\Q .non (put S v (.dK (kt T2.T.bl (dr vs z))))
theorem pZ:FnScope vv0 vv0 (av i6):=by nofun
theorem Ek (F:!"show" "Layers.show" i6) (T:!0):!1 f fd vv0 (vg C L):=by
 exists pZ
 refine ⟨_,((aj (ao (aI (eN w rfl) (aa 1) (aD T.gv (aa 0)) (by with_unfolding_all rfl)) (ag bY) au) (ag (bd (bK PySem.F.plainAttrs_dict PySem.F.slot_dict_pop PySem.F.type_dict_pop hJ (aD T.gv (aa 0)) (ac (aa 1) ae)))))),aB λv hu ts S Q hh=>?_⟩
 obtain ⟨y,h,e,p,d,v,k,n,hs,ms,vs,z,x,rfl,hL,hm,hq⟩:=hh
 have hy:=hL.ins
 have hd:=hL.ve
 have hv:aP (kt T2.T.bl vs) (Sum.inr z)=some (.bl x):=by rw [ba,hm];rfl
 ac_nf
 ext
 refine bG hd rfl ?_
 rw [hv]
 subst_eqs
 ext
 refine jV hd rfl hv ?_
 rw [jJ]
 ext
 exact .mk hq
def oM (C L:Addr):WSp:=λts S Q=>∃ y h e p d v k n hs ms vs z,ts=[.ref y,.str z]/\Ly C L S y h e p d v k n hs ms vs/\Q (.bl ((look vs z).isNone&&(look ms z).isNone)) S
theorem xC:FnScope vv0 vv0 (av kX):=by nofun
theorem El (F:!"is_seen_of_house" "Layers.is_seen_of_house" kX) (T:!0)
  (MF:!1 f1 LW vv0 (kF C)) (MG:Meth K C "has" f1) (MH:aw K LW vv0 []):!2 f fd vv0 (oM C L):=by
 exists xC
 refine ⟨_,((ag (ap (db (bN (eN w rfl) (aa 1) (aD T.gv (aa 0)) (by with_unfolding_all rfl)) (cC (gY (aY (T.gf MG) MF MH hr.m (aD T.go (aa 0)) (ac (aa 1) ae)))))))),aB λv hu ts S Q hh=>?_⟩
 obtain ⟨y,h,e,p,d,v,k,n,hs,ms,vs,z,rfl,hL,hq⟩:=hh
 have hy:=hL.ins
 have hp:=hL.wp.ins
 have hd:=hL.ve
 ac_nf
 ext
 refine bG hd rfl ?_
 rw [ba,Option.isSome_map]
 ext
 refine ifB (λhb=>?_) λhb=>?_
 ·have e1:(look vs z).isNone=true:=by cases q:look vs z with|none=>rfl|some x=>rw [q] at hb;cases hb
  rw [e1,Bool.true_and] at hq
  ext
  refine ⟨p,d,n,ms,z,rfl,hL.wp,?_⟩
  ext
  rw [show (!(look ms z).isSome)=(look ms z).isNone by cases look ms z<;>rfl]
  exact .mk hq
 ·have e1:(look vs z).isNone=false:=by cases q:look vs z with|none=>rw [q] at hb;cases hb|some x=>rfl
  rw [e1,Bool.false_and] at hq
  exact .mk hq
def gB (ms:Ms) (vs:List (Str×Bool)) (n:Int) (b:Str):List Rt:=(rtd ms n b).filter λa=>(look vs a.1).isNone
def gC (hs ms:Ms) (vs:List (Str×Bool)) (k:Int) (b:Str):List Rt:=(rtd hs k b).filter λa=>(look vs a.1).isNone&&(look ms a.1).isNone
def bI (hs ms:Ms) (vs:List (Str×Bool)) (k n:Int) (b:Str):List Rw:=wo true (bst (gB ms vs n b))++wo false (bst (gC hs ms vs k b))
theorem gw {α β:Type}(p:α->Bool) (f:α->β):∀ l:List α,(l.filterMap λa=>if p a=true then some (f a) else none)=(l.filter p).map f
 |[]=>rfl
 |a::l=>by
  have ih:=gw p f l
  rw [List.filterMap_cons,List.filter_cons]
  by_cases e:p a=true
  ·rw [if_pos e,if_pos e];simp only [List.map_cons,ih]
  ·rw [if_neg e,if_neg e];exact ih
theorem vh {S:Sto}{Q:T->Sto->Prop}{l:List Rt}{b:Bool}(h1:l.length<64) (h2:l.Nodup) (h:Q (.lst ((wo b (bst l)).map rw3)) S):oK ([.lst (l.map rt),.bl b]++[]) S Q:=⟨l,b,rfl,h1,h2,h⟩
theorem Hw {S:Sto}{Q:T->Sto->Prop}{y h e p d v:Addr}{k n:Int}{hs ms:Ms}{vs:List (Str×Bool)}{z:Str}(h1:Ly C L S y h e p d v k n hs ms vs) (h:Q (.bl ((look vs z).isNone&&(look ms z).isNone)) S):oM C L (.ref y::([.str z]++[])) S Q:=⟨_,_,_,_,_,_,_,_,_,_,_,_,rfl,h1,h⟩
def pz (C L:Addr):WSp:=λts S Q=>∃ y h e p d v k n hs ms vs b,ts=[.ref y,.str b]/\Ly C L S y h e p d v k n hs ms vs/\Mo k hs/\Mo n ms/\Q (.lst ((bI hs ms vs k n b).map rw3)) S
theorem xE:FnScope ["self","beginning","own","house"] dR (av kZ):=by nofun
theorem Hx (F:!"all_told" "Layers.all_told" kZ) (T:!0)
  (NR:!2 f1 LW dR (tK C)) (NS:Meth K C "begun" f1) (NT:aw K LW dR [])
  (ML:!2 f2 Nd vv0 (oM C L)) (MM:Meth K L "is_seen_of_house" f2) (MN:aw K Nd vv0 [])
  (Ox:!5 f3 P8 ["rated","own"] oK) (Oy:Df K mg "with_own" f3 P8 ["rated","own"]):!6 f fd dR (pz C L):=by
 exists xE
 refine ⟨_,((aj (jh false (i:=2) ["pair","self"] 1 [0] rfl nd rfl (Or.inl rfl) (cB rfl (aY (T.gf NS) NR NT hr.m (aD T.go (aa 0)) (ac (aa 1) ae))) (λ_ _ _ _=>(aW 0 (show List.Nodup (["pair","self"]:List Str) from by decide +kernel))) (λ_ _ _ _=>(jE (aI (eN w rfl) (ak (aa 0) af) (aD T.gv (aa 1)) (by with_unfolding_all rfl)))) (λ_ _ _ _=>(aa 0))) (aj (jh false (i:=3) ["pair","self"] 1 [0] rfl nd rfl (Or.inl rfl) (cB rfl (aY (T.gf NS) NR NT hr.m (aD T.gh (aa 0)) (ac (aa 1) ae))) (λ_ _ _ _=>(aW 0 (show List.Nodup (["pair","self"]:List Str) from by decide +kernel))) (λ_ _ _ _=>(jE (a0 (aY (T.gl MM) ML MN hr.m (aa 1) (ac (ak (aa 0) af) ae))))) (λ_ _ _ _=>(aa 0))) (ag (ap (aC (bi false) (ax Ox Oy hr.m (ac (aa 2) (ac bP ae))) (ax Ox Oy hr.m (ac (aa 3) (ac bP ae))))))))),aB λv hu ts S Q hh=>?_⟩
 obtain ⟨y,h,e,p,d,v,k,n,hs,ms,vs,b,rfl,hL,hH,hM,hq⟩:=hh
 have hy:=hL.ins
 have hp:=hL.wp.ins
 have hhh:=hL.wh.ins
 have hd:=hL.ve
 have l1:=jK ms n b
 have l2:=jK hs k b
 have l3:=hM.len
 have l4:=hH.len
 ac_nf
 ext
 refine ⟨p,d,n,ms,b,rfl,hL.wp,by omega,hM.old,?_⟩
 ext
 refine c8 (ls:=rtd ms n b) rt (λa=>if (look vs a.1).isNone=true then some (rt a) else none) [some (.ref y)] trivial (by rw [sizeLine_eq];omega) (λa ha u LQ N Ml hN=>?_) ?_
 ·have h0:=hN (some (rt a))
  ext
  refine bG hd rfl ?_
  rw [ba,Option.isSome_map]
  refine ⟨_,rfl,?_⟩
  refine ifB (λhb=>?_) λhb=>?_
  ·have e1:(look vs a.1).isNone=true:=by cases q:look vs a.1 with|none=>rfl|some x=>rw [q] at hb;cases hb
   rw [if_pos e1] at h0
   ext
   exact ⟨Ml,h0⟩
  ·have e1:¬ (look vs a.1).isNone=true:=by cases q:look vs a.1 with|none=>rw [q] at hb;cases hb|some x=>simp
   rw [if_neg e1,Option.toList_none,List.append_nil] at h0
   exact h0
 rw [gw]
 ext
 refine ⟨h,e,k,hs,b,rfl,hL.wh,by omega,hH.old,?_⟩
 ext
 refine c8 (ls:=rtd hs k b) rt (λa=>if ((look vs a.1).isNone&&(look ms a.1).isNone)=true then some (rt a) else none) [some (.ref y)] trivial (by rw [sizeLine_eq];omega) (λa ha u LQ N Ml hN=>?_) ?_
 ·have h0:=hN (some (rt a))
  ext
  refine Hw hL ?_
  refine ⟨_,rfl,?_⟩
  refine ifB (λhb=>?_) λhb=>?_
  ·rw [if_pos hb] at h0
   ext
   exact ⟨Ml,h0⟩
  ·rw [if_neg (by rw [hb];decide),Option.toList_none,List.append_nil] at h0
   exact h0
 rw [gw]
 have l5:=List.length_filter_le (λa:Rt=>(look vs a.1).isNone) (rtd ms n b)
 have l6:=List.length_filter_le (λa:Rt=>(look vs a.1).isNone&&(look ms a.1).isNone) (rtd hs k b)
 ext
 refine vh (by omega) (List.filter_sublist.nodup (j6 hM.nd)) ?_
 ext
 refine vh (by omega) (List.filter_sublist.nodup (j6 hH.nd)) ?_
 ext
 refine F9 rfl rfl ?_ ?_
 ·unfold wo
  rw [List.length_map,List.length_map,List.length_map,List.length_map,gS,gS,sizeLine_eq];omega
 rw [<- List.map_append]
 ext
 exact .mk hq
def oN (C L:Addr):WSp:=λts S Q=>∃ y h e p d v k n hs ms vs z c,ts=[.ref y,.str z,.int c]/\Ly C L S y h e p d v k n hs ms vs/\hs.length<=100/\ms.length<=100/\look vs z=none/\((∃ m,look ms z=some m/\m.2<=n/\Q .non (put S d (.dK (kt mkT (pu ms z (wrt m n+c,n))))))\/(look ms z=none/\∃ m,look hs z=some m/\m.2<=k/\Q .non (put S e (.dK (kt mkT (pu hs z (wrt m k+c,k)))))))
theorem p9:FnScope vv2 vv2 (av i9):=by nofun
theorem Em (F:!"use" "Layers.use" i9) (T:!0)
  (MF:!1 f1 LW vv0 (kF C)) (MG:Meth K C "has" f1) (MH:aw K LW vv0 [])
  (Nf:!3 f2 Nd vv2 (py C)) (L3:Meth K C "use" f2) (L4:aw K Nd vv2 []):!4 f fd vv2 (oN C L):=by
 exists p9
 refine ⟨_,((aj (ao (aI (bJ w rfl) (aa 1) (aD T.gv (aa 0)) (by with_unfolding_all rfl)) (ag bY) au) (ag (ao (a0 (aY (T.gf MG) MF MH hr.m (aD T.go (aa 0)) (ac (aa 1) ae))) (ag (bd (aY (T.gf L3) Nf L4 hr.m (aD T.go (aa 0)) (ac (aa 1) (ac (aa 2) ae))))) (ag (bd (aY (T.gf L3) Nf L4 hr.m (aD T.gh (aa 0)) (ac (aa 1) (ac (aa 2) ae))))))))),aB λv hu ts S Q hh=>?_⟩
 obtain ⟨y,h,e,p,d,v,k,n,hs,ms,vs,z,c,rfl,hL,hl1,hl2,hm,hq⟩:=hh
 have hy:=hL.ins
 have hp:=hL.wp.ins
 have hh:=hL.wh.ins
 have hd:=hL.ve
 have hv:aP (kt T2.T.bl vs) (Sum.inr z)=none:=by rw [ba,hm];rfl
 ac_nf
 ext
 refine bG hd rfl ?_
 rw [hv]
 subst_eqs
 ext
 refine ⟨p,d,n,ms,z,rfl,hL.wp,?_⟩
 rcases hq with ⟨m,h1,h2,hq⟩|⟨h0,m,h1,h2,hq⟩
 ·rw [h1]
  simp only [Option.isSome_some,Option.isSome_none]
  ext
  refine ⟨p,d,n,ms,z,c,m,rfl,hL.wp,hl2,h1,h2,?_⟩
  exact .mk hq
 ·rw [h0]
  simp only [Option.isSome_some,Option.isSome_none]
  ext
  refine ⟨h,e,k,hs,z,c,m,rfl,hL.wh,hl1,h1,h2,?_⟩
  exact .mk hq
def nN (C L:Addr):WSp:=λts S Q=>∃ y h e p d v k n hs ms vs c,ts=[.ref y,.int c]/\Ly C L S y h e p d v k n hs ms vs/\Q .non (put S p (.ins C [("marks",.ref d),("now",.int (n+c))]))
theorem xR:FnScope vv8 vv8 (av lx):=by nofun
theorem BM (F:!"fade" "Layers.fade" lx) (T:!0)
  (Nx:!1 f1 LW vv8 (oG C)) (Ny:Meth K C "fade" f1) (Nz:aw K LW vv8 []):!2 f fd vv8 (nN C L):=by
 exists xR
 refine ⟨_,((ag (bd (aY (T.gf Ny) Nx Nz hr.m (aD T.go (aa 0)) (ac (aa 1) ae))))),aB λv hu ts S Q hh=>?_⟩
 obtain ⟨y,h,e,p,d,v,k,n,hs,ms,vs,c,rfl,hL,hq⟩:=hh
 have hy:=hL.ins
 have hp:=hL.wp.ins
 have hh:=hL.wh.ins
 have hd:=hL.ve
 ac_nf
 ext
 refine ⟨p,d,n,ms,c,rfl,hL.wp,?_⟩
 ext
 exact .mk hq
def tM (C L:Addr) (Z:Zs):bz:=λts S R=>∃ y h e p d v k n hs ms vs z c,ts=[.ref y,.str z,.int c]/\Ly C L S y h e p d v k n hs ms vs/\z.length<=1000/\PyData.strOk z=true/\(Wm.Wd z=false/\R Z.N S\/Wm.Wd z=true/\(∃ m,look ms z=some m)/\R Z.T S)
theorem En (F:!"put" "Layers.put" i8) (T:!0)
  (NN:FnOk P w K mg base (CX1 P w) 4 f1 LW vv4 (aR K (oI C Z.N Z.T))) (Mg:Meth K C "put" f1) (Mh:aw K LW vv4 []):FnOk P w K mg base (CX1 P w) 5 f fd vv4 (aR K (tM C L Z)):=by
 exists p8
 refine ⟨_,((aH (gQ (bS (T.gf Mg) NN Mh hr.m (aD T.go (aa 0)) (ac (aa 1) (ac (aa 2) ae)))))),cv λv hu ts S Q hh=>?_⟩
 obtain ⟨y,h,e,p,d,v,k,n,hs,ms,vs,z,c,rfl,hL,hz,N4,hq⟩:=hh
 have hy:=hL.ins
 have hp:=hL.wp.ins
 have hh:=hL.wh.ins
 have hd:=hL.ve
 ac_nf
 ext
 exact ⟨p,d,n,ms,z,c,rfl,hL.wp,hz,N4,hq.imp (λx=>⟨x.1,.mk x.2⟩) λx=>⟨x.1,x.2.1,.mk x.2.2⟩⟩
def qD (C L:Addr) (Z:Zs):bz:=λts S R=>∃ y h e p d v k n hs ms vs z,ts=[.ref y,.str z]/\Ly C L S y h e p d v k n hs ms vs/\z.length<=1000/\PyData.strOk z=true/\look ms z=none/\R Z.A S
theorem zm (F:!"strike" "Layers.strike" iW) (T:!0)
  (MS:FnOk P w K mg base (CX1 P w) 3 f1 LW vv0 (aR K (mR C Z.A))) (LZ:Meth K C "strike" f1) (L0:aw K LW vv0 []):FnOk P w K mg base (CX1 P w) 4 f fd vv0 (aR K (qD C L Z)):=by
 exists pV
 refine ⟨_,((aH (gQ (bS (T.gf LZ) MS L0 hr.m (aD T.go (aa 0)) (ac (aa 1) ae))))),cv λv hu ts S Q hh=>?_⟩
 obtain ⟨y,h,e,p,d,v,k,n,hs,ms,vs,z,rfl,hL,hz,N4,hm,hq⟩:=hh
 have hy:=hL.ins
 have hp:=hL.wp.ins
 have hh:=hL.wh.ins
 have hd:=hL.ve
 ac_nf
 ext
 exact ⟨p,d,n,ms,z,rfl,hL.wp,hm,hz,N4,.mk hq⟩
def tN (C L:Addr) (Z:Zs):bz:=λts S R=>∃ y h e p d v k n hs ms vs z,ts=[.ref y,.str z]/\Ly C L S y h e p d v k n hs ms vs/\z.length<=1000/\PyData.strOk z=true/\(Wm.Wd z=false/\R Z.N S\/Wm.Wd z=true/\(∃ m,look vs z=some m)/\R Z.T S)
theorem Eo (F:!"hide" "Layers.hide" i5) (T:!0)
  (Ma:!3 f1 LW ["thing"] gL) (Mb:Df K mg "is_word" f1 LW ["thing"]):FnOk P w K mg base (CX1 P w) 4 f fd vv0 (aR K (tN C L Z)):=by
 exists pY
 refine ⟨_,((b9 (aH (bj (br (a0 (ax Ma Mb hr.m (ac (aa 1) ae)))) (aH (cO T.x_NoWord T.k_NoWord rfl (by rfl) T.mg_NoWord (ac (eI (aa 1)) ae))) bn)) (bE (ao (br (a0 (ax Ma Mb hr.m (ac (aa 1) ae)))) (ag bY) au) (aH (bj (aI (bJ w rfl) (aa 1) (aD T.gv (aa 0)) (by with_unfolding_all rfl)) (aH (cO T.x_Twice T.k_Twice rfl (by rfl) T.mg_Twice (ac (eI (aa 1)) ae))) bn))))),cv λv hu ts S Q hh=>?_⟩
 obtain ⟨y,h,e,p,d,v,k,n,hs,ms,vs,z,rfl,hL,hz,N4,hq⟩:=hh
 have hy:=hL.ins
 have hp:=hL.wp.ins
 have hh:=hL.wh.ins
 have hd:=hL.ve
 ac_nf
 rcases hq with ⟨hm,hq⟩|⟨hm,⟨m,hl⟩,hq⟩
 ·refine iC (iR ?_)
  ext
  refine ⟨z,rfl,hz,?_⟩
  rw [hm]
  ext
  refine ⟨z,rfl,hz,N4,λe=>?_⟩
  ext
  exact ⟨Nat.le_of_ble_eq_true rfl,.mk hq⟩
 ·have hv:aP (kt T2.T.bl vs) (Sum.inr z)=some (.bl m):=by rw [ba,hl];rfl
  refine iD (hU ?_)
  ext
  refine ⟨z,rfl,hz,?_⟩
  rw [hm]
  ext
  refine bG hd rfl ?_
  rw [hv]
  subst_eqs
  ext
  refine ⟨z,rfl,hz,N4,λe=>?_⟩
  ext
  exact ⟨Nat.le_of_ble_eq_true rfl,.mk hq⟩
def tO (C L:Addr) (Z:Zs):bz:=λts S R=>∃ y h e p d v k n hs ms vs z,ts=[.ref y,.str z]/\Ly C L S y h e p d v k n hs ms vs/\z.length<=1000/\PyData.strOk z=true/\look vs z=none/\R Z.A S
theorem Ep (F:!"show" "Layers.show" i6) (T:!0):FnOk P w K mg base (CX1 P w) 1 f fd vv0 (aR K (tO C L Z)):=by
 exists pZ
 refine ⟨_,((aH (bj (aI (eN w rfl) (aa 1) (aD T.gv (aa 0)) (by with_unfolding_all rfl)) (aH (cO T.x_Absent T.k_Absent rfl (by rfl) T.mg_Absent (ac (eI (aa 1)) ae))) bn))),cv λv hu ts S Q hh=>?_⟩
 obtain ⟨y,h,e,p,d,v,k,n,hs,ms,vs,z,rfl,hL,hz,N4,hm,hq⟩:=hh
 have hy:=hL.ins
 have hp:=hL.wp.ins
 have hh:=hL.wh.ins
 have hd:=hL.ve
 have hv:aP (kt T2.T.bl vs) (Sum.inr z)=none:=by rw [ba,hm];rfl
 ac_nf
 ext
 refine bG hd rfl ?_
 rw [hv]
 subst_eqs
 ext
 refine ⟨z,rfl,hz,N4,λe=>?_⟩
 ext
 exact ⟨Nat.le_of_ble_eq_true rfl,.mk hq⟩
def tP (C L:Addr) (Z:Zs):bz:=λts S R=>∃ y h e p d v k n hs ms vs z c,ts=[.ref y,.str z,.int c]/\Ly C L S y h e p d v k n hs ms vs/\z.length<=1000/\PyData.strOk z=true/\((∃ x,look vs z=some x)\/look vs z=none/\look ms z=none/\look hs z=none)/\R Z.A S
theorem Er (F:!"use" "Layers.use" i9) (T:!0)
  (MF:!1 f1 LW vv0 (kF C)) (MG:Meth K C "has" f1) (MH:aw K LW vv0 [])
  (Ng:FnOk P w K mg base (CX1 P w) 3 f2 Nd vv2 (aR K (oJ C Z.A))) (L3:Meth K C "use" f2) (L4:aw K Nd vv2 []):FnOk P w K mg base (CX1 P w) 4 f fd vv2 (aR K (tP C L Z)):=by
 exists p9
 refine ⟨_,((b9 (aH (bj (aI (bJ w rfl) (aa 1) (aD T.gv (aa 0)) (by with_unfolding_all rfl)) (aH (cO T.x_Absent T.k_Absent rfl (by rfl) T.mg_Absent (ac (eI (aa 1)) ae))) bn)) (bE (ao (aI (bJ w rfl) (aa 1) (aD T.gv (aa 0)) (by with_unfolding_all rfl)) (ag bY) au) (aH (bj (a0 (aY (T.gf MG) MF MH hr.m (aD T.go (aa 0)) (ac (aa 1) ae))) (aH (gQ (bS (T.gf L3) Ng L4 hr.m (aD T.go (aa 0)) (ac (aa 1) (ac (aa 2) ae))))) (aH (gQ (bS (T.gf L3) Ng L4 hr.m (aD T.gh (aa 0)) (ac (aa 1) (ac (aa 2) ae)))))))))),cv λv hu ts S Q hh=>?_⟩
 obtain ⟨y,h,e,p,d,v,k,n,hs,ms,vs,z,c,rfl,hL,hz,N4,hm,hq⟩:=hh
 have hy:=hL.ins
 have hp:=hL.wp.ins
 have hh:=hL.wh.ins
 have hd:=hL.ve
 ac_nf
 rcases hm with ⟨x,hm⟩|⟨hm,h0,h1⟩
 ·have hv:aP (kt T2.T.bl vs) (Sum.inr z)=some (.bl x):=by rw [ba,hm];rfl
  refine iC (iR ?_)
  ext
  refine bG hd rfl ?_
  rw [hv]
  subst_eqs
  ext
  refine ⟨z,rfl,hz,N4,λe=>?_⟩
  ext
  exact ⟨Nat.le_of_ble_eq_true rfl,.mk hq⟩
 ·have hv:aP (kt T2.T.bl vs) (Sum.inr z)=none:=by rw [ba,hm];rfl
  refine iD (hU ?_)
  ext
  refine bG hd rfl ?_
  rw [hv]
  subst_eqs
  ext
  refine ⟨p,d,n,ms,z,rfl,hL.wp,?_⟩
  rw [h0]
  simp only [Option.isSome_some,Option.isSome_none]
  ext
  exact ⟨h,e,k,hs,z,c,rfl,hL.wh,h1,hz,N4,.mk hq⟩
abbrev Pm:=List (List Key×(Int×Int))
def toT (ms:Pm):List (List Key×T2.T):=ms.map λp=>(p.1,mkT p.2)
noncomputable abbrev pk (b z:Str):List Key:=[.inr b,.inr z]
noncomputable def lkP (ms:Pm) (k:List Key):Option (Int×Int):=(ms.find? λp=>decide (p.1=k)).map (·.2)
def lkD (ms:Pm) (k:List Key) (n:Int):Int×Int:=(lkP ms k).getD (0,n)
noncomputable def dA (ms:Pm) (k:List Key) (m:Int×Int):Pm:=if (ms.any λp=>decide (p.1=k))=true then ms.map (λp=>if p.1=k then (p.1,m) else p) else ms++[(k,m)]
theorem Hy {ms:Pm}{k:List Key}:aP (toT ms) k=(lkP ms k).map mkT:=by
 unfold aP toT lkP
 rw [List.find?_map]
 simp only [Function.comp_def,Option.map_map]
theorem vi {ms:Pm}{k:List Key}{n:Int}:(aP (toT ms) k).getD (.tup [.int 0,.int n])=mkT (lkD ms k n):=by
 rw [Hy];unfold lkD
 cases lkP ms k<;>rfl
theorem Hz {ms:Pm}{k:List Key}{m:Int×Int}:cF (toT ms) k (mkT m)=toT (dA ms k m):=by
 unfold cF toT dA
 rw [List.any_map]
 simp only [Function.comp_def]
 split
 ·rw [List.map_map,List.map_map]
  refine List.map_congr_left λx _=>?_
  simp only [Function.comp_def]
  split<;>rfl
 ·rw [List.map_append];rfl
theorem bq {k:Nat}{A:Around}(hr:Room k A):A.units+1<cLine:=by have:=hr.units;omega
structure Wf (k:Nat) (n:Int) (ms:Pm):Prop where
 len:ms.length<=k
 old:∀ x∈ms,x.2.2<=n
theorem vj {ms:Pm}{k:List Key}{m:Int×Int}(h:lkP ms k=some m):∃ x∈ms,x.2=m:=by
 unfold lkP at h
 obtain ⟨x,hx,rfl⟩:=Option.map_eq_some_iff.mp h
 exact ⟨x,List.mem_of_find?_eq_some hx,rfl⟩
theorem Wf.lk {c:Nat}{n:Int}{ms:Pm}(h:Wf c n ms) (k:List Key):(lkD ms k n).2<=n:=by
 unfold lkD
 cases q:lkP ms k with
 |none=>exact Int.le_refl _
 |some m =>
  obtain ⟨x,hx,rfl⟩:=vj q
  exact h.old x hx
def chosen (ms:Pm) (n:Int) (b z:Str):Pm:=dA ms (pk b z) (wrt (lkD ms (pk b z) n) n+1,n)
theorem Wf.choose {c:Nat}{n:Int}{ms:Pm}(h:Wf c n ms) (b z:Str):Wf (c+1) n (chosen ms n b z):=by
 unfold chosen dA
 split
 ·refine ⟨by rw [List.length_map];have:=h.len;omega,λx hx=>?_⟩
  obtain ⟨y,hy,rfl⟩:=List.mem_map.mp hx
  split
  ·exact Int.le_refl _
  ·exact h.old y hy
 ·refine ⟨by rw [List.length_append];have:=h.len;simp;omega,λx hx=>?_⟩
  rcases List.mem_append.mp hx with q|q
  ·exact h.old x q
  ·rw [List.mem_singleton.mp q];exact Int.le_refl _
theorem Wf.more {c c':Nat}{n n':Int}{ms:Pm}(h:Wf c n ms) (hc:c<=c') (hn:n<=n'):Wf c' n' ms:=⟨Nat.le_trans h.len hc,λx hx=>Int.le_trans (h.old x hx) hn⟩
noncomputable def prO (R d:Addr) (n:Int):O:=.ins R [("marks",.ref d),("now",.int n)]
def tQ (R:Addr):WSp:=λts S Q=>∃ p,ts=[.ref p]/\S p=some (.ins R [])/\∀ d,S d=none->Q .non (put (put S d (.dT [])) p (prO R d 0))
theorem ya:FnScope vv6 vv6 (av lJ):=by nofun
theorem BN (F:!"__init__" "Pairs.__init__" lJ) (T:!0):!1 f fd vv6 (tQ R):=by
 exists ya
 refine ⟨_,((aj (b8 rfl T.gpm (aa 0) tF) (ag (b8 rfl T.gpn (aa 0) af)))),aB λv hu ts S Q h=>?_⟩
 obtain ⟨p,rfl,hp,hq⟩:=h
 ac_nf
 ext
 intro d hd
 have Oq:p≠d:=λe=>by rw [e,hd] at hp;cases hp
 ext
 refine eT aF rfl (Nat.le_of_ble_eq_true rfl) ?_
 rw [bM]
 exact .mk (hq d hd)
def sf (R:Addr):WSp:=λts S Q=>∃ p d n ms b z c,ts=[.ref p,.str b,.str z]/\S p=some (prO R d n)/\S d=some (.dT (toT ms))/\Wf c n ms/\c<=1000/\Q .non (put S d (.dT (toT (chosen ms n b z))))
theorem xK:FnScope ["self","before","word","mark"] dQ (av k8):=by nofun
theorem Ap (F:!"choose" "Pairs.choose" k8) (T:!0) (Nw:!2 f1 LW eK gW) (Mt:Df K mg "used_mark" f1 LW eK) :
  !3 f fd dQ (sf R):=by
 exists xK
 refine ⟨_,((aj (az 3 nd (bK PySem.F.plainAttrs_dict PySem.F.slot_dict_get PySem.F.type_dict_get (jX (bq hr)) (aD T.gpm (aa 0)) (ac (aL (ac (aa 1) (ac (aa 2) ae))) (ac (aL (ac af (ac (aD T.gpn (aa 0)) ae))) ae)))) (ag (bu (ax Nw Mt hr.m (ac (aa 3) (ac (aD T.gpn (aa 0)) (ac af ae)))) (bA (aD T.gpm (aa 0)) (aL (ac (aa 1) (ac (aa 2) ae))) (ow (bq hr))))))),aB λv hu ts S Q h=>?_⟩
 obtain ⟨p,d,n,ms,b,z,c,rfl,hp,hd,hw,hc,hq⟩:=h
 unfold prO at hp
 have l3:=hw.lk (pk b z)
 have Mr:=hw.len
 ac_nf
 ext
 refine jY (ks:=pk b z) hd rfl ?_
 rw [vi]
 ext
 refine oA (ks:=pk b z) hd rfl (by unfold toT;rw [List.length_map,sizeLine_eq];omega) ?_
 rw [Hz]
 exact .mk hq
def tR (R:Addr):WSp:=λts S Q=>∃ p d n c,ts=[.ref p,.int c]/\S p=some (prO R d n)/\Q .non (put S p (prO R d (n+c)))
theorem yb:FnScope vv8 vv8 (av lK):=by nofun
theorem BO (F:!"fade" "Pairs.fade" lK) (T:!0):!1 f fd vv8 (tR R):=by
 exists yb
 refine ⟨_,((ag (qT rfl T.gpn (aa 0) (aa 1)))),aB λv hu ts S Q h=>?_⟩
 obtain ⟨p,d,n,c,rfl,hp,hq⟩:=h
 unfold prO at hp
 ac_nf
 ext
 exact .mk hq
def pw (ms:Pm) (n:Int) (b z:Str):Int:=wrt (lkD ms (pk b z) n) n
def pS (R:Addr):WSp:=λts S Q=>∃ p d n ms b z c,ts=[.ref p,.str b,.str z]/\S p=some (prO R d n)/\S d=some (.dT (toT ms))/\Wf c n ms/\Q (.int (pw ms n b z)) S
theorem LJ {S:Sto}{Q:T->Sto->Prop}{p d:Addr}{n:Int}{c:Nat}{b z:Str}{ms:Pm}(h1:S p=some (prO R d n)) (h1':S d=some (.dT (toT ms))) (h2:Wf c n ms) (h:Q (.int (pw ms n b z)) S):pS R (.ref p::([.str b,.str z]++[])) S Q:=⟨p,d,n,ms,b,z,c,rfl,h1,h1',h2,h⟩
theorem xF:FnScope dQ dQ (av k6):=by nofun
theorem Ke (F:!"worth_of" "Pairs.worth_of" k6) (T:!0) (MB:!1 f1 LW dS fI) (MC:Df K mg "worth_at" f1 LW dS) :
  !2 f fd dQ (pS R):=by
 exists xF
 refine ⟨_,((ag (ap (ax MB MC hr.m (ac (bK PySem.F.plainAttrs_dict PySem.F.slot_dict_get PySem.F.type_dict_get (jX (bq hr)) (aD T.gpm (aa 0)) (ac (aL (ac (aa 1) (ac (aa 2) ae))) (ac (aL (ac af (ac (aD T.gpn (aa 0)) ae))) ae))) (ac (aD T.gpn (aa 0)) ae)))))),aB λv hu ts S Q h=>?_⟩
 obtain ⟨p,d,n,ms,b,z,c,rfl,hp,hd,hw,hq⟩:=h
 unfold prO at hp
 have l3:=hw.lk (pk b z)
 ac_nf
 ext
 refine jY (ks:=pk b z) hd rfl ?_
 rw [vi]
 ext
 exact .mk hq
noncomputable def sgn (z:Str):Bool:=decide ((z.length:Int)=1)&&!(Builtin.Str.occurrences (Str.ofString "abcdefghijklmnopqrstuvwxyz ") z 0 (Str.ofString "abcdefghijklmnopqrstuvwxyz ").length 1).isEmpty
theorem HA {z:Str}(h:(z.length:Int)=1):∃ c,z=⟨#[c]⟩:=by
 obtain ⟨⟨l⟩⟩:=z
 have:l.length=1:=by simp [Str.length] at h;omega
 match l,this with
 |[c],_=>exact ⟨c,rfl⟩
theorem Es (c:Nat) (l:List Nat):decide (c∈l++[32])=(decide (c∈l) || decide (c=32)):=by rw [Bool.eq_iff_iff];simp
theorem Et (c:Nat):sgn ⟨#[c]⟩=(decide ((⟨#[c]⟩:Str)=Str.ofString " ") || Sc.isL c):=by
 unfold sgn
 rw [show decide (((⟨#[c]⟩:Str).length:Int)=1)=true from rfl,Bool.true_and,StrLaws.found_one,show (Str.ofString "abcdefghijklmnopqrstuvwxyz ").cps.toList=[97,98,99,100,101,102,103,104,105,106,107,108,109,110,111,112,113,114,115,116,117,118,119,120,121,122]++[32] by decide +kernel,Es,Sc.tG,Bool.or_comm]
 congr 1
 rw [show Str.ofString " "=⟨#[32]⟩ by decide +kernel,Bool.eq_iff_iff]
 simp
def oO:WSp:=λts S Q=>∃ z:Str,ts=[.str z]/\z.length<=1000/\Q (.bl (sgn z)) S
theorem zn:FnScope ["text"] ["text"] (av mI):=by nofun
theorem Eu (F:!"is_sign" mI) (T:Txt K mg C L Y R N) (Nu:!1 f1 LW ["sign"] jr) (Nv:Df K mg "is_letter" f1 LW ["sign"]) :
  !2 f fd ["text"] oO:=by
 exists zn
 refine ⟨_,((ag (ap (db (bN (eB rfl hr.units) (aJ (a8 rfl) T.len PySem.boot_len (ac (aa 0) ae)) af) (cC (o9 (bN (eB rfl hr.units) (aa 0) ai) (cC (ax Nu Nv hr.m (ac (aa 0) ae))))))))),aB λv hu ts S Q h=>?_⟩
 obtain ⟨z,rfl,hz,hq⟩:=h
 ac_nf
 ext
 refine ifB (λhb=>?_) λhb=>?_
 ·obtain ⟨c,rfl⟩:=HA (of_decide_eq_true (by simpa using hb))
  rw [Et] at hq
  ext
  rw [Bool.false_xor]
  refine ifB (λQo=>?_) λQo=>?_
  ·rw [Qo,Bool.true_or] at hq
   exact .mk hq
  ·rw [Qo,Bool.false_or] at hq
   ext
   exact .mk hq
 ·unfold sgn at hq
  rw [Bool.false_xor] at hb
  rw [hb,Bool.false_and] at hq
  exact .mk hq
noncomputable def tyO (Y y q c:Addr) (m:Int) (x:Str):O:=.ins Y [("layers",.ref y),("many",.int m),("pairs",.ref q),("text",.str x),("chosen",.ref c)]
def tS (Y R:Addr):WSp:=λts S Q=>∃ t y m,ts=[.ref t,.ref y,.int m]/\S t=some (.ins Y [])/\∀ S' q g c,S' t=some (tyO Y y q c m "")->S' q=some (prO R g 0)->S' g=some (.dT [])->S' c=some (.lst [])->(∀ a o,S a=some o->a≠t->S' a=some o)->S q=none->S g=none->S c=none->Q .non S'
theorem xS:FnScope iT iT (av lf):=by nofun
theorem BP (F:!"__init__" "Typist.__init__" lf) (T:!0)
  (N5:!1 f1 LW vv6 (tQ R)) (R0:Mk K R f1) (N6:aw K LW vv6 []):!3 f fd iT (tS Y R):=by
 exists xS
 refine ⟨_,((aj (b8 rfl T.gul (aa 0) (aa 1)) (aj (b8 rfl T.gum (aa 0) (aa 2)) (aj (b8 rfl T.gup (aa 0) (nG R0 N5 N6 hr.m (by rfl) T.mg_Pairs)) (aj (b8 rfl T.gut (aa 0) ai) (ag (b8 rfl T.guc (aa 0) (gZ ae)))))))),aB λv hu ts S Q hh=>?_⟩
 obtain ⟨t,y,m,rfl,ht,hq⟩:=hh
 ac_nf
 ext
 rw [show cf (Str.ofString "layers") (T2.T.ref y) []=[(Str.ofString "layers",T2.T.ref y)] from rfl]
 refine eT aF rfl (Nat.le_of_ble_eq_true rfl) ?_
 rw [bM,show cf (Str.ofString "many") (T2.T.int m) [(Str.ofString "layers",T2.T.ref y)]=[(Str.ofString "layers",T2.T.ref y),(Str.ofString "many",T2.T.int m)] from rfl]
 ext
 intro q hq1
 refine ⟨q,rfl,aF,λd hd=>⟨rfl,?_⟩⟩
 obtain ⟨hqt,hq0⟩:=b6 hq1
 obtain ⟨hdq,hd1⟩:=b6 hd
 obtain ⟨hdt,hd0⟩:=b6 hd1
 generalize hS1:put (put (put (put S t (.ins Y [("layers",.ref y),("many",.int m)])) q (.ins R [])) d (.dT [])) q (prO R d 0)=S1
 have k1:S1 t=some (.ins Y [("layers",.ref y),("many",.int m)]):=by
  rw [<- hS1,aA (Ne.symm hqt),aA (Ne.symm hdt),aA (Ne.symm hqt)];exact aF
 have k2:∀ a o,S a=some o->a≠t->S1 a=some o:=λa o ha SI=>by
  have e1:=iF hq0 ha
  have e2:=iF hd0 ha
  rw [<- hS1,aA (Ne.symm e1),aA (Ne.symm e2),aA (Ne.symm e1),aA SI];exact ha
 have k3:S1 q=some (prO R d 0):=by rw [<- hS1];exact aF
 have k4:S1 d=some (.dT []):=by rw [<- hS1,aA hdq];exact aF
 clear hS1
 ext
 refine eT aF rfl (Nat.le_of_ble_eq_true rfl) ?_
 rw [bM]
 ext
 intro c hc
 obtain ⟨hct,hc0⟩:=b6 hc
 have hSc:S c=none:=by
  cases z:S c with
  |none=>rfl
  |some o=>rw [k2 c o z hct] at hc0;cases hc0
 ext
 refine eT ((aA (Ne.symm hct)).trans aF) rfl (Nat.le_of_ble_eq_true rfl) ?_
 refine .mk (hq _ q d c aF ?_ ?_ ?_ ?_ hq0 hd0 hSc)
 ·rw [aA hqt,aA (λz=>by rw [<- z,k3] at hc0;cases hc0),aA hqt];exact k3
 ·rw [aA hdt,aA (λz=>by rw [<- z,k4] at hc0;cases hc0),aA hdt];exact k4
 ·rw [aA hct];exact aF
 ·intro a o ha SI
  rw [aA SI,aA (iF hSc ha).symm,aA SI];exact k2 a o ha SI
def wx (Y:Addr):WSp:=λts S Q=>∃ t y q c m x z,ts=[.ref t,.str z]/\S t=some (tyO Y y q c m x)/\z.length<=1000/\sgn z=true/\x.length<24/\Q .non (put S t (tyO Y y q c m (x++z)))
theorem qa:FnScope eM eM (av i7):=by nofun
theorem HB (F:!"key" "Typist.key" i7) (T:!0) (NE:!2 f1 LW ["text"] oO) (NF:Df K mg "is_sign" f1 LW ["text"]) :
  !3 f fd eM (wx Y):=by
 exists qa
 refine ⟨_,((aj (ao (br (a0 (ax NE NF hr.m (ac (aa 1) ae)))) (ag bY) au) (aj (ao (aI w9 (aJ (a8 rfl) T.len PySem.boot_len (ac (aD T.gut (aa 0)) ae)) (hE (n:=24) (by rfl) T.c_MOST_SIGNS)) (ag bY) au) (ag (zc rfl T.gut (aa 0) (aa 1)))))),aB λv hu ts S Q h=>?_⟩
 obtain ⟨t,y,q,c,m,x,z,rfl,ht,hz,hs,hx,hq⟩:=h
 unfold tyO at ht
 ac_nf
 ext
 refine ⟨z,rfl,hz,?_⟩
 rw [hs]
 ext
 refine ifB (λhb=>?_) λhb=>?_
 ·exact absurd (of_decide_eq_true hb) (by omega)
 ext
 refine ⟨t,Y,_,x,rfl,ht,rfl,rfl,?_⟩
 ext
 refine ⟨z,_,rfl,by rw [sizeLine_eq];omega,ht,Nat.le_of_ble_eq_true rfl,?_⟩
 exact .mk hq
def vk (Y N:Addr):bz:=λts S R=>∃ t y q c m x z,ts=[.ref t,.str z]/\S t=some (tyO Y y q c m x)/\z.length<=1000/\PyData.strOk z=true/\x.length<=24/\(sgn z=false\/sgn z=true/\x.length=24)/\R N S
theorem HC (F:!"key" "Typist.key" i7) (T:!0) (NE:!2 f1 LW ["text"] oO) (NF:Df K mg "is_sign" f1 LW ["text"]) :
  FnOk P w K mg base (CX1 P w) 3 f fd eM (aR K (vk Y Z.S)):=by
 exists qa
 refine ⟨_,((b9 (aH (bj (br (a0 (ax NE NF hr.m (ac (aa 1) ae)))) (aH (cO T.x_NoSign T.k_NoSign rfl (by rfl) T.mg_NoSign (ac (eI (aa 1)) ae))) bn)) (bE (ao (br (a0 (ax NE NF hr.m (ac (aa 1) ae)))) (ag bY) au) (aH (bj (aI w9 (aJ (a8 rfl) T.len PySem.boot_len (ac (aD T.gut (aa 0)) ae)) (hE (n:=24) (by rfl) T.c_MOST_SIGNS)) (aH (cO T.x_NoSign T.k_NoSign rfl (by rfl) T.mg_NoSign (ac ai ae))) bn))))),cv λv hu ts S Q h=>?_⟩
 obtain ⟨t,y,q,c,m,x,z,rfl,ht,hz,hok,hx,hs,hq⟩:=h
 unfold tyO at ht
 ac_nf
 rcases hs with hs|⟨hs,hx2⟩
 ·refine iC (iR ?_)
  ext
  refine ⟨z,rfl,hz,?_⟩
  rw [hs]
  ext
  refine ⟨z,rfl,hz,hok,λe=>?_⟩
  ext
  exact ⟨Nat.le_of_ble_eq_true rfl,.mk hq⟩
 ·refine iD (hU ?_)
  ext
  refine ⟨z,rfl,hz,?_⟩
  rw [hs]
  ext
  refine ifB (λhb=>?_) λhb=>?_
  ·ext
   exact ⟨by decide,.mk hq⟩
  ·exact absurd (of_decide_eq_false hb) (by omega)
def vm (Y:Addr):WSp:=λts S Q=>∃ t y q c m x,ts=[.ref t]/\S t=some (tyO Y y q c m x)/\x.length<=24/\x ≠ "" /\ Q .non (put S t (tyO Y y q c m (PySem.Txt.slice x none (some (-1)))))
theorem p5:FnScope vv6 vv6 (av iY):=by nofun
theorem Ev (F:!"back" "Typist.back" iY) (T:!0):!1 f fd vv6 (vm Y):=by
 exists p5
 refine ⟨_,((aj (ao (ay hr (aD T.gut (aa 0)) ai) (ag bY) au) (ag (b8 rfl T.gut (aa 0) (dX false rfl (aD T.gut (aa 0)) eP (dE (cX af))))))),aB λv hu ts S Q h=>?_⟩
 obtain ⟨t,y,q,c,m,x,rfl,ht,hx,Oq,hq⟩:=h
 unfold tyO at ht
 ac_nf
 ext
 rw [decide_eq_false Oq,Bool.false_xor]
 ext
 exact .mk hq
def tT (Y N:Addr):bz:=λts S R=>∃ t y q c m,ts=[.ref t]/\S t=some (tyO Y y q c m "")/\R N S
theorem Ew (F:!"back" "Typist.back" iY) (T:!0):FnOk P w K mg base (CX1 P w) 1 f fd vv6 (aR K (tT Y Z.S)):=by
 exists p5
 refine ⟨_,((aH (bj (ay hr (aD T.gut (aa 0)) ai) (aH (cO T.x_NoSign T.k_NoSign rfl (by rfl) T.mg_NoSign (ac ai ae))) bn))),cv λv hu ts S Q h=>?_⟩
 obtain ⟨t,y,q,c,m,rfl,ht,hq⟩:=h
 unfold tyO at ht
 ac_nf
 ext
 rw [decide_eq_true rfl,Bool.false_xor]
 ext
 exact ⟨by decide,.mk hq⟩
def nO (Y:Addr):WSp:=λts S Q=>∃ t y q c m x,ts=[.ref t]/\S t=some (tyO Y y q c m x)/\Q .non (put S t (tyO Y y q c m ""))
theorem xL:FnScope vv6 vv6 (av la):=by nofun
theorem BQ (F:!"clear" "Typist.clear" la) (T:!0):!1 f fd vv6 (nO Y):=by
 exists xL
 refine ⟨_,((ag (b8 rfl T.gut (aa 0) ai))),aB λv hu ts S Q h=>?_⟩
 obtain ⟨t,y,q,c,m,x,rfl,ht,hq⟩:=h
 unfold tyO at ht
 ac_nf
 ext
 exact .mk hq
def tU (Y:Addr):WSp:=λts S Q=>∃ t y q c m x,ts=[.ref t]/\S t=some (tyO Y y q c m x)/\Q (.str x) S
theorem xM:FnScope vv6 vv6 (av lb):=by nofun
theorem BR (F:!"typed" "Typist.typed" lb) (T:!0):!1 f fd vv6 (tU Y):=by
 exists xM
 refine ⟨_,((ag (ap (aD T.gut (aa 0))))),aB λv hu ts S Q h=>?_⟩
 obtain ⟨t,y,q,c,m,x,rfl,ht,hq⟩:=h
 unfold tyO at ht
 ac_nf
 ext
 exact .mk hq
def vo (Y:Addr):WSp:=λts S Q=>∃ t y q c m x ln,ts=[.ref t]/\S t=some (tyO Y y q c m x)/\S c=some (.lst (List.map T2.T.str ln))/\Q (.lst (ln.map T2.T.str)) S
theorem xT:FnScope vv6 vv6 (av lg):=by nofun
theorem Ex (F:!"line" "Typist.line" lg) (T:!0):!1 f fd vv6 (vo Y):=by
 exists xT
 refine ⟨_,((ag (ap (iA (FL false rfl) (by rfl) T.list PyProof.Rows.boot_list (ac (aD T.guc (aa 0)) ae))))),aB λv hu ts S Q h=>?_⟩
 obtain ⟨t,y,q,c,m,x,ln,rfl,ht,hc,hq⟩:=h
 unfold tyO at ht
 ac_nf
 ext
 exact .mk hq
theorem m8 {α:Type}(l:List α) (a:α):atI (l++[a]) (-1)=some a:=by
 simp [atI,ixN]
 rw [if_pos (by omega),Option.bind_some,show (-1+((l.length:Int)+1)).toNat=l.length by omega]
 simp
noncomputable def lst (ln:List Str):Str:=ln.getLastD ""
def oP (Y:Addr):WSp:=λts S Q=>∃ t y q c m x ln,ts=[.ref t]/\S t=some (tyO Y y q c m x)/\S c=some (.lst (List.map T2.T.str ln))/\Q (.str (lst ln)) S
theorem xD:FnScope vv6 vv6 (av kY):=by nofun
theorem Ey (F:!"last_chosen" "Typist.last_chosen" kY) (T:!0):!1 f fd vv6 (oP Y):=by
 exists xD
 refine ⟨_,((ag (ap (cw (Bf rfl (aD T.guc (aa 0))) (ak (aD T.guc (aa 0)) (cX af)) ai)))),aB λv hu ts S Q h=>?_⟩
 obtain ⟨t,y,q,c,m,x,ln,rfl,ht,hc,hq⟩:=h
 unfold tyO at ht
 ac_nf
 ext
 rcases List.eq_nil_or_concat ln with rfl|⟨l0,z,rfl⟩
 ·ext
  exact .mk hq
 ·rw [List.concat_eq_append] at *
  rw [show lst (l0++[z])=z by unfold lst;simp] at hq
  rw [show (!(List.map T2.T.str (l0++[z])).isEmpty)=true by simp]
  ext
  refine iz hc (t:=.str z) (by rw [List.map_append];exact m8 _ _) ?_
  exact .mk hq
abbrev R4:=Str×Int×Int×Bool
noncomputable def r4 (a:R4):T2.T:=.tup [.str a.1,.int a.2.1,.int a.2.2.1,.bl a.2.2.2]
noncomputable def rk (a:R4):Ky:=.cons (.i (-a.2.1)) (.cons (ky (a.1,a.2.2.1)) .nil)
def k4 (a:R4):Ky:=.cons (.tt (!a.2.2.2)) (.cons (rk a) .nil)
noncomputable def u4:T2.T->Ky
 |.tup [.str z,.int p,.int w,.bl o]=>k4 (z,p,w,o)
 |_=>.nil
theorem vp {a b:R4}(h:k4 a=k4 b):a=b:=by
 obtain ⟨z,p,w,o⟩:=a
 obtain ⟨z',p',w',o'⟩:=b
 unfold k4 rk ky at h
 simp only [Ky.cons.injEq,Ky.tt.injEq,Ky.i.injEq,Ky.s.injEq,and_true] at h
 obtain ⟨h1,h2,h3,h4⟩:=h
 have:o=o':=by cases o<;>cases o'<;>simp_all
 have:p=p':=by omega
 have:w=w':=by omega
 subst_vars;rfl
def xu:WSp:=λts S Q=>∃ a:R4,ts=[r4 a]/\Q (tre (rk a)) S
theorem yd:FnScope ["one"] ["one"] (av lL):=by nofun
theorem Kf (F:!"ranked_key" lL) (NK:!1 f1 LW ["pair"] j7) (NL:Df K mg "rank_key" f1 LW ["pair"]):!2 f fd ["one"] xu:=by
 exists yd
 refine ⟨_,((ag (ap (aL (ac (cX (ak (aa 0) af)) (ac (ax NK NL hr.m (ac (aL (ac (ak (aa 0) af) (ac (ak (aa 0) af) ae))) ae)) ae)))))),aB λv hu ts S Q h=>?_⟩
 obtain ⟨a,rfl,hq⟩:=h
 ac_nf
 unfold r4
 ext
 refine va (a:=(a.1,a.2.2.1)) ?_
 ext
 refine .mk ?_
 rw [oB]
 rw [show tre (rk a)=.tup [.int (-a.2.1),tre (ky (a.1,a.2.2.1))] from rfl,oB] at hq
 exact hq
def xw:WSp:=λts S Q=>∃ a:R4,ts=[r4 a]/\Q (tre (k4 a)) S
theorem yQ:FnScope ["one"] ["one"] (av me):=by nofun
theorem Kg (F:!"told_key" me) (Pt:!2 f1 LW ["one"] xu) (Pu:Df K mg "ranked_key" f1 LW ["one"]):!3 f fd ["one"] xw:=by
 exists yQ
 refine ⟨_,((ag (ap (aL (ac (gY (ak (aa 0) af)) (ac (ax Pt Pu hr.m (ac (aa 0) ae)) ae)))))),aB λv hu ts S Q h=>?_⟩
 obtain ⟨a,rfl,hq⟩:=h
 ac_nf
 unfold r4
 ext
 refine ⟨a,rfl,?_⟩
 ext
 refine .mk ?_
 exact hq
def srt {α:Type}(κ:α->Ky) (l:List α):List α:=Classical.epsilon λm=>m.Perm l/\m.Pairwise λa b=>Ky.lt (κ b) (κ a)=false
theorem Aq {α:Type}{κ:α->Ky}{k0:Ky}(hs:∀ a,Ky.shp k0 (κ a)=true) (hi:∀ a b,κ a=κ b->a=b):∀ {l m:List α},(l.Pairwise λa b=>Ky.lt (κ b) (κ a)=false)->(m.Pairwise λa b=>Ky.lt (κ b) (κ a)=false)->l.Nodup->l.Perm m->l=m:=by
 intro l
 induction l with
 |nil=>intro m _ _ _ p;exact (List.nil_perm.mp p).symm
 |cons a l ih =>
  intro m h1 h2 hn p
  cases m with
  |nil=>exact absurd p.length_eq (by simp)
  |cons b m =>
   rw [List.pairwise_cons] at h1 h2
   rw [List.nodup_cons] at hn
   by_cases e:a=b
   ·subst e
    rw [ih h1.2 h2.2 hn.2 (List.Perm.cons_inv p)]
   ·have ha:a∈m:=(List.mem_cons.mp (p.mem_iff.mp List.mem_cons_self)).resolve_left e
    have hb:b∈l:=(List.mem_cons.mp (p.mem_iff.mpr List.mem_cons_self)).resolve_left (Ne.symm e)
    have q1:=h1.1 b hb
    have q2:=h2.1 a ha
    rcases Ky.tri (Ky.shp_trans (Ky.rT (hs a)) (hs b)) with q|q|q
    ·rw [q] at q2;cases q2
    ·exact absurd (hi _ _ q) e
    ·rw [q] at q1;cases q1
theorem vq {α:Type}{κ:α->Ky}{k0:Ky}(hs:∀ a,Ky.shp k0 (κ a)=true) (hi:∀ a b,κ a=κ b->a=b) {l l':List α}(hn:l.Nodup) (p:l'.Perm l) (h:l'.Pairwise λa b=>Ky.lt (κ b) (κ a)=false):l'=srt κ l:=by
 have z:=Classical.epsilon_spec (p:=λm:List α=>m.Perm l/\m.Pairwise λa b=>Ky.lt (κ b) (κ a)=false) ⟨l',p,h⟩
 exact Aq hs hi h z.2 (p.nodup_iff.mpr hn) (p.trans z.1.symm)
def rows (ps:Pm) (i:Int) (b:Str) (l:List Rw):List R4:=l.map λa=>(a.1,pw ps i b a.1,a.2.1,a.2.2)
def tld (ps:Pm) (i:Int) (b:Str) (l:List Rw) (m:Int):List R4:=(srt k4 (rows ps i b l)).take m.toNat
theorem tV {ps:Pm}{i:Int}{b:Str}{l:List Rw}(h:l.Nodup):(rows ps i b l).Nodup:=by
 unfold rows
 refine List.Pairwise.map _ (λa c Oq=>?_) h
 intro e
 obtain ⟨z,w,o⟩:=a
 obtain ⟨z',w',o'⟩:=c
 simp only [Prod.mk.injEq] at e
 exact Oq (by obtain ⟨e1,_,e2,e3⟩:=e;rw [e1,e2,e3])
theorem Kh {α:Type}{grd:Sto->Prop}{g:WG}{te:WE}{Q:List T2.T->Sto->Prop}(f:α->T2.T) (φ:α->T2.T) (cs:StT){ls:List α}{S:Sto}(hg:grd S) (hz:ls.length<=sizeLine)
  (step:∀ a∈ls,∀ (u v w:Option T2.T) (LQ:List T2.T) (N:List T2.T->StT->Sto->Prop),LQ.length<sizeLine->(∀ u' v' w',N (LQ++[φ a]) (u'::v'::w'::cs) S) ->
   g (f a) (u::v::w::cs) S λMz S2=>ko Mz S2 λb S3=>if b=true then te Mz S3 λy S4=>LQ.length<sizeLine/\N (LQ++[y]) Mz S4 else N LQ Mz S3)
  (done:Q (ls.map φ) S):dj grd g ko te Q (ls.map f) [] (none::none::none::cs) S:=by
 refine gH (λitems LQ LO S'=>∃ pre NH u v w,ls=pre++NH/\items=NH.map f/\LQ=pre.map φ/\LO=u::v::w::cs/\S'=S) ⟨[],ls,none,none,none,rfl,rfl,rfl,rfl,rfl⟩ ?_ ?_
 ·rintro t ts LQ LO S' N ⟨pre,NH,u,v,w,e,e2,rfl,rfl,rfl⟩ hN
  cases NH with
  |nil=>cases e2
  |cons a r =>
   simp only [List.map_cons,List.cons.injEq] at e2
   obtain ⟨rfl,rfl⟩:=e2
   refine ⟨hg,step a (by rw [e];simp) u v w _ N ?_ λu' v' w'=>hN _ _ _ ⟨pre++[a],r,u',v',w',by rw [e];simp,rfl,by simp,rfl,rfl⟩⟩
   have h2:ls.length=pre.length+(r.length+1):=by rw [e];simp
   rw [List.length_map]
   omega
 ·rintro LQ LO S' ⟨pre,NH,u,v,w,e,e2,rfl,rfl,rfl⟩
  have:NH=[]:=by cases NH with|nil=>rfl|cons _ _=>cases e2
  subst this
  rw [List.append_nil] at e
  subst e
  exact ⟨hg,done⟩
structure Tp (C L R Y:Addr) (S:Sto) (u y q g c h e p d v:Addr) (m k n i:Int) (hs ms:Ms) (vs:List (Str×Bool)) (ps:Pm) (x:Str) (ln:List Str):Prop where
 ty:S u=some (tyO Y y q c m x)
 ly:Ly C L S y h e p d v k n hs ms vs
 pr:S q=some (prO R g i)
 pd:S g=some (.dT (toT ps))
 li:S c=some (.lst (ln.map T2.T.str))
structure Ok (k n i:Int) (hs ms:Ms) (ps:Pm):Prop where
 h:Mo k hs
 o:Mo n ms
 le:hs.length+ms.length<60
 p:Wf 1000 i ps
theorem Ki {S:Sto}{Q:T->Sto->Prop}{y h e p d v:Addr}{k n:Int}{hs ms:Ms}{vs:List (Str×Bool)}{b:Str}(hL:Ly C L S y h e p d v k n hs ms vs) (h1:Mo k hs) (h2:Mo n ms) (q:Q (.lst ((bI hs ms vs k n b).map rw3)) S):pz C L (.ref y::([.str b]++[])) S Q:=⟨y,h,e,p,d,v,k,n,hs,ms,vs,b,rfl,hL,h1,h2,q⟩
theorem tW {k n:Int}{hs ms:Ms}{vs:List (Str×Bool)}{b:Str}:(bI hs ms vs k n b).length<=ms.length+hs.length:=by
 unfold bI wo gB gC
 rw [List.length_append,List.length_map,List.length_map,gS,gS]
 have a1:=List.length_filter_le (λa:Rt=>(look vs a.1).isNone) (rtd ms n b)
 have a2:=jK ms n b
 have b2:=jK hs k b
 have b1:=List.length_filter_le (λa:Rt=>(look vs a.1).isNone&&(look ms a.1).isNone) (rtd hs k b)
 omega
theorem vt {k n:Int}{hs ms:Ms}{vs:List (Str×Bool)}{b:Str}(h1:Mo k hs) (h2:Mo n ms):(bI hs ms vs k n b).Nodup:=by
 unfold bI wo gB gC
 rw [List.nodup_append]
 refine ⟨?_,?_,λx hx y hy e=>?_⟩
 ·refine List.Pairwise.map _ (λa c Oq=>?_) ((dU _).nodup_iff.mpr ((j6 h2.nd).filter _))
  intro e
  exact Oq (Prod.ext (congrArg (λz:Rw=>z.1) e) (congrArg (λz:Rw=>z.2.1) e))
 ·refine List.Pairwise.map _ (λa c Oq=>?_) ((dU _).nodup_iff.mpr ((j6 h1.nd).filter _))
  intro e
  exact Oq (Prod.ext (congrArg (λz:Rw=>z.1) e) (congrArg (λz:Rw=>z.2.1) e))
 ·obtain ⟨a,_,rfl⟩:=List.mem_map.mp hx
  obtain ⟨c,_,rfl⟩:=List.mem_map.mp hy
  have:=congrArg (λz:Rw=>z.2.2) e
  cases this
def j8 (C L R Y:Addr):WSp:=λts S Q=>∃ u y q g c h e p d v m k n i hs ms vs ps x ln,ts=[.ref u]/\Tp C L R Y S u y q g c h e p d v m k n i hs ms vs ps x ln/\Ok k n i hs ms ps/\0<=m/\((srt k4 (rows ps i (lst ln) (bI hs ms vs k n x))).Perm (rows ps i (lst ln) (bI hs ms vs k n x))->Q (.lst ((tld ps i (lst ln) (bI hs ms vs k n x) m).map r4)) S)
theorem xU:FnScope ["self","before","rows"] vv6 (av lh):=by nofun
theorem Ez (F:!"told" "Typist.told" lh) (T:!0)
  (L7:!1 f1 LW vv6 (oP Y)) (L8:Meth K Y "last_chosen" f1) (L9:aw K LW vv6 [])
  (NU:!6 f2 Nd dR (pz C L)) (NV:Meth K L "all_told" f2) (NW:aw K Nd dR [])
  (N7:!2 f3 P8 dQ (pS R)) (N8:Meth K R "worth_of" f3) (N9:aw K P8 dQ [])
  (Qq:!3 f4 Q1 ["one"] xw) (Qr:Df K mg "told_key" f4 Q1 ["one"]):!7 f fd vv6 (j8 C L R Y):=by
 exists xU
 refine ⟨_,((aj (az 1 nd (c9 (T.gu L8) L7 L9 hr.m (aa 0))) (aj (jh false (i:=2) vv21 3 [1,0] rfl nd rfl (Or.inl rfl) (cB rfl (aY (T.gl NV) NU NW hr.m (aD T.gul (aa 0)) (ac (aD T.gut (aa 0)) ae))) (λ_ _ _ _=>(jT (λh=>jy (n:=3) rfl rfl h) (dD (aW 0 (show List.Nodup (vv21:List Str) from by decide +kernel)) (dD (aW 1 (show List.Nodup (vv21:List Str) from by decide +kernel)) (dD (aW 2 (show List.Nodup (vv21:List Str) from by decide +kernel)) jB (λh1 h2=>dC h1 h2)) (λh1 h2=>dC h1 h2)) (λh1 h2=>dC h1 h2)))) (λ_ _ _ _=>cQ) (λ_ _ _ _=>(aL (ac (aa 0) (ac (aY (T.gp N8) N7 N9 hr.m (aD T.gup (aa 4)) (ac (aa 3) (ac (aa 0) ae))) (ac (aa 1) (ac (aa 2) ae))))))) (ag (ap (dX false rfl (sY false rfl Qq Qr hr.m (by rfl) T.sorted (by rfl) (ac (aa 2) ae)) eP (dE (aD T.gum (aa 0))))))))),aB λv hu ts S Q hh=>?_⟩
 obtain ⟨u,y,q,g,c,h,e,p,d,v,m,k,n,i,hs,ms,vs,ps,x,ln,rfl,tp,ok,hm,hq⟩:=hh
 have ht:=tp.ty
 have hy:=tp.ly.ins
 have hp:=tp.pr
 unfold tyO at ht
 unfold prO at hp
 ac_nf
 ext
 refine ⟨u,y,q,c,m,x,ln,rfl,tp.ty,tp.li,?_⟩
 ext
 refine Ki tp.ly ok.h ok.o ?_
 have Mr:=tW (k:=k) (n:=n) (hs:=hs) (ms:=ms) (vs:=vs) (b:=x)
 have Qs:=vt (vs:=vs) (b:=x) ok.h ok.o
 have h60:=ok.le
 generalize bI hs ms vs k n x=al at Mr Qs hq ⊢
 ext
 refine Kh (ls:=al) rw3 (λa=>r4 (a.1,pw ps i (lst ln) a.1,a.2.1,a.2.2)) [some (.str (lst ln)),some (.ref u)] trivial (by rw [sizeLine_eq];omega) (λa ha _ _ _ LQ N Ml hN=>?_) ?_
 ·unfold rw3
  ext
  refine LJ tp.pr tp.pd ok.p ?_
  ext
  exact ⟨Ml,hN _ _ _⟩
 ·rw [show al.map (λa=>r4 (a.1,pw ps i (lst ln) a.1,a.2.1,a.2.2))=(rows ps i (lst ln) al).map r4 by unfold rows;rw [List.map_map];rfl]
  ext
  refine sZ u4 (k4 ("",0,0,true)) rfl (by unfold rows;rw [List.length_map];omega) rfl (by decide) (λa ha=>⟨rfl,rfl,λS' Q' q=>⟨a,rfl,q⟩⟩) λl' p hs=>?_
  have es:=vq (κ:=k4) (k0:=k4 ("",0,0,true)) (λ_=>rfl) (λa b=>vp) (tV Qs) p hs
  rw [es] at p ⊢
  ext
  rw [nE hm]
  exact .mk (hq p)
theorem cZ {S:Sto}{a b:Addr}{o u:O}(h1:S a=some o) (h2:S b=some u) (h:o≠u):a≠b:=λe=>by rw [e,h2] at h1;exact h (Option.some.inj h1).symm
theorem cG {S:Sto}{a b:Addr}{o:O}(h1:S a=some o) (h2:S b=none):a≠b:=λe=>by rw [e,h2] at h1;cases h1
structure At (S:Sto) (l:List (Addr×O)):Prop where
 nd:(l.map (·.1)).Nodup
 is:∀ x∈l,S x.1=some x.2
section
variable {S S' S0:Sto}{l l' l0 l1 l2 l3:List (Addr×O)}{a:Addr}{o o':O}
theorem At.get (h:At S l) (i:Nat) (e:l[i]?=some (a,o)):S a=some o:=h.is _ (List.mem_of_getElem? e)
theorem tX {i:Nat}(e:l[i]?=some (a,o)):(l.set i (a,o')).map (·.1)=l.map (·.1):=by
 rw [List.map_set]
 refine List.ext_getElem? λj=>?_
 rw [List.getElem?_set]
 by_cases h:i=j
 ·subst h;rw [if_pos rfl,if_pos (by rw [List.length_map];exact (List.getElem?_eq_some_iff.mp e).1),List.getElem?_map,e];rfl
 ·rw [if_neg h]
theorem At.put (h:At S l) (i:Nat) (e:l[i]?=some (a,o)):At (T2.put S a o') (l.set i (a,o')):=by
 obtain ⟨hi,e2⟩:=List.getElem?_eq_some_iff.mp e
 refine ⟨tX e ▸ h.nd,λx hx=>?_⟩
 obtain ⟨j,hj,ej⟩:=List.mem_iff_getElem.mp hx
 rw [List.length_set] at hj
 rw [List.getElem_set] at ej
 split at ej
 ·subst ej;exact aF
 ·rename_i hij
  have Oq:x.1≠a:=λq=>by
   have h1:=(List.getElem_inj (i:=i) (j:=j) (h₀:=by rw [List.length_map];exact hi) (h₁:=by rw [List.length_map];exact hj) h.nd).mp (by rw [List.getElem_map,List.getElem_map,e2,ej,q])
   exact hij h1
  rw [aA Oq]
  exact h.is x (by rw [<- ej];exact List.getElem_mem hj)
structure Up (S0:Sto) (l0:List (Addr×O)) (S:Sto) (l:List (Addr×O)):Prop where
 at_:At S l
 ks:l.map (·.1)=l0.map (·.1)
 fr:∀ a,a∉l0.map (·.1)->S a=S0 a
theorem Up.refl (h:At S l):Up S l S l:=⟨h,rfl,λ_ _=>rfl⟩
theorem Up.put (h:Up S0 l0 S l) (i:Nat) (e:l[i]?=some (a,o)):Up S0 l0 (T2.put S a o') (l.set i (a,o')):=by
 refine ⟨h.at_.put i e,?_,λb hb=>?_⟩
 ·rw [<- h.ks];exact tX e
 ·have:b≠a:=λq=>hb (by rw [<- h.ks,q];exact List.mem_map_of_mem (List.mem_of_getElem? e))
  rw [aA this];exact h.fr b hb
theorem At.up {l1':List (Addr×O)}(h:At S (l1++l2)) (u:Up S l1 S' l1'):At S' (l1'++l2):=by
 have n:=h.nd
 rw [List.map_append] at n
 refine ⟨by rw [List.map_append,u.ks];exact n,λx hx=>?_⟩
 rcases List.mem_append.mp hx with hx|hx
 ·exact u.at_.is x hx
 ·rw [u.fr x.1 λq=>(List.nodup_append.mp n).2.2 _ q _ (List.mem_map_of_mem hx) rfl]
  exact h.is x (List.mem_append_right _ hx)
end
section
variable {C:Addr}{S S':Sto}{l l':List (Addr×O)}{a b y p d v h:Addr}{o u:O}
theorem At.ne (h:At S l) (i j:Nat) (hij:i≠j) (ei:l[i]?=some (a,o)) (ej:l[j]?=some (b,u)):a≠b:=λq=>by
 obtain ⟨hi,e2⟩:=List.getElem?_eq_some_iff.mp ei
 obtain ⟨hj,e3⟩:=List.getElem?_eq_some_iff.mp ej
 exact hij ((List.getElem_inj (i:=i) (j:=j) (h₀:=by rw [List.length_map];exact hi) (h₁:=by rw [List.length_map];exact hj) h.nd).mp (by rw [List.getElem_map,List.getElem_map,e2,e3];exact q))
theorem At.pick (h:At S l) (is:List Nat) (hn:is.Nodup) (e:is.map (l[·]?)=l'.map some):At S l':=by
 induction is generalizing l' with
 |nil=>cases l' with
  |nil=>exact ⟨List.nodup_nil,λx hx=>nomatch hx⟩
  |cons _ _=>cases e
 |cons i is ih =>
  cases l' with
  |nil=>cases e
  |cons x r =>
   rw [List.map_cons,List.map_cons,List.cons.injEq] at e
   have q:=ih (List.nodup_cons.mp hn).2 e.2
   refine ⟨List.nodup_cons.mpr ⟨λhm=>?_,q.nd⟩,λz hz=>?_⟩
   ·obtain ⟨z,hz,hzx⟩:=List.mem_map.mp hm
    have hz2:some z∈is.map (l[·]?):=by rw [e.2];exact List.mem_map_of_mem hz
    obtain ⟨j,hj,ej⟩:=List.mem_map.mp hz2
    exact h.ne i j (λq=>(List.nodup_cons.mp hn).1 (by rw [q];exact hj)) (a:=x.1) (o:=x.2) (b:=z.1) (u:=z.2) e.1 ej hzx.symm
   ·rcases List.mem_cons.mp hz with rfl|hz
    ·exact h.is _ (List.mem_of_getElem? e.1)
    ·exact q.is z hz
theorem At.cons (h:At S l) (ha:S a=none):At (T2.put S a o) ((a,o)::l):=by
 refine ⟨List.nodup_cons.mpr ⟨λhm=>?_,h.nd⟩,λx hx=>?_⟩
 ·obtain ⟨x,hx,e⟩:=List.mem_map.mp hm
  exact cG (h.is x hx) ha e
 ·rcases List.mem_cons.mp hx with rfl|hx
  ·exact aF
  ·exact (aA (cG (h.is x hx) ha)).trans (h.is x hx)
end
theorem Kb {S:Sto}{Q:T2.T->Sto->Prop}{α:Type}{f:α->T2.T}{ls:List α}{z:α}{i:Int}(e:atI ls i=some z) (h:Q (f z) S):gIx (.lst (ls.map f)) (.int i) S Q :=
 cE (by rw [nD,e];rfl) h
theorem fH {α:Type}(l:List α) (k:Nat):atI l (k:Int)=l[k]?:=by
 by_cases h:k<l.length
 ·simp [atI,ixN,h]
 ·simp [atI,ixN,h]
theorem LB {S:Sto}{Q:T2.T->Sto->Prop}{a:R4}(h:Q (.str a.1) S):gIx (r4 a) (.int 0) S Q:=gi (t:=.str a.1) rfl h
structure Ad where
 (h e y p d v u q g c:Addr)
structure Ab where
 (k n i:Int) (hs ms:Ms) (vs:List (Str×Bool)) (ps:Pm) (x:Str) (ln:List Str)
def woO (C d:Addr) (n:Int):O:=.ins C [("marks",.ref d),("now",.int n)]
noncomputable def lyO (L h p v:Addr):O:=.ins L [("house",.ref h),("own",.ref p),("veiled",.ref v)]
structure Cs where
 (C L R Y:Addr)
def lay (D:Cs) (A:Ad) (m:Int) (a:Ab):List (Addr×O) :=
 [(A.h,woO D.C A.e a.k),(A.e,.dK (kt mkT a.hs)),(A.y,lyO D.L A.h A.p A.v),(A.p,woO D.C A.d a.n),(A.d,.dK (kt mkT a.ms)),(A.v,.dK (kt T2.T.bl a.vs)),(A.u,tyO D.Y A.y A.q A.c m a.x),(A.q,prO D.R A.g a.i),(A.g,.dT (toT a.ps)),(A.c,.lst (a.ln.map T2.T.str))]
section
variable {D:Cs}{A:Ad}{m:Int}{a:Ab}{S S0:Sto}{l0:List (Addr×O)}
theorem At.wh (h:At S (lay D A m a)):Wo D.C S A.h A.e a.k a.hs:=⟨h.get 0 rfl,h.get 1 rfl⟩
theorem At.wo (h:At S (lay D A m a)):Wo D.C S A.p A.d a.n a.ms:=⟨h.get 3 rfl,h.get 4 rfl⟩
theorem At.ly (h:At S (lay D A m a)):Ly D.C D.L S A.y A.h A.e A.p A.d A.v a.k a.n a.hs a.ms a.vs:=⟨h.get 2 rfl,h.wh,h.wo,h.get 5 rfl⟩
theorem At.tp (h:At S (lay D A m a)):Tp D.C D.L D.R D.Y S A.u A.y A.q A.g A.c A.h A.e A.p A.d A.v m a.k a.n a.i a.hs a.ms a.vs a.ps a.x a.ln:=⟨h.get 6 rfl,h.ly,h.get 7 rfl,h.get 8 rfl,h.get 9 rfl⟩
theorem Up.hou {hs:Ms}(h:Up S0 l0 S (lay D A m a)):Up S0 l0 (T2.put S A.e (.dK (kt mkT hs))) (lay D A m { a with hs:=hs }):=h.put 1 rfl
theorem Up.own {ms:Ms}(h:Up S0 l0 S (lay D A m a)):Up S0 l0 (T2.put S A.d (.dK (kt mkT ms))) (lay D A m { a with ms:=ms }):=h.put 4 rfl
theorem Up.vei {vs:List (Str×Bool)}(h:Up S0 l0 S (lay D A m a)):Up S0 l0 (T2.put S A.v (.dK (kt T2.T.bl vs))) (lay D A m { a with vs:=vs }):=h.put 5 rfl
theorem Up.eraH {k:Int}(h:Up S0 l0 S (lay D A m a)):Up S0 l0 (T2.put S A.h (woO D.C A.e k)) (lay D A m { a with k:=k }):=h.put 0 rfl
theorem Up.eraO {n:Int}(h:Up S0 l0 S (lay D A m a)):Up S0 l0 (T2.put S A.p (woO D.C A.d n)) (lay D A m { a with n:=n }):=h.put 3 rfl
theorem Up.eraP {i:Int}(h:Up S0 l0 S (lay D A m a)):Up S0 l0 (T2.put S A.q (prO D.R A.g i)) (lay D A m { a with i:=i }):=h.put 7 rfl
theorem Up.prs {ps:Pm}(h:Up S0 l0 S (lay D A m a)):Up S0 l0 (T2.put S A.g (.dT (toT ps))) (lay D A m { a with ps:=ps }):=h.put 8 rfl
theorem Up.txt {x:Str}(h:Up S0 l0 S (lay D A m a)):Up S0 l0 (T2.put S A.u (tyO D.Y A.y A.q A.c m x)) (lay D A m { a with x:=x }):=h.put 6 rfl
theorem Up.lin {ln:List Str}(h:Up S0 l0 S (lay D A m a)):Up S0 l0 (T2.put S A.c (.lst (ln.map T2.T.str))) (lay D A m { a with ln:=ln }):=h.put 9 rfl
end
structure Okk (a:Ab):Prop where
 ok:Ok a.k a.n a.i a.hs a.ms a.ps
 vl:a.vs.length<60
 xl:a.x.length<=24
 ll:a.ln.length<=2000
def Ab.told (a:Ab) (m:Int):List R4:=tld a.ps a.i (lst a.ln) (bI a.hs a.ms a.vs a.k a.n a.x) m
def usd (ms:Ms) (n:Int) (z:Str) (c:Int):Ms:=match look ms z with
 |some m=>pu ms z (wrt m n+c,n)
 |none=>ms
theorem dM {ms:Ms}{n c:Int}{z:Str}{m:Int×Int}(h:look ms z=some m):usd ms n z c=pu ms z (wrt m n+c,n):=by unfold usd;rw [h]
def Ab.use (a:Ab) (z:Str) (c:Int):Ab:=if (look a.ms z).isSome then { a with ms:=usd a.ms a.n z c } else { a with hs:=usd a.hs a.k z c }
theorem pA {a:Ab}{z:Str}{c:Int}{m:Int×Int}(h:look a.ms z=some m):a.use z c={ a with ms:=pu a.ms z (wrt m a.n+c,a.n) }:=by unfold Ab.use;rw [h,Option.isSome_some,if_pos rfl,dM h]
theorem pB {a:Ab}{z:Str}{c:Int}{m:Int×Int}(h:look a.ms z=none) (h2:look a.hs z=some m):a.use z c={ a with hs:=pu a.hs z (wrt m a.k+c,a.k) }:=by unfold Ab.use;rw [h,Option.isSome_none,if_neg (by decide),dM h2]
theorem oQ {a:Ab}{z:Str}{c:Int}:(a.use z c).ps=a.ps/\(a.use z c).i=a.i/\(a.use z c).ln=a.ln/\(a.use z c).x=a.x/\(a.use z c).vs=a.vs/\(a.use z c).k=a.k/\(a.use z c).n=a.n:=by unfold Ab.use;split<;>exact ⟨rfl,rfl,rfl,rfl,rfl,rfl,rfl⟩
def Ab.tak (a:Ab) (z:Str):Ab:={ a.use z 1 with ps:=chosen a.ps a.i (lst a.ln) z,ln:=a.ln++[z],x:="" }
def Can (a:Ab) (z:Str):Prop:=look a.vs z=none/\((∃ m,look a.ms z=some m)\/look a.ms z=none/\∃ m,look a.hs z=some m)
theorem sh {ms:Ms}{n:Int}{b:Str}{r:Rt}(h:r∈rtd ms n b):∃ m,look ms r.1=some m:=by
 unfold rtd fu at h
 obtain ⟨x,hx,rfl⟩:=List.mem_map.mp h
 have hm:x.1∈ms.map (·.1):=List.mem_map_of_mem (List.mem_filter.mp hx).1
 cases q:look ms x.1 with
 |none=>exact absurd hm (As.cq.mp q)
 |some m=>exact ⟨m,rfl⟩
theorem tY {a:Ab}{b:Str}{r:Rw}(h:r∈bI a.hs a.ms a.vs a.k a.n b):Can a r.1:=by
 unfold bI wo at h
 rcases List.mem_append.mp h with h|h
 ·obtain ⟨s,hs,rfl⟩:=List.mem_map.mp h
  have hs:=(dU _).mem_iff.mp hs
  unfold gB at hs
  obtain ⟨h1,h2⟩:=List.mem_filter.mp hs
  exact ⟨Option.isNone_iff_eq_none.mp h2,.inl (sh h1)⟩
 ·obtain ⟨s,hs,rfl⟩:=List.mem_map.mp h
  have hs:=(dU _).mem_iff.mp hs
  unfold gC at hs
  obtain ⟨h1,h2⟩:=List.mem_filter.mp hs
  simp only [Bool.and_eq_true,Option.isNone_iff_eq_none] at h2
  exact ⟨h2.1,.inr ⟨h2.2,sh h1⟩⟩
theorem si {a:Ab}{m:Int}{r:R4}(p:(srt k4 (rows a.ps a.i (lst a.ln) (bI a.hs a.ms a.vs a.k a.n a.x))).Perm (rows a.ps a.i (lst a.ln) (bI a.hs a.ms a.vs a.k a.n a.x))) (h:r∈a.told m):Can a r.1:=by
 unfold Ab.told tld at h
 have h:=p.mem_iff.mp (List.mem_of_mem_take h)
 unfold rows at h
 obtain ⟨s,hs,rfl⟩:=List.mem_map.mp h
 exact tY hs
def tZ (D:Cs):WSp:=λts S Q=>∃ A m a i r,ts=[.ref A.u,.int i]/\At S (lay D A m a)/\Okk a/\0<=m/\0<=i/\(a.told m)[i.toNat]?=some r/\∀ S',Up S (lay D A m a) S' (lay D A m (a.tak r.1))->PyData.strOk r.1=true->Q (.str r.1) S'
theorem p6:FnScope ["self","number","told","word"] fq (av iZ):=by nofun
theorem BS (F:!"take" "Typist.take" iZ) (T:!0)
  (Mc:!7 f1 LW vv6 (j8 C L R Y)) (Me:Meth K Y "told" f1) (Mf:aw K LW vv6 [])
  (Nh:!4 f2 Nd vv2 (oN C L)) (Mm:Meth K L "use" f2){tk:Tok}(OY:aw K Nd vv2 [.int 1 tk])
  (Oz:!3 f3 P8 dQ (sf R)) (OA:Meth K R "choose" f3) (OB:aw K P8 dQ [])
  (L7:!1 f4 Q1 vv6 (oP Y)) (L8:Meth K Y "last_chosen" f4) (L9:aw K Q1 vv6 [])
  (MI:!1 f5 Rj vv6 (nO Y)) (MJ:Meth K Y "clear" f5) (MK:aw K Rj vv6 []):!8 f fd fq (tZ ⟨C,L,R,Y⟩):=by
 exists p6
 refine ⟨_,((aj (az 2 nd (c9 (T.gu Me) Mc Mf hr.m (aa 0))) (aj (ao (br (gK cy cI af (aa 1) (aJ (a8 rfl) T.len PySem.boot_len (ac (aa 2) ae)))) (ag bY) au) (aj (az 3 nd (ak (ak (aa 2) (aa 1)) af)) (aj (bd (DM (T.gl Mm) Nh OY hr.m (aD T.gul (aa 0)) (ac (aa 3) ae))) (aj (bd (aY (T.gp OA) Oz OB hr.m (aD T.gup (aa 0)) (ac (c9 (T.gu L8) L7 L9 hr.m (aa 0)) (ac (aa 3) ae)))) (aj (bd (bK PySem.F.plainAttrs_list PySem.F.slot_list_append PySem.F.type_list_append jo (aD T.guc (aa 0)) (ac (aa 3) ae))) (aj (bd (c9 (T.gu MJ) MI MK hr.m (aa 0))) (ag (ap (aa 3))))))))))),aB λv hu ts S Q h=>?_⟩
 obtain ⟨A,m,a,i,r,rfl,hA,ok,hm,hi,R1,hq⟩:=h
 have tp:=hA.tp
 have ht:=tp.ty
 unfold tyO at ht
 ac_nf
 ext
 refine ⟨_,_,_,_,_,_,_,_,_,_,_,_,_,_,_,_,_,_,_,_,rfl,tp,ok.ok,hm,λp=>?_⟩
 have Qu:=si (m:=m) p (List.mem_of_getElem? R1)
 have hil:i.toNat<(a.told m).length:=(List.getElem?_eq_some_iff.mp R1).1
 change wgN _ (.lst ((a.told m).map r4)) _ _ _
 generalize a.told m=tl at R1 hil ⊢
 have SI:atI tl i=some r:=by rw [<- R1,<- fH,Int.toNat_of_nonneg hi]
 refine pf rfl ?_
 dsimp only
 refine cb (λLO S'=>LO=[some (.ref A.u),some (.int i),some (.lst (tl.map r4)),none]/\S'=S) ?_ ?_
 ·intro X hX
  ext
  rw [decide_eq_true hi]
  ext
  rw [decide_eq_true (show i<(tl.length:Int) by omega)]
  ext
  exact hX _ _ ⟨rfl,rfl⟩
 rintro LO S' ⟨rfl,rfl⟩
 refine cb (λLO S2=>LO=[some (.ref A.u),some (.int i),some (.lst (tl.map r4)),some (.str r.1)]/\S2=S') ?_ ?_
 ·intro X hX
  ext
  exact hX _ _ ⟨rfl,rfl⟩
 rintro LO S2 ⟨rfl,rfl⟩
 have hly:=tp.ly.ins
 have h1l:=ok.ok.h.len
 have h2l:=ok.ok.o.len
 have hi1:=ok.ok.p
 refine cb (λLO S3=>LO=[some (.ref A.u),some (.int i),some (.lst (tl.map r4)),some (.str r.1)]/\Up S2 (lay ⟨C,L,R,Y⟩ A m a) S3 (lay ⟨C,L,R,Y⟩ A m (a.use r.1 1))) ?_ ?_
 ·intro X hX
  ext
  refine ⟨A.y,_,_,_,_,_,_,_,_,_,_,r.1,1,rfl,tp.ly,by omega,by omega,Qu.1,?_⟩
  rcases Qu.2 with ⟨mm,e⟩|⟨e0,mm,e⟩
  ·refine .inl ⟨mm,e,ok.ok.o.old _ (As.cP e),?_⟩
   refine hX _ _ ⟨rfl,?_⟩
   rw [pA e]
   exact (Up.refl hA).own
  ·refine .inr ⟨e0,mm,e,ok.ok.h.old _ (As.cP e),?_⟩
   refine hX _ _ ⟨rfl,?_⟩
   rw [pB e0 e]
   exact (Up.refl hA).hou
 rintro LO S3 ⟨rfl,Uu⟩
 obtain ⟨e1,e2,e3,e4,e5,e6,e7⟩:=oQ (a:=a) (z:=r.1) (c:=1)
 have tp3:=Uu.at_.tp
 have ht3:=tp3.ty
 have hp3:=tp3.pr
 have hpd3:=tp3.pd
 have hli3:=tp3.li
 rw [e1] at hpd3
 rw [e2] at hp3
 rw [e3] at hli3
 unfold tyO at ht3
 unfold prO at hp3
 ext
 refine ⟨A.u,_,_,_,_,_,_,rfl,tp3.ty,tp3.li,?_⟩
 rw [e3]
 ext
 refine ⟨A.q,A.g,a.i,a.ps,lst a.ln,r.1,1000,rfl,hp3,hpd3,hi1,by decide,?_⟩
 have U4:=Uu.prs (ps:=chosen a.ps a.i (lst a.ln) r.1)
 generalize put S3 A.g (.dT (toT (chosen a.ps a.i (lst a.ln) r.1)))=S4 at U4 ⊢
 have tp4:=U4.at_.tp
 have ht4:=tp4.ty
 have hli4:S4 A.c=some (.lst (a.ln.map T2.T.str)):=by have:=tp4.li;dsimp only at this;rw [e3] at this;exact this
 unfold tyO at ht4
 ext
 have hl4:=ok.ll
 refine jp hli4 (by rw [List.length_map,sizeLine_eq];omega) ?_
 have U5:=U4.lin (ln:=a.ln++[r.1])
 rw [show (a.ln++[r.1]).map T2.T.str=a.ln.map T2.T.str++[T2.T.str r.1] by rw [List.map_append];rfl] at U5
 generalize put S4 A.c (.lst (a.ln.map T2.T.str++[T2.T.str r.1]))=S5 at U5 ⊢
 have ht5:=U5.at_.tp.ty
 have ht5':=ht5
 unfold tyO at ht5'
 ext
 refine ⟨A.u,_,_,_,_,_,rfl,ht5,?_⟩
 have U6:=U5.txt (x:="")
 ext
 refine .mk (hq _ U6 (Wm.iE ?_))
 rcases Qu.2 with ⟨mm,e⟩|⟨_,mm,e⟩
 ·exact ok.ok.o.wd _ (As.cP e)
 ·exact ok.ok.h.wd _ (As.cP e)
def t5 (D:Cs) (X:Addr):bz:=λts S R=>∃ A m a i,ts=[.ref A.u,.int i]/\At S (lay D A m a)/\Okk a/\0<=m/\i.natAbs.log2<1920/\(i<0\/((a.told m).length:Int)<=i)/\R X S
theorem BU (F:!"take" "Typist.take" iZ) (T:!0)
  (Mc:!7 f1 LW vv6 (j8 C L R Y)) (Me:Meth K Y "told" f1) (Mf:aw K LW vv6 []):FnOk P w K mg base (CX1 P w) 8 f fd fq (aR K (t5 ⟨C,L,R,Y⟩ Z.H)):=by
 exists p6
 refine ⟨_,((bE (az 2 nd (c9 (T.gu Me) Mc Mf hr.m (aa 0))) (aH (bj (br (gK cy cI af (aa 1) (aJ (a8 rfl) T.len PySem.boot_len (ac (aa 2) ae)))) (aH (cO T.x_NoChoice T.k_NoChoice rfl (by rfl) T.mg_NoChoice (ac (Lr (aa 1)) ae))) bn)))),cv λv hu ts S Q h=>?_⟩
 obtain ⟨A,m,a,i,rfl,hA,ok,hm,hi,R1,hq⟩:=h
 have tp:=hA.tp
 have ht:=tp.ty
 unfold tyO at ht
 ac_nf
 ext
 refine ⟨_,_,_,_,_,_,_,_,_,_,_,_,_,_,_,_,_,_,_,_,rfl,tp,ok.ok,hm,λp=>?_⟩
 change wgN _ (.lst ((a.told m).map r4)) _ _ _
 generalize a.told m=tl at R1 ⊢
 ext
 by_cases h0:0<=i
 ·rw [decide_eq_true h0]
  ext
  rw [decide_eq_false (show ¬ i<(tl.length:Int) by omega)]
  ext
  refine ⟨i,rfl,hi,λe=>?_⟩
  ext
  exact ⟨Nat.le_of_ble_eq_true rfl,.mk hq⟩
 ·rw [decide_eq_false h0]
  ext
  refine ⟨i,rfl,hi,λe=>?_⟩
  ext
  exact ⟨Nat.le_of_ble_eq_true rfl,.mk hq⟩
def t6 (D:Cs):WSp:=λts S Q=>∃ A m a c,ts=[.ref A.u,.int c]/\At S (lay D A m a)/\∀ S',Up S (lay D A m a) S' (lay D A m { a with n:=a.n+c,i:=a.i+c })->Q .non S'
theorem xV:FnScope vv8 vv8 (av lj):=by nofun
theorem BV (F:!"fade" "Typist.fade" lj) (T:!0)
  (MT:!2 f1 LW vv8 (nN C L)) (MU:Meth K L "fade" f1) (MV:aw K LW vv8 [])
  (Pv:!1 f2 Nd vv8 (tR R)) (Pw:Meth K R "fade" f2) (Px:aw K Nd vv8 []):!3 f fd vv8 (t6 ⟨C,L,R,Y⟩):=by
 exists xV
 refine ⟨_,((aj (bd (aY (T.gl MU) MT MV hr.m (aD T.gul (aa 0)) (ac (aa 1) ae))) (ag (bd (aY (T.gp Pw) Pv Px hr.m (aD T.gup (aa 0)) (ac (aa 1) ae)))))),aB λv hu ts S Q h=>?_⟩
 obtain ⟨A,m,a,c,rfl,hA,hq⟩:=h
 have tp:=hA.tp
 have ht:=tp.ty
 have hy:=tp.ly.ins
 unfold tyO at ht
 ac_nf
 ext
 refine ⟨A.y,_,_,_,_,_,_,_,_,_,_,c,rfl,tp.ly,?_⟩
 have U1:=(Up.refl hA).eraO (n:=a.n+c)
 unfold woO at U1
 dsimp only at U1
 generalize put S A.p (.ins C [("marks",.ref A.d),("now",.int (a.n+c))])=S1 at U1 ⊢
 have tp1:=U1.at_.tp
 have ht1:=tp1.ty
 have hp1:=tp1.pr
 unfold tyO at ht1
 have hp1':=hp1
 unfold prO at hp1'
 ext
 refine ⟨A.q,A.g,a.i,c,rfl,hp1,?_⟩
 exact .mk (hq _ (U1.eraP (i:=a.i+c)))
def Tx (z:Str):Prop:=z.length<=1000/\PyData.strOk z=true
theorem iG (z:Str):PyData.strOk z=(Tm.tl z).all λc=>decide (c<1114112):=by unfold PyData.strOk Tm.tl;rw [Array.all_toList]
theorem vv {x y:Str}(h1:PyData.strOk x=true) (h2:PyData.strOk y=true):PyData.strOk (x++y)=true:=by rw [iG] at *;rw [Tm.fS,List.all_append,h1,h2];rfl
theorem sj {x:Str}{lo hi:Option Int}(h:PyData.strOk x=true):PyData.strOk (PySem.Txt.slice x lo hi)=true:=by
 rw [iG,List.all_eq_true] at *
 intro c hc
 rw [Tm.rY] at hc
 exact h c (List.mem_of_mem_drop (List.mem_of_mem_take hc))
theorem kG (x:Str) (lo hi:Option Int):(PySem.Txt.slice x lo hi).length<=x.length:=by
 rw [<- Tm.len,Tm.rY,<- Tm.len x,List.length_take,List.length_drop]
 omega
theorem nP (x y:Str):(x++y).length=x.length+y.length:=by rw [<- Tm.len,Tm.fS,List.length_append,Tm.len,Tm.len]
theorem nQ {z:Str}{c:Nat}(h:PyData.strOk z=true) (hc:c∈z.cps.toList):Tx ⟨#[c]⟩:=by
 rw [iG,List.all_eq_true] at h
 have:=h c hc
 exact ⟨Nat.le_of_ble_eq_true rfl,by rw [iG];simpa [Tm.tl] using this⟩
def gD (ws:List Str):Prop:=(∀ z∈ws,Wm.Wd z=true)/\1<=ws.length/\ws.length<=10
def oR:WSp:=λts S Q=>∃ p o ws,ts=[.ref p,.lst (ws.map T2.T.str)]/\S p=some o/\aO o/\gD ws/\∀ z o',Tx z->aO o'->Q (.str z) (put S p o')
theorem yR:FnScope ["_law_box_here","_law_pool_here","_law_word_here","_law_some"] vv7 (av mr):=by nofun
theorem EA (F:!"_law_text" mr) (T:!0) (LM:!1 f1 LW vv3 cS) (LN:Df K mg "_law_take" f1 LW vv3) :
  !2 f fd vv7 oR:=by
 exists yR
 refine ⟨_,((aj (az 2 nd (ak (aa 1) (ax LM LN hr.m (ac (aa 0) (ac (aJ (a8 rfl) T.len PySem.boot_len (ac (aa 1) ae)) ae))))) (aj (az 3 nd (a9 (ac (aa 2) (ac (aa 2) (ac (aa 2) (ac (aa 2) (ac (aa 2) (ac (aa 2) (ac (aC (bi false) (aa 2) ai) (ac ai (ac ai (ac ai (ac (dX false rfl (aa 2) eP (dE (cX af))) (ac (aC (bi false) ai (aa 2)) ae)))))))))))))) (ag (ap (ak (aa 3) (ax LM LN hr.m (ac (aa 0) (ac af ae))))))))),aB λv hu ts S Q h=>?_⟩
 obtain ⟨p,o,ws,rfl,hp,hb,hw,hq⟩:=h
 have hw1:=hw.2.1
 have hw2:=hw.2.2
 have h2:(PySem.Str.ofString " a").length=2:=by decide +kernel
 have h3:(PySem.Str.ofString " ").length=1:=by decide +kernel
 ac_nf
 ext
 have hz:=hw.1 z hz
 have hz24:=(Wm.hZ hz).2
 have N4:=Wm.iE hz
 ext
 refine d6 (λt=>∃ y,t=.str y/\Tx y) (by assumption) (by assumption) (λt ht=>?_) ?_
 ·simp only [List.mem_cons,List.not_mem_nil,or_false] at ht
  rcases ht with rfl|rfl|rfl|rfl|rfl|rfl|rfl|rfl|rfl|rfl|rfl|rfl
  iterate 6 exact ⟨_,rfl,by omega,N4⟩
  ·exact ⟨_,rfl,by rw [nP];omega,vv N4 (by decide +kernel)⟩
  iterate 3 exact ⟨_,rfl,by decide +kernel,by decide +kernel⟩
  ·exact ⟨_,rfl,Nat.le_trans (kG ..) (by omega),sj N4⟩
  ·exact ⟨_,rfl,by rw [nP];omega,vv (by decide +kernel) N4⟩
 rintro _ ⟨y,rfl,hy⟩
 ext
 exact .mk (hq _ _ hy (by assumption))
def oS:WSp:=λts S Q=>∃ p o ws,ts=[.ref p,.lst (ws.map T2.T.str)]/\S p=some o/\aO o/\gD ws/\∀ (zs:List Str) o',zs.length<=30->(∀ z∈zs,Tx z)->aO o'->Q (.lst (zs.map T2.T.str)) (put S p o')
theorem yS:FnScope ["_law_box_here","_law_pool_here","_law_word_here","_law_kind"] vv7 (av mv):=by nofun
theorem EB (F:!"_law_keys" mv) (T:!0) (LM:!1 f1 LW vv3 cS) (LN:Df K mg "_law_take" f1 LW vv3) :
  !2 f fd vv7 oS:=by
 exists yS
 refine ⟨_,((aj (az 2 nd (ak (aa 1) (ax LM LN hr.m (ac (aa 0) (ac (aJ (a8 rfl) T.len PySem.boot_len (ac (aa 1) ae)) ae))))) (aj (az 3 nd (ax LM LN hr.m (ac (aa 0) (ac af ae)))) (aj (ao (aI cI (aa 3) af) (ag (ap (iA (DK false rfl rfl) (by rfl) T.list PyProof.Rows.boot_list (ac (dX false rfl (aa 2) eP (dE (aC (bi false) af (ax LM LN hr.m (ac (aa 0) (ac (aJ (a8 rfl) T.len PySem.boot_len (ac (aa 2) ae)) ae)))))) ae)))) au) (aj (ao (ay hr (aa 3) af) (ag (ap (a9 (ac (ak (a9 (ac ai (ac ai (ac ai (ac ai (ac ai (ac ai ae))))))) (ax LM LN hr.m (ac (aa 0) (ac af ae)))) ae)))) au) (ag (ap (cU false vv26 1 [0] rfl (dB (by rfl) T.range (ax LM LN hr.m (ac (aa 0) (ac af ae)))) (λ_ _ _ _=>(aW 0 (show List.Nodup (vv26:List Str) from by decide +kernel))) (λ_ _ _ _=>cQ) (λ_ _ _ _=>(ak ai (ax LM LN hr.m (ac (aa 1) (ac af ae))))))))))))),aB λv hu ts S Q h=>?_⟩
 obtain ⟨p,o,ws,rfl,hp,hb,hw,hq⟩:=h
 have hw1:=hw.2.1
 have hw2:=hw.2.2
 have h4:(PySem.Str.ofString "ab c").length=4:=by decide +kernel
 ac_nf
 ext
 have hz:=hw.1 z hz
 have hz24:=(Wm.hZ hz).2
 have hz1:=(Wm.hZ hz).1
 have N4:=Wm.iE hz
 refine ifB (λhb=>?_) λhb=>?_
 ·ext
  refine DL (Nat.le_trans (kG ..) (by rw [sizeLine_eq];omega)) ?_
  ext
  have hle:=kG z none (some (1+r))
  generalize hy:PySem.Txt.slice z none (some (1+r))=y at hle ⊢
  have hyo:PyData.strOk y=true:=by rw [<- hy];exact sj N4
  rw [show cT y=(y.cps.toList.map λc=>(⟨#[c]⟩:Str)).map T2.T.str by unfold cT;rw [List.map_map];rfl]
  refine .mk (hq _ _ ?_ (λx hx=>?_) (by assumption))
  ·rw [List.length_map]
   have:y.cps.toList.length=y.length:=Tm.len y
   omega
  ·obtain ⟨c,hc,rfl⟩:=List.mem_map.mp hx
   exact nQ hyo hc
 ·ext
  refine ifB (λQo=>?_) λQo=>?_
  ·ext
   refine d6 (λt=>∃ y,t=.str y/\Tx y) hr0 hr1 (λt ht=>?_) ?_
   ·simp only [List.mem_cons,List.not_mem_nil,or_false] at ht
    rcases ht with rfl|rfl|rfl|rfl|rfl|rfl
    all_goals exact ⟨_,rfl,by decide +kernel,by decide +kernel⟩
   rintro _ ⟨y,rfl,hy⟩
   ext
   exact .mk (hq [y] _ (Nat.le_of_ble_eq_true rfl) (by simpa using hy) hbx)
  ·ext
   refine gH (λitems LQ LO S'=>∃ (zs:List Str) (u:Option T2.T) (o2:O),LQ=zs.map T2.T.str/\zs.length+items.length<=28/\(∀ z∈zs,Tx z)/\aO o2/\LO=[u,some (.ref p)]/\S'=put S p o2) ⟨[],none,_,rfl,by rw [show (bT 0 r.toNat).length=r.toNat by simp [bT]];exact by simp;omega,by simp,hbx,rfl,rfl⟩ ?_ ?_
   ·rintro t ts LQ LO S' N ⟨zs,u,o2,rfl,hl,htx,Qo,rfl,rfl⟩ hN
    refine ⟨trivial,?_⟩
    rw [List.length_cons] at hl
    ext
    have hmem:(zs.map T2.T.str).length<sizeLine:=by rw [List.length_map,sizeLine_eq];omega
    refine ⟨hmem,hN _ _ _ ⟨zs++[⟨#[d]⟩],_,_,by rw [List.map_append];rfl,by rw [List.length_append];simp;omega,λx hx=>?_,hbx,rfl,rfl⟩⟩
    rcases List.mem_append.mp hx with h|h
    ·exact htx x h
    ·rw [List.mem_singleton.mp h];exact nQ (by decide +kernel) hd
   ·rintro LQ LO S' ⟨zs,u,o2,rfl,hl,htx,Qo,rfl,rfl⟩
    rw [List.length_nil] at hl
    refine ⟨trivial,?_⟩
    ext
    exact .mk (hq zs _ (by omega) htx Qo)
inductive Dd
 |puts (z:Str) (c:Int)|use (z:Str) (c:Int)|strike (z:Str)|fade (c:Int)|own (z:Str) (c:Int)|disown (z:Str)|hide (z:Str)|show_ (z:Str)|above (z:Str) (c:Int)|fadeO (c:Int)
 |key (z:Str)|back|clear|take (i:Int)|fadeA (c:Int)
open Dd
@[reducible] noncomputable def dT:Dd->T2.T
 |puts z c=>.tup [.str "put",.str z,.int c]
 |use z c=>.tup [.str "use",.str z,.int c]
 |strike z=>.tup [.str "strike",.str z]
 |fade c=>.tup [.str "fade",.int c]
 |own z c=>.tup [.str "own",.str z,.int c]
 |disown z=>.tup [.str "disown",.str z]
 |hide z=>.tup [.str "hide",.str z]
 |show_ z=>.tup [.str "show",.str z]
 |above z c=>.tup [.str "above",.str z,.int c]
 |fadeO c=>.tup [.str "fade own",.int c]
 |key z=>.tup [.str "key",.str z]
 |back=>.tup [.str "back"]
 |clear=>.tup [.str "clear"]
 |take i=>.tup [.str "take",.int i]
 |fadeA c=>.tup [.str "fade all",.int c]
noncomputable def kd:Dd->Str
 |puts _ _=>"put"
 |use _ _=>"use"
 |strike _=>"strike"
 |fade _=>"fade"
 |own _ _=>"own"
 |disown _=>"disown"
 |hide _=>"hide"
 |show_ _=>"show"
 |above _ _=>"above"
 |fadeO _=>"fade own"
 |key _=>"key"
 |back=>"back"
 |clear=>"clear"
 |take _=>"take"
 |fadeA _=>"fade all"
theorem LA {S:Sto}{Q:T2.T->Sto->Prop}{d:Dd}(h:Q (.str (kd d)) S):gIx (dT d) (.int 0) S Q:=by cases d<;>exact gi (t:=.str _) rfl h
theorem jL {d:Dd}(h:kd d="put"):∃ z c,d=puts z c:=by left
theorem j9 {d:Dd}(h:kd d="use"):∃ z c,d=use z c:=by left
theorem ji {d:Dd}(h:kd d="strike"):∃ z,d=strike z:=by left
theorem nR {d:Dd}(h:kd d="fade"):∃ c,d=fade c:=by left
theorem ka {d:Dd}(h:kd d="own"):∃ z c,d=own z c:=by left
theorem jl {d:Dd}(h:kd d="disown"):∃ z,d=disown z:=by left
theorem jM {d:Dd}(h:kd d="hide"):∃ z,d=hide z:=by left
theorem jt {d:Dd}(h:kd d="show"):∃ z,d=show_ z:=by left
theorem ju {d:Dd}(h:kd d="above"):∃ z c,d=above z c:=by left
theorem m9 {d:Dd}(h:kd d="fade own"):∃ c,d=fadeO c:=by left
theorem kb {d:Dd}(h:kd d="key"):∃ z,d=key z:=by left
theorem jN {d:Dd}(h:kd d="back"):d=back:=by left
theorem na {d:Dd}(h:kd d="clear"):d=clear:=by left
theorem jO {d:Dd}(h:kd d="take"):∃ i,d=take i:=by left
theorem BW {d:Dd}(h:kd d="fade all"):∃ c,d=fadeA c:=by left
theorem ifK {d:Dd}{w:Str}{A C:Prop}(hT:kd d=w->A) (hF:¬ kd d=w->C):if (false ^^ decide (kd d=w))=true then A else C:=by
 rw [Bool.false_xor]
 by_cases h:kd d=w
 ·rw [if_pos (decide_eq_true h)];exact hT h
 ·rw [if_neg (by simpa using h)];exact hF h
theorem xy {x y k:Str}:(false ^^ [T2.T.str x,.str y].any λt=>eqF t (.str k))=(decide (x=k) || (decide (y=k) || false)):=by rw [Bool.false_xor];rfl
theorem kT {x y k:Str}{A C:Prop}(h:x=k\/y=k) (q:A):if (false ^^ [T2.T.str x,.str y].any λt=>eqF t (.str k))=true then A else C:=by
 rw [xy,if_pos]
 ·exact q
 ·rcases h with h|h
  ·rw [decide_eq_true h];rfl
  ·rw [decide_eq_true h,Bool.true_or,Bool.or_true]
theorem xz {x y k:Str}{A C:Prop}(h:¬ k=x) (h2:¬ k=y) (q:C):if (false ^^ [T2.T.str x,.str y].any λt=>eqF t (.str k))=true then A else C:=by
 rw [xy,decide_eq_false (Ne.symm h),decide_eq_false (Ne.symm h2)];exact q
theorem orK (d:Dd) (w:Str){r1 r2:WR}{U:StT}{S:Sto}{R:WX}(hT:kd d=w->r1 U S R) (hF:¬ kd d=w->r2 U S R):kP r1 r2 U S R:=by
 by_cases h:kd d=w
 ·exact iC (hT h)
 ·exact iD (hF h)
def OkD:Dd->Prop
 |fade c|fadeO c|fadeA c=>1<=c/\c<=1000000
 |puts z _|use z _|strike z|own z _|disown z|hide z|show_ z|above z _|key z=>Tx z
 |take i=>i.natAbs.log2<1920
 |back|clear=>True
def OkN:Dd->Prop
 |puts _ c|use _ c|own _ c|above _ c=>0<=c/\c<=1000000000
 |_=>True
def wt:Dd->Nat
 |key _=>0
 |_=>1
structure Dds (ds:List Dd):Prop where
 ok:∀ d∈ds,OkD d
 wt:(ds.map wt).sum<=1
 len:ds.length<=30
 nu:∀ d∈ds,OkN d
theorem nx {p:Prop}[Decidable p] (h:(false ^^ decide p)=false):¬p:=by rw [Bool.false_xor] at h;exact of_decide_eq_false h
theorem Dds.one {d:Dd}(h:OkD d) (n:OkN d):Dds [d]:=⟨by simpa using h,by cases d<;>first|exact Nat.le_refl 1|exact Nat.zero_le 1,Nat.le_of_ble_eq_true rfl,by simpa using n⟩
def t7:WSp:=λts S Q=>∃ p o ws,ts=[.ref p,.lst (ws.map T2.T.str)]/\S p=some o/\aO o/\gD ws/\∀ ds o',Dds ds->aO o'->Q (.lst (ds.map dT)) (T2.put S p o')
theorem HD {S:Sto}{Q:T2.T->Sto->Prop}{p:Addr}{o:O}{ws:List Str}(hb:aO o) (hw:gD ws) (h:∀ z o',Tx z->aO o'->Q (.str z) (T2.put S p o')):oR ([.ref p,.lst (ws.map T2.T.str)]++[]) (T2.put S p o) Q :=
 ⟨p,o,ws,rfl,aF,hb,hw,λz o' a b=>by rw [bM];exact h z o' a b⟩
theorem HE {S:Sto}{Q:T2.T->Sto->Prop}{p:Addr}{o:O}{ws:List Str}(hb:aO o) (hw:gD ws) (h:∀ (zs:List Str) o',zs.length<=30->(∀ z∈zs,Tx z)->aO o'->Q (.lst (zs.map T2.T.str)) (T2.put S p o')):oS ([.ref p,.lst (ws.map T2.T.str)]++[]) (T2.put S p o) Q :=
 ⟨p,o,ws,rfl,aF,hb,hw,λz o' c a b=>by rw [bM];exact h z o' c a b⟩
theorem yx:FnScope ["_law_box_here","_law_pool_here","_law_kind","_law_word_here"] vv7 (av lY):=by nofun
theorem BX (F:!"_law_deeds" lY) (T:!0)
  (LM:!1 f1 LW vv3 cS) (LN:Df K mg "_law_take" f1 LW vv3)
  (P9:!2 f2 Nd vv7 oR) (Qa:Df K mg "_law_text" f2 Nd vv7)
  (Qb:!2 f3 P8 vv7 oS) (Qc:Df K mg "_law_keys" f3 P8 vv7)
  (NX:!2 f4 Q1 cn nJ) (NY:Df K mg "_law_count" f4 Q1 cn)
  (Mp:!2 f5 Rj cn nK) (Mq:Df K mg "_law_times" f5 Rj cn) :
  !3 f fd vv7 t7:=by
 exists yx
 refine ⟨_,((aj (az 2 nd (ax LM LN hr.m (ac (aa 0) (ac af ae)))) (aj (az 3 nd (ax P9 Qa hr.m (ac (aa 0) (ac (aa 1) ae)))) (aj (ao (aI cI (aa 2) af) (ag (ap (a9 (ac (aL (ac ai (ac (aa 3) (ac (ax NX NY hr.m (ac (aa 0) ae)) ae)))) ae)))) au) (aj (ao (ay hr (aa 2) af) (ag (ap (a9 (ac (aL (ac ai (ac (aa 3) (ac (ax Mp Mq hr.m (ac (aa 0) ae)) ae)))) ae)))) au) (aj (ao (ay hr (aa 2) af) (ag (ap (a9 (ac (aL (ac ai (ac (aa 3) ae))) ae)))) au) (aj (ao (ay hr (aa 2) af) (ag (ap (a9 (ac (aL (ac ai (ac (ax Mp Mq hr.m (ac (aa 0) ae)) ae))) ae)))) au) (aj (ao (aI cI (aa 2) af) (ag (ap (a9 (ac (aL (ac ai (ac (aa 3) (ac (ax NX NY hr.m (ac (aa 0) ae)) ae)))) ae)))) au) (aj (ao (aI cI (aa 2) af) (ag (ap (a9 (ac (aL (ac (ak (a9 (ac ai (ac ai (ac ai ae)))) (aC d4 (aa 2) af)) (ac (aa 3) ae))) ae)))) au) (aj (ao (ay hr (aa 2) af) (ag (ap (a9 (ac (aL (ac ai (ac (aa 3) (ac (ax Mp Mq hr.m (ac (aa 0) ae)) ae)))) ae)))) au) (aj (ao (ay hr (aa 2) af) (ag (ap (a9 (ac (aL (ac ai (ac (ax Mp Mq hr.m (ac (aa 0) ae)) ae))) ae)))) au) (aj (ao (aI cI (aa 2) af) (ag (ap (cU false ["_law_sign"] 1 [] rfl (cB rfl (ax Qb Qc hr.m (ac (aa 0) (ac (aa 1) ae)))) (λ_ _ _ _=>(aW 0 (show List.Nodup (["_law_sign"]:List Str) from by decide +kernel))) (λ_ _ _ _=>cQ) (λ_ _ _ _=>(aL (ac ai (ac (aa 0) ae))))))) au) (aj (ao (aI cI (aa 2) af) (ag (ap (dX false rfl (a9 (ac (aL (ac ai ae)) (ac (aL (ac ai ae)) ae))) (dE (aC d4 (aa 2) af)) (dE (aC d4 (aa 2) af))))) au) (aj (ao (aI cI (aa 2) af) (ag (ap (a9 (ac (aL (ac ai (ac (ak (a9 (ac af (ac af (ac af (ac af (ac af (ac af (ac af (ac (cX af) (ac (cX af) (ac (aC pc af af) ae))))))))))) (ax LM LN hr.m (ac (aa 0) (ac af ae)))) ae))) ae)))) au) (ag (ap (a9 (ac (aL (ac ai (ac (ax Mp Mq hr.m (ac (aa 0) ae)) ae))) ae)))))))))))))))))),aB λv hu ts S Q h=>?_⟩
 obtain ⟨p,o,ws,rfl,hp,hb,hw,hq⟩:=h
 ac_nf
 ext
 refine HD hbx hw λz o1 hz Qv=>?_
 ext
 refine ifB (λhb1=>?_) λhb1=>?_
 ·ext
  exact .mk (hq [puts z r] _ (.one hz ⟨by omega,by omega⟩) hbx)
 have hb1:=of_decide_eq_false hb1
 ext
 refine ifB (λQo=>?_) λQo=>?_
 ·ext
  exact .mk (hq [use z r] _ (.one hz ⟨by omega,by omega⟩) hbx)
 have Qo:=nx Qo
 ext
 refine ifB (λhb3=>?_) λhb3=>?_
 ·ext
  exact .mk (hq [strike z] _ (.one hz trivial) Qv)
 have hb3:=nx hb3
 ext
 refine ifB (λSk=>?_) λSk=>?_
 ·ext
  exact .mk (hq [fade r] _ (.one ⟨hr0,hr1⟩ trivial) hbx)
 have Sk:=nx Sk
 ext
 refine ifB (λhb5=>?_) λhb5=>?_
 ·ext
  exact .mk (hq [own z r] _ (.one hz ⟨by omega,by omega⟩) hbx)
 have hb5:=of_decide_eq_false hb5
 ext
 refine ifB (λhb6=>?_) λhb6=>?_
 ·have hb6:=of_decide_eq_true hb6
  ext
  have h3:r=8\/r=9\/r=10:=by omega
  rcases h3 with rfl|rfl|rfl
  ·refine cE rfl ?_
   ext
   exact .mk (hq [disown z] _ (.one hz trivial) Qv)
  ·refine cE rfl ?_
   ext
   exact .mk (hq [hide z] _ (.one hz trivial) Qv)
  ·refine cE rfl ?_
   ext
   exact .mk (hq [show_ z] _ (.one hz trivial) Qv)
 have hb6:=of_decide_eq_false hb6
 ext
 refine ifB (λhb7=>?_) λhb7=>?_
 ·ext
  exact .mk (hq [above z r] _ (.one hz ⟨by omega,by omega⟩) hbx)
 have hb7:=nx hb7
 ext
 refine ifB (λhb8=>?_) λhb8=>?_
 ·ext
  exact .mk (hq [fadeO r] _ (.one ⟨hr0,hr1⟩ trivial) hbx)
 have hb8:=nx hb8
 ext
 refine ifB (λhb9=>?_) λhb9=>?_
 ·ext
  refine HE Qv hw λzs o2 h30 hzs hbx2=>?_
  ext
  refine c8 T2.T.str (λz=>some (dT (key z))) [] trivial (by rw [sizeLine_eq];omega) (λx hx u LQ N Ml hN=>?_) ?_
  ·ext
   exact ⟨Ml,hN _⟩
  ext
  rw [show zs.filterMap (λz=>some (dT (key z)))=(zs.map key).map dT by rw [List.map_map,<- List.filterMap_eq_map];rfl]
  refine .mk (hq _ _ ⟨λd hd=>?_,?_,by rw [List.length_map];exact h30,λd hd=>by obtain ⟨x,_,rfl⟩:=List.mem_map.mp hd;trivial⟩ hbx2)
  ·obtain ⟨x,hx,rfl⟩:=List.mem_map.mp hd
   exact hzs x hx
  ·rw [List.map_map]
   clear hzs h30
   induction zs with
   |nil=>exact Nat.zero_le 1
   |cons x zs ih=>exact Nat.le_trans (Nat.le_of_eq (by simp [wt])) ih
 have hb9:=of_decide_eq_false hb9
 ext
 refine ifB (λR3=>?_) λR3=>?_
 ·have h2:r=15\/r=16:=by have:=of_decide_eq_true R3;omega
  rcases h2 with rfl|rfl
  ·ext
   exact .mk (hq [back] _ (.one trivial trivial) Qv)
  ·ext
   exact .mk (hq [clear] _ (.one trivial trivial) Qv)
 have R3:=of_decide_eq_false R3
 ext
 refine ifB (λhb11=>?_) λhb11=>?_
 ·ext
  refine d6 (λt=>∃ i:Int,t=.int i/\i.natAbs.log2<1920) hr0 hr1 (λt ht=>?_) ?_
  ·simp only [List.mem_cons,List.not_mem_nil,or_false] at ht
   rcases ht with rfl|rfl|rfl|rfl|rfl|rfl|rfl|rfl|rfl|rfl
   all_goals exact ⟨_,rfl,by decide +kernel⟩
  rintro _ ⟨i,rfl,hi⟩
  ext
  exact .mk (hq [take i] _ (.one hi trivial) hbx)
 ext
 exact .mk (hq [fadeA r] _ (.one ⟨hr0,hr1⟩ trivial) hbx)
theorem b5 {p A C:Prop}[Decidable p] (e:¬p) (h:C):if (false ^^ decide p)=true then A else C:=by rw [decide_eq_false e];exact ifF h
theorem ck {p A C:Prop}[Decidable p] (e:p) (h:A):if (false ^^ decide p)=true then A else C:=by rw [decide_eq_true e];exact ifT h
def rf (m:Int) (a:Ab):Dd->Nat
 |puts z _=>if Wm.Wd z=false then 1 else if (look a.hs z).isSome then 2 else 0
 |own z _=>if Wm.Wd z=false then 1 else if (look a.ms z).isSome then 2 else 0
 |hide z=>if Wm.Wd z=false then 1 else if (look a.vs z).isSome then 2 else 0
 |use z _|strike z=>if (look a.hs z).isSome then 0 else 3
 |disown z=>if (look a.ms z).isSome then 0 else 3
 |show_ z=>if (look a.vs z).isSome then 0 else 3
 |above z _=>if (look a.vs z).isSome then 3 else if (look a.ms z).isSome\/(look a.hs z).isSome then 0 else 3
 |key z=>if sgn z=false then 4 else if a.x.length<24 then 0 else 4
 |back=>if a.x="" then 4 else 0
 |take i=>if 0<=i/\i<(a.told m).length then 0 else 5
 |_=>0
def nxt (m:Int) (a:Ab):Dd->Ab
 |puts z c=>{ a with hs:=a.hs++[(z,c,a.k)] }
 |own z c=>{ a with ms:=a.ms++[(z,c,a.n)] }
 |hide z=>{ a with vs:=a.vs++[(z,true)] }
 |use z c=>{ a with hs:=usd a.hs a.k z c }
 |strike z=>{ a with hs:=dr a.hs z }
 |disown z=>{ a with ms:=dr a.ms z }
 |show_ z=>{ a with vs:=dr a.vs z }
 |above z c=>a.use z c
 |key z=>{ a with x:=a.x++z }
 |back=>{ a with x:=PySem.Txt.slice a.x none (some (-1)) }
 |clear=>{ a with x:="" }
 |take i=>((a.told m)[i.toNat]?).elim a λr=>a.tak r.1
 |fade c=>{ a with k:=a.k+c }
 |fadeO c=>{ a with n:=a.n+c }
 |fadeA c=>{ a with n:=a.n+c,i:=a.i+c }
def rs (m:Int) (a:Ab):Dd->T2.T
 |take i=>((a.told m)[i.toNat]?).elim .non λr=>.str r.1
 |_=>.non
def Sd (t:T2.T):Prop:=t=.non\/∃ z,t=.str z/\PyData.strOk z=true
noncomputable def cls (Z:Zs):Nat->Addr
 |1=>Z.N
 |2=>Z.T
 |3=>Z.A
 |4=>Z.S
 |_=>Z.H
theorem if3 {p q:Prop}[Decidable p] [Decidable q] {x y z n:Nat}(h:(if p then x else if q then y else z)=n):(p/\x=n)\/(¬p/\q/\y=n)\/(¬p/\¬q/\z=n):=by
 by_cases hp:p
 ·rw [if_pos hp] at h;exact .inl ⟨hp,h⟩
 ·rw [if_neg hp] at h
  by_cases hq:q
  ·rw [if_pos hq] at h;exact .inr (.inl ⟨hp,hq,h⟩)
  ·rw [if_neg hq] at h;exact .inr (.inr ⟨hp,hq,h⟩)
theorem if2 {p:Prop}[Decidable p] {x y n:Nat}(h:(if p then x else y)=n):(p/\x=n)\/(¬p/\y=n):=by
 by_cases hp:p
 ·rw [if_pos hp] at h;exact .inl ⟨hp,h⟩
 ·rw [if_neg hp] at h;exact .inr ⟨hp,h⟩
def vw (D:Cs):WSp:=λts S Q=>∃ A m a d,ts=[.ref A.h,.ref A.y,.ref A.u,dT d]/\At S (lay D A m a)/\Okk a/\0<=m/\OkD d/\rf m a d=0/\∀ S',Up S (lay D A m a) S' (lay D A m (nxt m a d))->Sd (rs m a d)->Q (rs m a d) S'
theorem qq:FnScope ["_law_house","_law_layers","_law_typist","_law_deed","_law_kind"] vv1 (av je):=by nofun
theorem EC (F:!"_law_call" je) (T:!0)
  (NM:!4 f1 LW vv4 (pv C)) (Mg:Meth K C "put" f1) (Mh:aw K LW vv4 [])
  (Nf:!3 f2 Nd vv2 (py C)) (L3:Meth K C "use" f2) (L4:aw K Nd vv2 [])
  (MR:!2 f3 P8 vv0 (m7 C)) (LZ:Meth K C "strike" f3) (L0:aw K P8 vv0 [])
  (Nx:!1 f4 Q1 vv8 (oG C)) (Ny:Meth K C "fade" f4) (Nz:aw K Q1 vv8 [])
  (Py:!5 f5 Rj vv4 (vd C L)) (Ni:Meth K L "put" f5) (Nj:aw K Rj vv4 [])
  (Oi:!3 f6 fd6 vv0 (rB C L)) (Mw:Meth K L "strike" f6) (Mx:aw K fd6 vv0 [])
  (OZ:!4 f7 fd7 vv0 (vf C L)) (MW:Meth K L "hide" f7) (MX:aw K fd7 vv0 [])
  (O0:!1 f8 fd8 vv0 (vg C L)) (MY:Meth K L "show" f8) (MZ:aw K fd8 vv0 [])
  (Nh:!4 f9 fd9 vv2 (oN C L)) (Mm:Meth K L "use" f9) (Nk:aw K fd9 vv2 [])
  (MT:!2 f10 Rl vv8 (nN C L)) (MU:Meth K L "fade" f10) (MV:aw K Rl vv8 [])
  (Pz:!3 f11 Rm eM (wx Y)) (Nl:Meth K Y "key" f11) (Nm:aw K Rm eM [])
  (O1:!1 f12 SJ vv6 (vm Y)) (M0:Meth K Y "back" f12) (M3:aw K SJ vv6 [])
  (MI:!1 f13 fd13 vv6 (nO Y)) (MJ:Meth K Y "clear" f13) (MK:aw K fd13 vv6 [])
  (O2:!8 f14 fd14 fq (tZ ⟨C,L,R,Y⟩)) (M4:Meth K Y "take" f14) (M5:aw K fd14 fq [])
  (O3:!3 f15 fd15 vv8 (t6 ⟨C,L,R,Y⟩)) (O4:Meth K Y "fade" f15) (O5:aw K fd15 vv8 []) :
  !9 f fd vv1 (vw ⟨C,L,R,Y⟩):=by
 exists qq
 refine ⟨_,((aj (az 4 nd (ak (aa 3) af)) (aj (ao (ay hr (aa 4) ai) (ag (ap (aY (T.gf Mg) NM Mh hr.m (aa 0) (ac (ak (aa 3) af) (ac (ak (aa 3) af) ae))))) au) (aj (ao (ay hr (aa 4) ai) (ag (ap (aY (T.gf L3) Nf L4 hr.m (aa 0) (ac (ak (aa 3) af) (ac (ak (aa 3) af) ae))))) au) (aj (ao (ay hr (aa 4) ai) (ag (ap (aY (T.gf LZ) MR L0 hr.m (aa 0) (ac (ak (aa 3) af) ae)))) au) (aj (ao (ay hr (aa 4) ai) (ag (ap (aY (T.gf Ny) Nx Nz hr.m (aa 0) (ac (ak (aa 3) af) ae)))) au) (aj (ao (ay hr (aa 4) ai) (ag (ap (aY (T.gl Ni) Py Nj hr.m (aa 1) (ac (ak (aa 3) af) (ac (ak (aa 3) af) ae))))) au) (aj (ao (ay hr (aa 4) ai) (ag (ap (aY (T.gl Mw) Oi Mx hr.m (aa 1) (ac (ak (aa 3) af) ae)))) au) (aj (ao (ay hr (aa 4) ai) (ag (ap (aY (T.gl MW) OZ MX hr.m (aa 1) (ac (ak (aa 3) af) ae)))) au) (aj (ao (ay hr (aa 4) ai) (ag (ap (aY (T.gl MY) O0 MZ hr.m (aa 1) (ac (ak (aa 3) af) ae)))) au) (aj (ao (ay hr (aa 4) ai) (ag (ap (aY (T.gl Mm) Nh Nk hr.m (aa 1) (ac (ak (aa 3) af) (ac (ak (aa 3) af) ae))))) au) (aj (ao (ay hr (aa 4) ai) (ag (ap (aY (T.gl MU) MT MV hr.m (aa 1) (ac (ak (aa 3) af) ae)))) au) (aj (ao (ay hr (aa 4) ai) (ag (ap (aY (T.gu Nl) Pz Nm hr.m (aa 2) (ac (ak (aa 3) af) ae)))) au) (aj (ao (ay hr (aa 4) ai) (ag (ap (c9 (T.gu M0) O1 M3 hr.m (aa 2)))) au) (aj (ao (ay hr (aa 4) ai) (ag (ap (c9 (T.gu MJ) MI MK hr.m (aa 2)))) au) (aj (ao (ay hr (aa 4) ai) (ag (ap (aY (T.gu M4) O2 M5 hr.m (aa 2) (ac (ak (aa 3) af) ae)))) au) (ag (ap (aY (T.gu O4) O3 O5 hr.m (aa 2) (ac (ak (aa 3) af) ae)))))))))))))))))))),aB λv hu ts S Q h=>?_⟩
 obtain ⟨A,m,a,d,rfl,hA,ok,hm,hd,h0,hq⟩:=h
 have l1:=ok.ok.h.len
 have l2:=ok.ok.o.len
 have l3:=ok.ok.le
 have l4:=ok.vl
 have l5:=ok.xl
 have iw:=hA.wh.ins
 have iy:=hA.ly.ins
 have iu:=hA.tp.ty
 have iu':=iu
 unfold tyO at iu'
 have Uu:=Up.refl hA
 ac_nf
 ext
 right
 ·obtain ⟨z,c,rfl⟩:=jL k
  ext
  rcases if3 h0 with ⟨_,e⟩|⟨_,_,e⟩|⟨h1,h2,_⟩
  iterate 2 cases e
  exact ⟨_,_,_,_,z,c,rfl,hA.wh,by omega,by simpa using h1,by simpa using h2,.mk (hq _ Uu.hou (.inl rfl))⟩
 ext
 right
 ·obtain ⟨z,c,rfl⟩:=j9 k
  ext
  rcases if2 h0 with ⟨h1,_⟩|⟨_,e⟩
  ·obtain ⟨mm,e⟩:=Option.isSome_iff_exists.mp h1
   refine ⟨_,_,_,_,z,c,mm,rfl,hA.wh,by omega,e,ok.ok.h.old _ (As.cP e),?_⟩
   rw [<- dM e]
   exact .mk (hq _ Uu.hou (.inl rfl))
  ·cases e
 ext
 right
 ·obtain ⟨z,rfl⟩:=ji k
  ext
  rcases if2 h0 with ⟨h1,_⟩|⟨_,e⟩
  ·obtain ⟨mm,e⟩:=Option.isSome_iff_exists.mp h1
   exact ⟨_,_,_,_,z,mm,rfl,hA.wh,e,.mk (hq _ Uu.hou (.inl rfl))⟩
  ·cases e
 ext
 right
 ·obtain ⟨c,rfl⟩:=nR k
  ext
  exact ⟨_,_,_,_,c,rfl,hA.wh,.mk (hq _ Uu.eraH (.inl rfl))⟩
 ext
 right
 ·obtain ⟨z,c,rfl⟩:=ka k
  ext
  rcases if3 h0 with ⟨_,e⟩|⟨_,_,e⟩|⟨h1,h2,_⟩
  iterate 2 cases e
  exact ⟨A.y,_,_,_,_,_,_,_,_,_,_,z,c,rfl,hA.ly,by omega,by simpa using h1,by simpa using h2,.mk (hq _ Uu.own (.inl rfl))⟩
 ext
 right
 ·obtain ⟨z,rfl⟩:=jl k
  ext
  rcases if2 h0 with ⟨h1,_⟩|⟨_,e⟩
  ·obtain ⟨mm,e⟩:=Option.isSome_iff_exists.mp h1
   exact ⟨A.y,_,_,_,_,_,_,_,_,_,_,z,mm,rfl,hA.ly,e,.mk (hq _ Uu.own (.inl rfl))⟩
  ·cases e
 ext
 right
 ·obtain ⟨z,rfl⟩:=jM k
  ext
  rcases if3 h0 with ⟨_,e⟩|⟨_,_,e⟩|⟨h1,h2,_⟩
  iterate 2 cases e
  exact ⟨A.y,_,_,_,_,_,_,_,_,_,_,z,rfl,hA.ly,by omega,by simpa using h1,by simpa using h2,.mk (hq _ Uu.vei (.inl rfl))⟩
 ext
 right
 ·obtain ⟨z,rfl⟩:=jt k
  ext
  rcases if2 h0 with ⟨h1,_⟩|⟨_,e⟩
  ·obtain ⟨mm,e⟩:=Option.isSome_iff_exists.mp h1
   exact ⟨A.y,_,_,_,_,_,_,_,_,_,_,z,mm,rfl,hA.ly,e,.mk (hq _ Uu.vei (.inl rfl))⟩
  ·cases e
 ext
 right
 ·obtain ⟨z,c,rfl⟩:=ju k
  ext
  rcases if3 h0 with ⟨_,e⟩|⟨h1,h2,_⟩|⟨_,_,e⟩
  ·cases e
  ·refine ⟨A.y,_,_,_,_,_,_,_,_,_,_,z,c,rfl,hA.ly,by omega,by omega,by simpa using h1,?_⟩
   cases e:look a.ms z with
   |some mm =>
    refine .inl ⟨mm,rfl,ok.ok.o.old _ (As.cP e),.mk (hq _ ?_ (.inl rfl))⟩
    show Up _ _ _ (lay _ A m (a.use z c))
    rw [pA e]
    exact Uu.own
   |none =>
    rw [e] at h2
    obtain ⟨mm,e2⟩:=Option.isSome_iff_exists.mp (h2.resolve_left (by decide))
    refine .inr ⟨rfl,mm,e2,ok.ok.h.old _ (As.cP e2),.mk (hq _ ?_ (.inl rfl))⟩
    show Up _ _ _ (lay _ A m (a.use z c))
    rw [pB e e2]
    exact Uu.hou
  ·cases e
 ext
 right
 ·obtain ⟨c,rfl⟩:=m9 k
  ext
  exact ⟨A.y,_,_,_,_,_,_,_,_,_,_,c,rfl,hA.ly,.mk (hq _ Uu.eraO (.inl rfl))⟩
 ext
 right
 ·obtain ⟨z,rfl⟩:=kb k
  ext
  rcases if3 h0 with ⟨_,e⟩|⟨h1,h2,_⟩|⟨_,_,e⟩
  ·cases e
  ·exact ⟨A.u,_,_,_,_,_,z,rfl,iu,hd.1,by simpa using h1,h2,.mk (hq _ Uu.txt (.inl rfl))⟩
  ·cases e
 ext
 right
 ·obtain rfl:=jN k
  ext
  rcases if2 h0 with ⟨_,e⟩|⟨h1,_⟩
  ·cases e
  ·exact ⟨A.u,_,_,_,_,_,rfl,iu,l5,h1,.mk (hq _ Uu.txt (.inl rfl))⟩
 ext
 right
 ·obtain rfl:=na k
  ext
  exact ⟨A.u,_,_,_,_,_,rfl,iu,.mk (hq _ Uu.txt (.inl rfl))⟩
 ext
 right
 ·obtain ⟨i,rfl⟩:=jO k
  ext
  rcases if2 h0 with ⟨⟨h1,h2⟩,_⟩|⟨_,e⟩
  ·obtain ⟨r,e⟩:∃ r,(a.told m)[i.toNat]?=some r:=⟨_,List.getElem?_eq_getElem (by omega)⟩
   refine ⟨A,m,a,i,r,rfl,hA,ok,hm,h1,e,λS' u so=>.mk ?_⟩
   have q:Up _ _ _ (lay _ A m (((a.told m)[i.toNat]?).elim a λr=>a.tak r.1))->Sd (((a.told m)[i.toNat]?).elim .non λr=>.str r.1)->Q (((a.told m)[i.toNat]?).elim .non λr=>.str r.1) S':=hq S'
   rw [e] at q
   exact q u (.inr ⟨_,rfl,so⟩)
  ·cases e
 ext
 obtain ⟨c,rfl⟩:∃ c,d=fadeA c:=by cases d<;>first|exact ⟨_,rfl⟩|exact absurd rfl (by assumption)
 ext
 exact ⟨A,m,a,c,rfl,hA,λS' u=>.mk (hq S' u (.inl rfl))⟩
def t8 (D:Cs) (Z:Zs):bz:=λts S R=>∃ A m a d,ts=[.ref A.h,.ref A.y,.ref A.u,dT d]/\At S (lay D A m a)/\Okk a/\0<=m/\OkD d/\rf m a d≠0/\R (cls Z (rf m a d)) S
theorem ED (F:!"_law_call" je) (T:!0)
  (NN:FnOk P w K mg base (CX1 P w) 4 f1 LW vv4 (aR K (oI C Z.N Z.T))) (Mg:Meth K C "put" f1) (Mh:aw K LW vv4 [])
  (Ng:FnOk P w K mg base (CX1 P w) 3 f2 Nd vv2 (aR K (oJ C Z.A))) (L3:Meth K C "use" f2) (L4:aw K Nd vv2 [])
  (MS:FnOk P w K mg base (CX1 P w) 3 f3 P8 vv0 (aR K (mR C Z.A))) (LZ:Meth K C "strike" f3) (L0:aw K P8 vv0 [])
  (PB:FnOk P w K mg base (CX1 P w) 5 f4 Q1 vv4 (aR K (tM C L Z))) (Ni:Meth K L "put" f4) (Nj:aw K Q1 vv4 [])
  (Oj:FnOk P w K mg base (CX1 P w) 4 f5 Rj vv0 (aR K (qD C L Z))) (Mw:Meth K L "strike" f5) (Mx:aw K Rj vv0 [])
  (O6:FnOk P w K mg base (CX1 P w) 4 f6 fd6 vv0 (aR K (tN C L Z))) (MW:Meth K L "hide" f6) (MX:aw K fd6 vv0 [])
  (O7:FnOk P w K mg base (CX1 P w) 1 f7 fd7 vv0 (aR K (tO C L Z))) (MY:Meth K L "show" f7) (MZ:aw K fd7 vv0 [])
  (PC:FnOk P w K mg base (CX1 P w) 4 f8 fd8 vv2 (aR K (tP C L Z))) (Mm:Meth K L "use" f8) (Nk:aw K fd8 vv2 [])
  (PD:FnOk P w K mg base (CX1 P w) 3 f9 fd9 eM (aR K (vk Y Z.S))) (Nl:Meth K Y "key" f9) (Nm:aw K fd9 eM [])
  (O8:FnOk P w K mg base (CX1 P w) 1 f10 Rl vv6 (aR K (tT Y Z.S))) (M0:Meth K Y "back" f10) (M3:aw K Rl vv6 [])
  (O9:FnOk P w K mg base (CX1 P w) 8 f11 Rm fq (aR K (t5 ⟨C,L,R,Y⟩ Z.H))) (M4:Meth K Y "take" f11) (M5:aw K Rm fq []) :
  FnOk P w K mg base (CX1 P w) 9 f fd vv1 (aR K (t8 ⟨C,L,R,Y⟩ Z)):=by
 exists qq
 refine ⟨_,((bE (az 4 nd (ak (aa 3) af)) (b9 (aH (bj (ay hr (aa 4) ai) (aH (cV (bS (T.gf Mg) NN Mh hr.m (aa 0) (ac (ak (aa 3) af) (ac (ak (aa 3) af) ae))))) bn)) (bE (ao (ay hr (aa 4) ai) cr au) (b9 (aH (bj (ay hr (aa 4) ai) (aH (cV (bS (T.gf L3) Ng L4 hr.m (aa 0) (ac (ak (aa 3) af) (ac (ak (aa 3) af) ae))))) bn)) (bE (ao (ay hr (aa 4) ai) cr au) (b9 (aH (bj (ay hr (aa 4) ai) (aH (cV (bS (T.gf LZ) MS L0 hr.m (aa 0) (ac (ak (aa 3) af) ae)))) bn)) (bE (ao (ay hr (aa 4) ai) cr au) (bE (ao (ay hr (aa 4) ai) cr au) (b9 (aH (bj (ay hr (aa 4) ai) (aH (cV (bS (T.gl Ni) PB Nj hr.m (aa 1) (ac (ak (aa 3) af) (ac (ak (aa 3) af) ae))))) bn)) (bE (ao (ay hr (aa 4) ai) cr au) (b9 (aH (bj (ay hr (aa 4) ai) (aH (cV (bS (T.gl Mw) Oj Mx hr.m (aa 1) (ac (ak (aa 3) af) ae)))) bn)) (bE (ao (ay hr (aa 4) ai) cr au) (b9 (aH (bj (ay hr (aa 4) ai) (aH (cV (bS (T.gl MW) O6 MX hr.m (aa 1) (ac (ak (aa 3) af) ae)))) bn)) (bE (ao (ay hr (aa 4) ai) cr au) (b9 (aH (bj (ay hr (aa 4) ai) (aH (cV (bS (T.gl MY) O7 MZ hr.m (aa 1) (ac (ak (aa 3) af) ae)))) bn)) (bE (ao (ay hr (aa 4) ai) cr au) (b9 (aH (bj (ay hr (aa 4) ai) (aH (cV (bS (T.gl Mm) PC Nk hr.m (aa 1) (ac (ak (aa 3) af) (ac (ak (aa 3) af) ae))))) bn)) (bE (ao (ay hr (aa 4) ai) cr au) (bE (ao (ay hr (aa 4) ai) cr au) (b9 (aH (bj (ay hr (aa 4) ai) (aH (cV (bS (T.gu Nl) PD Nm hr.m (aa 2) (ac (ak (aa 3) af) ae)))) bn)) (bE (ao (ay hr (aa 4) ai) cr au) (b9 (aH (bj (ay hr (aa 4) ai) (aH (cV (Bt (T.gu M0) O8 M3 hr.m (aa 2)))) bn)) (bE (ao (ay hr (aa 4) ai) cr au) (bE (ao (ay hr (aa 4) ai) cr au) (aH (bj (ay hr (aa 4) ai) (aH (cV (bS (T.gu M4) O9 M5 hr.m (aa 2) (ac (ak (aa 3) af) ae)))) bn))))))))))))))))))))))))))),cv λv hu ts S Q h=>?_⟩
 obtain ⟨A,m,a,d,rfl,hA,ok,hm,hd,h0,hq⟩:=h
 obtain ⟨j,hj⟩:∃ j,rf m a d=j:=⟨_,rfl⟩
 rw [hj] at h0 hq
 have l5:=ok.xl
 have iw:=hA.wh.ins
 have iy:=hA.ly.ins
 have iu:=hA.tp.ty
 have iu':=iu
 unfold tyO at iu'
 ac_nf
 ext
 refine orK d "put" (λk=>?_) λk0=>?_
 ·obtain ⟨z,c,rfl⟩:=jL k
  ext
  refine ck k ?_
  ext
  refine ⟨_,_,_,_,z,c,rfl,hA.wh,hd.1,hd.2,?_⟩
  rcases if3 hj with ⟨h1,rfl⟩|⟨h1,h2,rfl⟩|⟨_,_,rfl⟩
  ·exact .inl ⟨h1,.mk hq⟩
  ·exact .inr ⟨by simpa using h1,Option.isSome_iff_exists.mp h2,.mk hq⟩
  ·exact absurd rfl h0
 ext
 refine b5 k0 ?_
 ext
 refine orK d "use" (λk=>?_) λk0=>?_
 ·obtain ⟨z,c,rfl⟩:=j9 k
  ext
  refine ck k ?_
  ext
  rcases if2 hj with ⟨_,rfl⟩|⟨h1,rfl⟩
  ·exact absurd rfl h0
  ·exact ⟨_,_,_,_,z,c,rfl,hA.wh,by simpa using h1,hd.1,hd.2,.mk hq⟩
 ext
 refine b5 k0 ?_
 ext
 refine orK d "strike" (λk=>?_) λk0=>?_
 ·obtain ⟨z,rfl⟩:=ji k
  ext
  refine ck k ?_
  ext
  rcases if2 hj with ⟨_,rfl⟩|⟨h1,rfl⟩
  ·exact absurd rfl h0
  ·exact ⟨_,_,_,_,z,rfl,hA.wh,by simpa using h1,hd.1,hd.2,.mk hq⟩
 ext
 refine b5 k0 ?_
 ext
 right
 ·obtain ⟨c,rfl⟩:=nR k
  exact absurd hj.symm h0
 ext
 refine orK d "own" (λk=>?_) λk0=>?_
 ·obtain ⟨z,c,rfl⟩:=ka k
  ext
  refine ck k ?_
  ext
  refine ⟨A.y,_,_,_,_,_,_,_,_,_,_,z,c,rfl,hA.ly,hd.1,hd.2,?_⟩
  rcases if3 hj with ⟨h1,rfl⟩|⟨h1,h2,rfl⟩|⟨_,_,rfl⟩
  ·exact .inl ⟨h1,.mk hq⟩
  ·exact .inr ⟨by simpa using h1,Option.isSome_iff_exists.mp h2,.mk hq⟩
  ·exact absurd rfl h0
 ext
 refine b5 k0 ?_
 ext
 refine orK d "disown" (λk=>?_) λk0=>?_
 ·obtain ⟨z,rfl⟩:=jl k
  ext
  refine ck k ?_
  ext
  rcases if2 hj with ⟨_,rfl⟩|⟨h1,rfl⟩
  ·exact absurd rfl h0
  ·exact ⟨A.y,_,_,_,_,_,_,_,_,_,_,z,rfl,hA.ly,hd.1,hd.2,by simpa using h1,.mk hq⟩
 ext
 refine b5 k0 ?_
 ext
 refine orK d "hide" (λk=>?_) λk0=>?_
 ·obtain ⟨z,rfl⟩:=jM k
  ext
  refine ck k ?_
  ext
  refine ⟨A.y,_,_,_,_,_,_,_,_,_,_,z,rfl,hA.ly,hd.1,hd.2,?_⟩
  rcases if3 hj with ⟨h1,rfl⟩|⟨h1,h2,rfl⟩|⟨_,_,rfl⟩
  ·exact .inl ⟨h1,.mk hq⟩
  ·exact .inr ⟨by simpa using h1,Option.isSome_iff_exists.mp h2,.mk hq⟩
  ·exact absurd rfl h0
 ext
 refine b5 k0 ?_
 ext
 refine orK d "show" (λk=>?_) λk0=>?_
 ·obtain ⟨z,rfl⟩:=jt k
  ext
  refine ck k ?_
  ext
  rcases if2 hj with ⟨_,rfl⟩|⟨h1,rfl⟩
  ·exact absurd rfl h0
  ·exact ⟨A.y,_,_,_,_,_,_,_,_,_,_,z,rfl,hA.ly,hd.1,hd.2,by simpa using h1,.mk hq⟩
 ext
 refine b5 k0 ?_
 ext
 refine orK d "above" (λk=>?_) λk0=>?_
 ·obtain ⟨z,c,rfl⟩:=ju k
  ext
  refine ck k ?_
  ext
  rcases if3 hj with ⟨h1,rfl⟩|⟨_,_,rfl⟩|⟨h1,h2,rfl⟩
  ·exact ⟨A.y,_,_,_,_,_,_,_,_,_,_,z,c,rfl,hA.ly,hd.1,hd.2,.inl (Option.isSome_iff_exists.mp h1),.mk hq⟩
  ·exact absurd rfl h0
  ·exact ⟨A.y,_,_,_,_,_,_,_,_,_,_,z,c,rfl,hA.ly,hd.1,hd.2,.inr ⟨by simpa using h1,by simpa using λh=>h2 (.inl h),by simpa using λh=>h2 (.inr h)⟩,.mk hq⟩
 ext
 refine b5 k0 ?_
 ext
 right
 ·obtain ⟨c,rfl⟩:=m9 k
  exact absurd hj.symm h0
 ext
 refine orK d "key" (λk=>?_) λk0=>?_
 ·obtain ⟨z,rfl⟩:=kb k
  ext
  refine ck k ?_
  ext
  refine ⟨A.u,_,_,_,_,_,z,rfl,iu,hd.1,hd.2,l5,?_⟩
  rcases if3 hj with ⟨h1,rfl⟩|⟨_,_,rfl⟩|⟨h1,h2,rfl⟩
  ·exact ⟨.inl h1,.mk hq⟩
  ·exact absurd rfl h0
  ·exact ⟨.inr ⟨by simpa using h1,by omega⟩,.mk hq⟩
 ext
 refine b5 k0 ?_
 ext
 refine orK d "back" (λk=>?_) λk0=>?_
 ·obtain rfl:=jN k
  ext
  rcases if2 hj with ⟨h1,rfl⟩|⟨_,rfl⟩
  ·rw [h1] at iu
   exact ⟨A.u,_,_,_,_,rfl,iu,.mk hq⟩
  ·exact absurd rfl h0
 ext
 refine b5 k0 ?_
 ext
 right
 ·obtain rfl:=na k
  exact absurd hj.symm h0
 ext
 right
 ·obtain ⟨i,rfl⟩:=jO k
  ext
  rcases if2 hj with ⟨_,rfl⟩|⟨h1,rfl⟩
  ·exact absurd rfl h0
  ·exact ⟨A,m,a,i,rfl,hA,ok,hm,hd,by omega,.mk hq⟩
 obtain ⟨c,rfl⟩:∃ c,d=fadeA c:=by cases d<;>first|exact ⟨_,rfl⟩|exact absurd rfl (by assumption)
 exact absurd hj.symm h0
theorem gF {b:Bool}{A C:Prop}(e:b=true) (h:A):if b=true then A else C:=by rw [e];exact ifT h
theorem kU {b:Bool}{A C:Prop}(e:b=false) (h:C):if b=true then A else C:=by rw [e];exact ifF h
noncomputable def nmR:Nat->Str
 |0=>""
 |1=>"word"
 |2=>"twice"
 |3=>"absent"
 |4=>"sign"
 |_=>"choice"
def aft (m:Int) (a:Ab) (d:Dd):Ab:=if rf m a d=0 then nxt m a d else a
def out (m:Int) (a:Ab) (d:Dd):T2.T:=.tup [.str (nmR (rf m a d)),if rf m a d=0 then rs m a d else .non]
def t9 (D:Cs):WSp:=λts S Q=>∃ A m a d,ts=[.ref A.h,.ref A.y,.ref A.u,dT d]/\At S (lay D A m a)/\Okk a/\0<=m/\OkD d/\∀ S',Up S (lay D A m a) S' (lay D A m (aft m a d))->Sd (if rf m a d=0 then rs m a d else .non)->Q (out m a d) S'
theorem yy:FnScope ["_law_house","_law_layers","_law_typist","_law_deed","_law_word_here","_law_told"] vv1 (av l7):=by nofun
theorem BY (F:!"_law_tried" l7) (T:!0) (Qd:!9 f1 LW vv1 (vw ⟨C,L,R,Y⟩))
  (Qe:FnOk P w K mg base (CX1 P w) 9 f1 LW vv1 (aR K (t8 ⟨C,L,R,Y⟩ Z))) (Og:Df K mg "_law_call" f1 LW vv1):!10 f fd vv1 (t9 ⟨C,L,R,Y⟩):=by
 exists yy
 refine ⟨_,((aj (az 4 nd ai) (aj (az 5 nd ik) (aj (J0 ⟨rfl,rfl⟩ (ag (az 5 nd (ax Qd Og hr.m (ac (aa 0) (ac (aa 1) (ac (aa 2) (ac (aa 3) ae))))))) (aH (GU (DH Qe Og hr.m (by rfl) (ac (aa 0) (ac (aa 1) (ac (aa 2) (ac (aa 3) ae))))))) (gR rfl (by rfl) T.mg_NoWord (λ_=>(ag (az 4 nd ai))) (gR rfl (by rfl) T.mg_Twice (λ_=>(ag (az 4 nd ai))) (gR rfl (by rfl) T.mg_Absent (λ_=>(ag (az 4 nd ai))) (gR rfl (by rfl) T.mg_NoSign (λ_=>(ag (az 4 nd ai))) (gR rfl (by rfl) T.mg_NoChoice (λ_=>(ag (az 4 nd ai))) GV)))))) (ag (ap (aL (ac (aa 4) (ac (aa 5) ae))))))))),aB λv hu ts S Q h=>?_⟩
 obtain ⟨A,m,a,d,rfl,hA,ok,hm,hd,hq⟩:=h
 ac_nf
 ext
 obtain ⟨j,hj⟩:∃ j,rf m a d=j:=⟨_,rfl⟩
 unfold aft out at hq
 rw [hj] at hq
 by_cases h0:j=0
 ·subst h0
  rw [if_pos rfl,if_pos rfl] at hq
  refine GY ?_
  ext
  refine ⟨A,m,a,d,rfl,hA,ok,hm,hd,hj,λS' u so=>?_⟩
  ext
  exact .mk (hq _ u so)
 ·rw [if_neg h0,if_neg h0] at hq
  have fin:=hq S (Up.refl hA) (.inl rfl)
  refine GZ ?_
  ext
  refine ⟨A,m,a,d,rfl,hA,ok,hm,hd,by rw [hj];exact h0,?_⟩
  rw [hj]
  rcases j with _|_|_|_|_|j
  ·exact absurd rfl h0
  ·refine iB T.eNN ?_
   ext
   exact .mk fin
  ·refine df T.eTN ?_
   refine iB T.eTT ?_
   ext
   exact .mk fin
  ·refine df T.eAN ?_
   refine df T.eAT ?_
   refine iB T.eAA ?_
   ext
   exact .mk fin
  ·refine df T.eSN ?_
   refine df T.eST ?_
   refine df T.eSA ?_
   refine iB T.eSS ?_
   ext
   exact .mk fin
  ·refine df T.eHN ?_
   refine df T.eHT ?_
   refine df T.eHA ?_
   refine df T.eHS ?_
   refine iB T.eHH ?_
   ext
   exact .mk fin
def Pln:Nat->T2.T->Prop
 |0,_=>False
 |n+1,d=>d=.non\/(∃ x,d=.str x)\/(∃ b,d=.bl b)\/(∃ i,d=.int i)\/∃ us,(d=.tup us\/d=.lst us)/\us.length<=1000/\∀ u∈us,Pln n u
def h8 (n:Nat):WSp:=λts S Q=>∃ f d,ts=[f,d]/\Pln n f/\(d=f\/∃ a us,f=.lst us/\d=.ref a/\S a=some (.lst us))/\Q (.bl true) S
theorem yT:FnScope ["_law_found","_law_due","_law_kind"] du (av jd):=by nofun
theorem BZ {n:Nat}(F:!"_law_same" jd) (T:!0) (Mi:FnOk P w K mg base CX0 (n+1) f fd du (lSp K (h8 n))) (Mj:Df K mg "_law_same" f fd du) :
  FnOk P w K mg base CX0 (n+2) f fd du (lSp K (h8 (n+1))):=by
 exists yT
 refine ⟨_,((aj (ao (a0 (aJ (G0 rfl) T.isinstance PyProof.Rows.boot_isinstance (ac (aa 1) (ac (aL (ac (cK (n:="tuple") (by rfl) T.tuple PyProof.Rows.boot_tuple) (ac (cK (n:="list") (by rfl) T.list PyProof.Rows.boot_list) ae))) ae)))) (aj (az 2 nd (cw (a0 (aJ (dk rfl) T.isinstance PyProof.Rows.boot_isinstance (ac (aa 1) (ac (cK (n:="tuple") (by rfl) T.tuple PyProof.Rows.boot_tuple) ae)))) (aJ (dk rfl) T.isinstance PyProof.Rows.boot_isinstance (ac (aa 0) (ac (cK (n:="tuple") (by rfl) T.tuple PyProof.Rows.boot_tuple) ae))) (aJ (dk rfl) T.isinstance PyProof.Rows.boot_isinstance (ac (aa 0) (ac (cK (n:="list") (by rfl) T.list PyProof.Rows.boot_list) ae))))) (aj (ao (dq (iK (br (a0 (aa 2))) (io (aI (pH rfl hr.units) (aJ (a8 rfl) T.len PySem.boot_len (ac (aa 0) ae)) (aJ (a8 rfl) T.len PySem.boot_len (ac (aa 1) ae)))))) (ag (ap bP)) au) (ag (ap (bN (nC rfl) bP (cU false ["_law_k","_law_found","_law_due"] 1 [0,1] rfl (dB (by rfl) T.range (aJ (a8 rfl) T.len PySem.boot_len (ac (aa 1) ae))) (λ_ _ _ _=>(aW 0 (show List.Nodup (["_law_k","_law_found","_law_due"]:List Str) from by decide +kernel))) (λ_ _ _ _=>cQ) (λ_ _ _ _=>(ax Mi Mj (hr.mono (by omega)) (ac (ak (aa 1) (aa 0)) (ac (ak (aa 2) (aa 0)) ae))))) (by with_unfolding_all rfl)))))) au) (aj (ao (aI xa (aa 1) ik) (ag (ap (bN xa (aa 0) ik))) au) (aj (ao (a0 (aJ (dk rfl) T.isinstance PyProof.Rows.boot_isinstance (ac (aa 1) (ac (cK (n:="str") (by rfl) T.str PyProof.Rows.boot_str) ae)))) (ag (ap (db (aJ (dk rfl) T.isinstance PyProof.Rows.boot_isinstance (ac (aa 0) (ac (cK (n:="str") (by rfl) T.str PyProof.Rows.boot_str) ae))) (cC (bN (eB rfl hr.units) (aa 0) (aa 1)))))) au) (aj (ao (a0 (aJ (dk rfl) T.isinstance PyProof.Rows.boot_isinstance (ac (aa 1) (ac (cK (n:="bool") (by rfl) T.bool PyProof.Rows.boot_bool) ae)))) (ag (ap (db (aJ (dk rfl) T.isinstance PyProof.Rows.boot_isinstance (ac (aa 0) (ac (cK (n:="bool") (by rfl) T.bool PyProof.Rows.boot_bool) ae))) (cC (bN (eB rfl hr.units) (aa 0) (aa 1)))))) au) (ag (ap (db (aJ (dk rfl) T.isinstance PyProof.Rows.boot_isinstance (ac (aa 0) (ac (cK (n:="int") (by rfl) T.int PyProof.Rows.boot_int) ae))) (db (gY (aJ (dk rfl) T.isinstance PyProof.Rows.boot_isinstance (ac (aa 0) (ac (cK (n:="bool") (by rfl) T.bool PyProof.Rows.boot_bool) ae)))) (cC (bN (eB rfl hr.units) (aa 0) (aa 1)))))))))))),aB λv hu ts S Q h=>?_⟩
 obtain ⟨x,y,rfl,he,hy,hq⟩:=h
 rcases hy with rfl|⟨a,us,rfl,rfl,ha⟩
 rotate_left
 ·obtain ⟨h1000,hs⟩:us.length<=1000/\∀ u∈us,Pln n u:=by
   rcases he with e|⟨_,e⟩|⟨_,e⟩|⟨_,e⟩|⟨vs,e,h1,h2⟩
   iterate 4 cases e
   rcases e with e|e
   ·cases e
   ·cases e;exact ⟨h1,h2⟩
  have ty:tyT S (.ref a)=some (.type "list"):=by simp only [tyT,ha]
  ac_nf
  ext
  refine uR ty (fT T.lt T.ll) ?_
  ext
  refine v5 ty T.lt ?_
  ext
  rw [decide_eq_true rfl]
  refine ifF ?_
  ext
  refine c8 (ls:=List.range us.length) (λ(k:Nat)=>T2.T.int (0+k)) (λ_=>some (.bl true)) [some (.lst us),some (.ref a)] trivial (by rw [List.length_range,sizeLine_eq];omega) (λk hk u LQ N Ml hN=>?_) ?_
  ·have hk:=List.mem_range.mp hk
   have at_:atI us (0+(k:Int))=some us[k]:=by rw [Int.zero_add,fH];exact List.getElem?_eq_getElem hk
   ext
   refine cE at_ ?_
   ext
   refine iz ha at_ ?_
   ext
   exact ⟨_,_,rfl,hs _ (List.getElem_mem hk),.inl rfl,Ml,hN _⟩
  ·ext
   refine ph rfl (by rw [List.all_eq_true];intro t ht;obtain ⟨_,_,e⟩:=List.mem_filterMap.mp ht;cases e;rfl) ?_
   rw [show ((List.range us.length).filterMap λ_=>some (T2.T.bl true)).any (λy=>eqF y (.bl false))=false by rw [List.any_eq_false];intro t ht;obtain ⟨_,_,e⟩:=List.mem_filterMap.mp ht;cases e;decide]
   exact .mk hq
 rcases he with rfl|⟨z,rfl⟩|⟨b,rfl⟩|⟨i,rfl⟩|⟨us,hd,h1000,hs⟩
 ·ac_nf
  ext
  refine ifT ?_
  ext
  exact .mk hq
 ·ac_nf
  ext
  refine ifF ?_
  ext
  rw [decide_eq_true rfl]
  exact .mk hq
 ·ac_nf
  ext
  refine ifF ?_
  ext
  rw [decide_eq_true rfl]
  exact .mk hq
 ·ac_nf
  ext
  refine ifF ?_
  ext
  rw [decide_eq_true rfl]
  exact .mk hq
 have any_:((List.range us.length).filterMap λ_=>some (T2.T.bl true)).any (λy=>eqF y (.bl false))=false:=by
  rw [List.any_eq_false];intro t ht;obtain ⟨_,_,e⟩:=List.mem_filterMap.mp ht;cases e;decide
 have all_:((List.range us.length).filterMap λ_=>some (T2.T.bl true)).all bO=true:=by rw [List.all_eq_true];intro t ht;obtain ⟨_,_,e⟩:=List.mem_filterMap.mp ht;cases e;rfl
 have at_:∀ k:Nat,(h:k<us.length)->atI us (0+(k:Int))=some us[k]:=λk h=>by rw [Int.zero_add,fH];exact List.getElem?_eq_getElem h
 rcases hd with rfl|rfl
 ·ac_nf
  ext
  rw [decide_eq_true rfl]
  refine ifF ?_
  ext
  refine c8 (ls:=List.range us.length) (λ(k:Nat)=>T2.T.int (0+k)) (λ_=>some (.bl true)) [some (.tup us),some (.tup us)] trivial (by rw [List.length_range,sizeLine_eq];omega) (λk hk u LQ N Ml hN=>?_) ?_
  ·have hk:=List.mem_range.mp hk
   ext
   refine gi (at_ k hk) ?_
   ext
   refine gi (at_ k hk) ?_
   ext
   exact ⟨_,_,rfl,hs _ (List.getElem_mem hk),.inl rfl,Ml,hN _⟩
  ·ext
   refine ph rfl all_ ?_
   rw [any_]
   exact .mk hq
 ·ac_nf
  ext
  rw [decide_eq_true rfl]
  refine ifF ?_
  ext
  refine c8 (ls:=List.range us.length) (λ(k:Nat)=>T2.T.int (0+k)) (λ_=>some (.bl true)) [some (.lst us),some (.lst us)] trivial (by rw [List.length_range,sizeLine_eq];omega) (λk hk u LQ N Ml hN=>?_) ?_
  ·have hk:=List.mem_range.mp hk
   ext
   refine cE (at_ k hk) ?_
   ext
   refine cE (at_ k hk) ?_
   ext
   exact ⟨_,_,rfl,hs _ (List.getElem_mem hk),.inl rfl,Ml,hN _⟩
  ·ext
   refine ph rfl all_ ?_
   rw [any_]
   exact .mk hq
theorem ua (F:!"_law_same" jd) (T:!0) (D:Df K mg "_law_same" f fd du):∀ n,FnOk P w K mg base CX0 (n+1) f fd du (lSp K (h8 n))
 |0=>⟨λvs H Q E h=>by obtain ⟨_,_,_,_,_,⟨_,_,_,h,_⟩,_⟩:=h;exact h.elim,λA o s H args us vs Q E _ _ _ _ h=>by obtain ⟨_,_,_,_,_,⟨_,_,_,h,_⟩,_⟩:=h;exact h.elim⟩
 |n+1=>BZ F T (ua F T D n) D
theorem sk:∀ {ws:List Str},(∀ a∈ws,PyData.strOk a=true)->PyData.canLayAll0 (ws.map PyData.str)=true
 |[],_=>rfl
 |a::l,h=>by
  have ih:PyData.canLayAll0 (l.map PyData.str)=true:=sk λx hx=>h x (List.mem_cons_of_mem _ hx)
  simp only [List.map_cons,PyData.canLayAll0,PyData.canLay0,h a (List.mem_cons_self ..),ih,Bool.and_self]
theorem sm:∀ (ws:List Str),PyData.depthAll (ws.map PyData.str)=0
 |[]=>rfl
 |a::l=>by simp [PyData.depthAll,PyData.depth,sm l]
theorem rD:∀ (ws:List Str),bF (ws.map T2.T.str)=some (ws.map PyData.str)
 |[]=>rfl
 |a::l=>by simp only [List.map_cons,bF,c6,rD l]
theorem B0 {S:Sto}{Q:T->Sto->Prop}{n:Bool}{ws:List Str}(h0:∀ a∈ws,PyData.strOk a=true) (h:Q (.bl (n ^^ ws.isEmpty)) S):gEq n (.lst (ws.map T2.T.str)) (.lst []) S Q:=by
 refine ⟨.list (ws.map .str),.list [],by show (bF _).map PyData.list=_;rw [rD];rfl,rfl,by simp only [PyData.canLay0];exact sk h0,rfl,?_,?_⟩
 ·simp only [PyData.depth,sm,PyData.depthAll];decide
 ·have:PyData.eqv (.list (ws.map .str)) (.list [])=ws.isEmpty:=by cases ws<;>simp [PyData.eqv,PyData.eqvAll]
  rw [this];exact h
theorem B1 {a p:Str}(h:PyData.strOk a=true) (hp:p∈Txt.split a " "):PyData.strOk p=true:=by
 rw [iG,List.all_eq_true] at *
 intro c hc
 have key:∀ (ps:List (List Nat)) (q:List Nat),q∈ps->∀ c∈q,c∈Tm.aU [32] ps:=by
  intro ps
  induction ps with
  |nil=>intro q hq;cases hq
  |cons a l ih =>
   intro q hq c hc
   cases l with
   |nil =>
    rw [List.mem_singleton] at hq
    subst hq
    exact hc
   |cons b r =>
    show c∈a++[32]++Tm.aU [32] (b::r)
    rcases List.mem_cons.mp hq with rfl|hq
    ·simp [hc]
    ·exact List.mem_append_right _ (ih q hq c hc)
 have:=key _ _ (List.mem_map_of_mem (f:=Tm.tl) hp) c hc
 rw [show Tm.aU [32] _=Tm.tl a from Tm.mC a] at this
 exact h c this
theorem zo {x:Str}{S:Sto}{Q:T2.T->Sto->Prop}(hx:PyData.strOk x=true) (p:Nat->Bool) (h:Q (.bl (!(Tm.tl x).all p)) S):gEq true (.lst ((Tm.tl x).filterMap λc=>if (!p c)=true then some (T2.T.str ⟨#[c]⟩) else none)) (.lst []) S Q:=by
 rw [gw (λc=>!p c) (λc=>T2.T.str ⟨#[c]⟩),show (List.map (λc=>T2.T.str ⟨#[c]⟩) ((Tm.tl x).filter λc=>!p c))=(((Tm.tl x).filter λc=>!p c).map λc=>(⟨#[c]⟩:Str)).map T2.T.str by rw [List.map_map];rfl]
 refine B0 (λa ha=>?_) ?_
 ·obtain ⟨c,hc,rfl⟩:=List.mem_map.mp ha
  exact (nQ hx (List.mem_filter.mp hc).1).2
 ·rw [List.isEmpty_map]
  have:(true ^^ ((Tm.tl x).filter λc=>!p c).isEmpty)=!(Tm.tl x).all p:=by
   rw [Bool.true_xor]
   congr 1
   rw [Bool.eq_iff_iff,List.isEmpty_iff,List.filter_eq_nil_iff,List.all_eq_true]
   refine forall_congr' λc=>forall_congr' λhc=>?_
   cases p c<;>simp
  rw [this];exact h
def wy:WSp:=λts S Q=>∃ z:Str,ts=[.str z]/\z.length<=1000/\PyData.strOk z=true/\Q (.bl (Wm.Wd z)) S
theorem xW:FnScope ["_law_text_here","_law_parts","_law_part"] ["_law_text_here"] (av lD):=by nofun
theorem zq (F:!"_law_is_word" lD) (T:!0) :
  !1 f fd ["_law_text_here"] wy:=by
 exists xW
 refine ⟨_,((aj (az 1 nd (bK PySem.F.plainAttrs_str PySem.F.slot_str_split PySem.F.type_str_split (sR false) (aa 0) (ac ai ae))) (aj (ao (dq (iK (aI gA (aJ (a8 rfl) T.len PySem.boot_len (ac (aa 0) ae)) af) (io (aI gA (aJ (a8 rfl) T.len PySem.boot_len (ac (aa 1) ae)) af)))) (ag (ap bP)) au) (aj (cD PassesOwn.never rfl (cB rfl (aa 1)) (aW 2 nd) (ag (ao (dq (iK (br (gK cy cy af (aJ (a8 rfl) T.len PySem.boot_len (ac (aa 2) ae)) af)) (io (aI (pH rfl hr.units) (cU false ["_law_sign"] 1 [] rfl (uw (aa 2)) (λ_ _ _ _=>(aW 0 (show List.Nodup (["_law_sign"]:List Str) from by decide +kernel))) (λ_ _ _ _=>(jE (aI (nC rfl) (aa 0) ai (by with_unfolding_all rfl)))) (λ_ _ _ _=>(aa 0))) (a9 ae))))) (ag (ap bP)) au))) (ag (ap bP)))))),aB λv hu ts S Q h=>?_⟩
 obtain ⟨z,rfl,hz,ha,hq⟩:=h
 unfold Wm.Wd at hq
 rw [Wm.qB] at hq
 have hsl:=PyProof.Rows.split_le z " "
 ac_nf
 ext
 refine ifB (λhb=>?_) λhb=>?_
 ·have hb:=of_decide_eq_true hb
  rw [decide_eq_false (by omega),Bool.false_and] at hq
  ext
  exact .mk hq
 have hb:=of_decide_eq_false hb
 rw [decide_eq_true (by omega),Bool.true_and] at hq
 ext
 refine ifB (λhb=>?_) λhb=>?_
 ·have hb:=of_decide_eq_true hb
  rw [decide_eq_false (by omega),Bool.false_and] at hq
  ext
  exact .mk hq
 have hb:=of_decide_eq_false hb
 rw [decide_eq_true (by omega),Bool.true_and] at hq
 ext
 refine fL (ls:=Txt.split z " ") (λls LO S'=>∃ u,LO=[some (.str z),some (.lst ((Txt.split z " ").map T2.T.str)),u]/\S'=S/\(∀ x∈ls,x.length<=1000/\PyData.strOk x=true)/\((Txt.split z " ").all λp=>Sc.isP (Tm.tl p))=ls.all λp=>Sc.isP (Tm.tl p)) ⟨_,rfl,rfl,λx hx=>⟨?_,B1 ha hx⟩,rfl⟩ ?_ ?_
 ·have hxl:=Tm.qZ hx
  omega
 ·rintro x ls LO S' N ⟨u,rfl,rfl,hl,he⟩ hN
  obtain ⟨hx,hxa⟩:=hl x List.mem_cons_self
  refine ⟨trivial,?_⟩
  rw [List.all_cons] at he
  have no:Sc.isP (Tm.tl x)=false->Q (.bl false) S':=λe=>by
   rw [he,e,Bool.false_and] at hq
   exact hq
  unfold Sc.isP at no
  ext
  by_cases h1:(1:Int)<=x.length
  ·rw [decide_eq_true h1]
   ext
   by_cases h2:(x.length:Int)<=12
   ·rw [decide_eq_true h2]
    ext
    refine c8 (ls:=Tm.tl x) (λc=>T2.T.str ⟨#[c]⟩) (λc=>if (!Sc.isL c)=true then some (T2.T.str ⟨#[c]⟩) else none) [] ?_ ?_ (λc hc u LQ N Ml hN=>?_) ?_
    ·trivial
    ·rw [Tm.len,sizeLine_eq];omega
    ·ext
     refine uG ?_
     rw [Wm.Hg,Bool.true_xor]
     cases hc2:Sc.isL c with
     |true =>
      ext
      have:=hN (some (T2.T.str ⟨#[c]⟩))
      rw [hc2,Bool.not_true,if_neg (by decide),Option.toList_none,List.append_nil] at this
      exact this
     |false =>
      ext
      have:=hN (some (T2.T.str ⟨#[c]⟩))
      rw [hc2,Bool.not_false,if_pos rfl] at this
      exact ⟨Ml,this⟩
    ·ext
     refine zo hxa Sc.isL ?_
     cases hf:(Tm.tl x).all Sc.isL with
     |true =>
      ext
      refine hN _ _ ⟨_,rfl,rfl,λy hy=>hl y (List.mem_cons_of_mem _ hy),?_⟩
      rw [he]
      unfold Sc.isP
      rw [hf,Tm.len,decide_eq_true (by omega),decide_eq_true (p:=x.length<=12) (by omega)]
      rfl
     |false =>
      ext
      exact .mk (no (by rw [hf,Bool.and_false]))
   ·rw [decide_eq_false h2]
    ext
    exact .mk (no (by rw [Tm.len,decide_eq_false (p:=x.length<=12) (by omega),Bool.and_false];rfl))
  ·rw [decide_eq_false h1]
   ext
   exact .mk (no (by rw [Tm.len,decide_eq_false (by omega)];rfl))
 ·rintro LO S' ⟨u,rfl,rfl,hl,he⟩
  refine ⟨trivial,?_⟩
  rw [he,List.all_nil] at hq
  ext
  exact .mk hq
def due (ms:Ms) (n:Int):List (Str×Int):=ms.map λa=>(a.1,wrt a.2 n)
theorem eO (ms:Ms) (n:Int):(due ms n).map (·.1)=ms.map (·.1):=by unfold due;rw [List.map_map];rfl
theorem jv (ms:Ms) (n:Int) (z:Str):look (due ms n) z=(look ms z).map λm=>wrt m n:=se (λm=>wrt m n) z ms
theorem gM (c n:Int):wrt (c,n) n=c:=by simp [wrt]
theorem mE {m:Int×Int}{n:Int}(h:0<=m.1):0<=wrt m n:=Int.ediv_nonneg h (Int.le_of_lt (Int.pow_pos (by decide)))
theorem oU {m:Int×Int}{n:Int}(h:0<=m.1):wrt m n<=m.1:=Int.ediv_le_self _ h
theorem B2 {m:Int×Int}{n t:Int}(h:m.2<=n) (ht:0<=t):wrt m (n+t)=wrt m n / 2 ^ t.toNat:=by
 unfold wrt
 rw [Int.ediv_ediv_of_nonneg (Int.le_of_lt (Int.pow_pos (by decide))),<- Int.pow_add]
 congr 2
 omega
theorem B3 {v t:Int}(h0:0<=v) (h1:v<2 ^ 60) (ht:0<=t):v / 2 ^ t.toNat=v / 2 ^ (min t 60).toNat:=by
 by_cases e:t<=60
 ·rw [Int.min_eq_left e]
 ·rw [Int.min_eq_right (by omega),show (60:Int).toNat=60 from rfl,Int.ediv_eq_zero_of_lt h0 h1]
  refine Int.ediv_eq_zero_of_lt h0 (Int.lt_of_lt_of_le h1 ?_)
  have:(60:Nat)<=t.toNat:=by omega
  exact_mod_cast Nat.pow_le_pow_right (by decide:0<2) this
theorem HF {pre NH:List (Str×Int)}{z:Str}{v x:Int}(h1:z∉pre.map (·.1)) (h2:z∉NH.map (·.1)):pu (pre++(z,v)::NH) z x=pre++(z,x)::NH:=by
 have q:∀ l:List (Str×Int),z∉l.map (·.1)->l.map (λa=>if a.1=z then (a.1,x) else a)=l:=λl hl=>by
  conv=>rhs;rw [<- List.map_id l]
  refine List.map_congr_left λa ha=>?_
  rw [if_neg λe=>hl (by rw [<- e];exact List.mem_map_of_mem ha)];rfl
 unfold pu
 rw [if_pos (by simp),List.map_append,List.map_cons,q pre h1,q NH h2,if_pos rfl]
def uc:WSp:=λts S Q=>∃ e t,∃ ds:List (Str×Int),ts=[.ref e,.int t]/\S e=some (.dK (kt T2.T.int ds))/\(ds.map (·.1)).Nodup/\ds.length<=300/\0<=t/\t<=1000000/\Q .non (put S e (.dK (kt T2.T.int (ds.map λa=>(a.1,a.2 / 2 ^ (min t 60).toNat)))))
theorem qg:FnScope ["_law_table","_law_times_here","_law_power","_law_k","_law_name"] iS (av ja):=by nofun
theorem B4 (F:!"_law_halve" ja) (T:!0):!1 f fd iS uc:=by
 exists qg
 refine ⟨_,((aj (az 2 nd af) (aj (cD PassesOwn.never rfl (dB (by rfl) T.range (aJ (vW rfl) T.min PyProof.Rows.boot_min (ac (aa 1) (ac af ae)))) (aW 3 nd) (ag (az 2 nd (aC (d5 false) (aa 2) af)))) (ag (cD PassesOwn.never rfl (cB rfl (iA (Dx w false rfl rfl) (by rfl) T.list PyProof.Rows.boot_list (ac (aa 0) ae))) (aW 4 nd) (ag (bu (aC di (aM w (aa 0) (aa 4)) (aa 2)) (bA (aa 0) (aa 4) (cu (bq hr)))))))))),aB λv hu ts S Q h=>?_⟩
 obtain ⟨e,t,ds,rfl,he,hn0,hdl,ht0,ht1,hq⟩:=h
 ac_nf
 ext
 rw [show (if (60:Int)<t then (60:Int) else t)=min t 60 by split<;>omega]
 refine fD (λj LO S'=>∃ u,S'=S/\LO=[some (.ref e),some (.int t),some (.int (2 ^ j)),u,none]) ⟨none,rfl,rfl⟩ ?_ ?_
 ·rintro j LO S' N2 hj ⟨u,rfl,rfl⟩ Sl
  refine ⟨trivial,?_⟩
  ext
  exact Sl _ _ ⟨_,rfl,by rw [Int.pow_succ]⟩
 rintro LO S' ⟨u,rfl,rfl⟩
 refine ⟨trivial,?_⟩
 have hpw:(0:Int)<2 ^ (min t 60).toNat:=Int.pow_pos (by decide)
 have SK:(2:Int) ^ (min t 60).toNat<18446744073709551616:=by
  have h1:(min t 60).toNat<=60:=by omega
  have h2:(2:Nat) ^ (min t 60).toNat<=2 ^ 60:=Nat.pow_le_pow_right (by decide) h1
  have h3:((2:Int) ^ (min t 60).toNat)=((2 ^ (min t 60).toNat:Nat):Int):=by push_cast;rfl
  rw [h3]
  have:(2:Nat) ^ 60=1152921504606846976:=by decide
  omega
 generalize (2:Int) ^ (min t 60).toNat=pw at hpw SK hq ⊢
 ext
 refine DC he ?_
 rw [show (kt T2.T.int ds).map (λkv=>keyT kv.1)=ds.map (λa=>T2.T.str a.1) by unfold kt;rw [List.map_map];rfl]
 ext
 refine fL (λrest LO S2=>∃ pre v,pre++rest=ds/\S2=put S' e (.dK (kt T2.T.int (pre.map (λa=>(a.1,a.2 / pw))++rest)))/\LO=[some (.ref e),some (.int t),some (.int pw),u,v]) ⟨[],none,rfl,(js he).symm,rfl⟩ ?_ ?_
 ·rintro a rest LO S2 N ⟨pre,v,Nq,rfl,rfl⟩ hN
  refine ⟨trivial,?_⟩
  have Qs:=hn0
  rw [<- Nq,List.map_append,List.map_cons,List.nodup_append,List.nodup_cons] at Qs
  have n1:a.1∉(pre.map λa=>(a.1,a.2 / pw)).map (·.1):=by
   rw [List.map_map]
   exact λh=>Qs.2.2 a.1 h a.1 (List.mem_cons_self ..) rfl
  have n2:a.1∉rest.map (·.1):=Qs.2.1.1
  have hl1:pre.length+rest.length+1<=300:=by
   rw [<- Nq] at hdl
   simp only [List.length_append,List.length_cons] at hdl
   omega
  have lk:look (pre.map (λa=>(a.1,a.2 / pw))++a::rest) a.1=some a.2:=by
   refine tI (a:=a) ?_ (by simp)
   rw [List.map_append,List.map_cons,List.map_map,List.nodup_append,List.nodup_cons]
   exact Qs
  ext
  refine dL aF rfl (by rw [ba,lk];rfl) ?_
  ext
  refine eU (kts:=kt T2.T.int (pre.map (λa=>(a.1,a.2 / pw))++a::rest)) aF rfl (by simp only [fV,sizeLine_eq,List.length_append,List.length_map,List.length_cons];omega) ?_
  rw [bM,fU,show a=(a.1,a.2) from rfl,HF n1 n2]
  refine hN _ _ ⟨pre++[a],_,by rw [<- Nq];simp,?_,rfl⟩
  rw [List.map_append,List.append_assoc]
  rfl
 ·rintro LO S2 ⟨pre,v,Nq,rfl,rfl⟩
  rw [List.append_nil] at Nq
  rw [Nq,List.append_nil]
  refine ⟨trivial,?_⟩
  ext
  exact .mk hq
def kv (ds:List (List Key×Int)):List (List Key×T2.T):=ds.map λa=>(a.1,.int a.2)
def lkI (ds:List (List Key×Int)) (k:List Key):Option Int:=(ds.find? λa=>decide (a.1=k)).map (·.2)
noncomputable def puI (ds:List (List Key×Int)) (k:List Key) (x:Int):List (List Key×Int):=if (ds.any λa=>decide (a.1=k))=true then ds.map (λa=>if a.1=k then (a.1,x) else a) else ds++[(k,x)]
theorem vx {ds:List (List Key×Int)}{k:List Key}:aP (kv ds) k=(lkI ds k).map T2.T.int:=by
 unfold aP kv lkI
 rw [List.find?_map]
 simp only [Function.comp_def,Option.map_map]
theorem vy {ds:List (List Key×Int)}:(kv ds).length=ds.length:=by unfold kv;rw [List.length_map]
theorem vA {ds:List (List Key×Int)}{k:List Key}{x:Int}:cF (kv ds) k (.int x)=kv (puI ds k x):=by
 unfold cF kv puI
 rw [List.any_map]
 simp only [Function.comp_def]
 split
 ·rw [List.map_map,List.map_map]
  refine List.map_congr_left λx _=>?_
  simp only [Function.comp_def]
  split<;>rfl
 ·rw [List.map_append];rfl
theorem HG {ds:List (List Key×Int)}{a:List Key×Int}(h:(ds.map (·.1)).Nodup) (ha:a∈ds):lkI ds a.1=some a.2:=by
 unfold lkI
 induction ds with
 |nil=>cases ha
 |cons b l ih =>
  rw [List.map_cons,List.nodup_cons] at h
  rw [List.find?_cons]
  rcases List.mem_cons.mp ha with rfl|ha
  ·rw [decide_eq_true rfl];rfl
  ·rw [decide_eq_false λe=>h.1 (by rw [e];exact List.mem_map_of_mem ha)]
   exact ih h.2 ha
theorem EE {pre NH:List (List Key×Int)}{z:List Key}{v x:Int}(h1:z∉pre.map (·.1)) (h2:z∉NH.map (·.1)):puI (pre++(z,v)::NH) z x=pre++(z,x)::NH:=by
 have q:∀ l:List (List Key×Int),z∉l.map (·.1)->l.map (λa=>if a.1=z then (a.1,x) else a)=l:=λl hl=>by
  conv=>rhs;rw [<- List.map_id l]
  refine List.map_congr_left λa ha=>?_
  rw [if_neg λe=>hl (by rw [<- e];exact List.mem_map_of_mem ha)];rfl
 unfold puI
 rw [if_pos (by simp),List.map_append,List.map_cons,q pre h1,q NH h2,if_pos rfl]
theorem nU:∀ ks:List Key,d8 (fo ks)=some ks
 |[]=>rfl
 |k::ks=>by
  have ih:d7 (ks.map keyT)=some ks:=nU ks
  show d7 (keyT k::ks.map keyT)=_
  unfold d7
  rw [ih]
  rcases k with k|k<;>rfl
def su:WSp:=λts S Q=>∃ e t,∃ ds:List (List Key×Int),ts=[.ref e,.int t]/\S e=some (.dT (kv ds))/\(ds.map (·.1)).Nodup/\ds.length<=1000/\0<=t/\t<=1000000/\Q .non (put S e (.dT (kv (ds.map λa=>(a.1,a.2 / 2 ^ (min t 60).toNat)))))
theorem Ar (F:!"_law_halve" ja) (T:!0):!1 f fd iS su:=by
 exists qg
 refine ⟨_,((aj (az 2 nd af) (aj (cD PassesOwn.never rfl (dB (by rfl) T.range (aJ (vW rfl) T.min PyProof.Rows.boot_min (ac (aa 1) (ac af ae)))) (aW 3 nd) (ag (az 2 nd (aC (d5 false) (aa 2) af)))) (ag (cD PassesOwn.never rfl (cB rfl (iA (DR false rfl) (by rfl) T.list PyProof.Rows.boot_list (ac (aa 0) ae))) (aW 4 nd) (ag (bu (aC di (J6 (bq hr) (aa 0) (aa 4) (λ_ _=>rfl)) (aa 2)) (bA (aa 0) (aa 4) (ow (bq hr)))))))))),aB λv hu ts S Q h=>?_⟩
 obtain ⟨e,t,ds,rfl,he,hn0,hdl,ht0,ht1,hq⟩:=h
 ac_nf
 ext
 rw [show (if (60:Int)<t then (60:Int) else t)=min t 60 by split<;>omega]
 refine fD (λj LO S'=>∃ u,S'=S/\LO=[some (.ref e),some (.int t),some (.int (2 ^ j)),u,none]) ⟨none,rfl,rfl⟩ ?_ ?_
 ·rintro j LO S' N2 hj ⟨u,rfl,rfl⟩ Sl
  refine ⟨trivial,?_⟩
  ext
  exact Sl _ _ ⟨_,rfl,by rw [Int.pow_succ]⟩
 rintro LO S' ⟨u,rfl,rfl⟩
 refine ⟨trivial,?_⟩
 have hpw:(0:Int)<2 ^ (min t 60).toNat:=Int.pow_pos (by decide)
 have SK:(2:Int) ^ (min t 60).toNat<18446744073709551616:=by
  have h1:(min t 60).toNat<=60:=by omega
  have h2:(2:Nat) ^ (min t 60).toNat<=2 ^ 60:=Nat.pow_le_pow_right (by decide) h1
  have h3:((2:Int) ^ (min t 60).toNat)=((2 ^ (min t 60).toNat:Nat):Int):=by push_cast;rfl
  rw [h3]
  have:(2:Nat) ^ 60=1152921504606846976:=by decide
  omega
 generalize (2:Int) ^ (min t 60).toNat=pw at hpw SK hq ⊢
 ext
 refine DS he ?_
 rw [show (kv ds).map (λkv=>fo kv.1)=ds.map (λa=>fo a.1) by unfold kv;rw [List.map_map];rfl]
 ext
 refine fL (λrest LO S2=>∃ pre v,pre++rest=ds/\S2=put S' e (.dT (kv (pre.map (λa=>(a.1,a.2 / pw))++rest)))/\LO=[some (.ref e),some (.int t),some (.int pw),u,v]) ⟨[],none,rfl,(js he).symm,rfl⟩ ?_ ?_
 ·rintro a rest LO S2 N ⟨pre,v,Nq,rfl,rfl⟩ hN
  refine ⟨trivial,?_⟩
  have Qs:=hn0
  rw [<- Nq,List.map_append,List.map_cons,List.nodup_append,List.nodup_cons] at Qs
  have n1:a.1∉(pre.map λa=>(a.1,a.2 / pw)).map (·.1):=by
   rw [List.map_map]
   exact λh=>Qs.2.2 a.1 h a.1 (List.mem_cons_self ..) rfl
  have n2:a.1∉rest.map (·.1):=Qs.2.1.1
  have hl1:pre.length+rest.length+1<=1000:=by
   rw [<- Nq] at hdl
   simp only [List.length_append,List.length_cons] at hdl
   omega
  have lk:lkI (pre.map (λa=>(a.1,a.2 / pw))++a::rest) a.1=some a.2:=by
   refine HG (a:=a) ?_ (by simp)
   rw [List.map_append,List.map_cons,List.map_map,List.nodup_append,List.nodup_cons]
   exact Qs
  ext
  refine Hb (ks:=a.1) aF (nU _) (by rw [vx,lk];rfl) ?_
  ext
  refine oA (kts:=kv (pre.map (λa=>(a.1,a.2 / pw))++a::rest)) (ks:=a.1) aF (nU _) (by simp only [vy,sizeLine_eq,List.length_append,List.length_map,List.length_cons];omega) ?_
  rw [bM,vA,show a=(a.1,a.2) from rfl,EE n1 n2]
  refine hN _ _ ⟨pre++[a],_,by rw [<- Nq];simp,?_,rfl⟩
  rw [List.map_append,List.append_assoc]
  rfl
 ·rintro LO S2 ⟨pre,v,Nq,rfl,rfl⟩
  rw [List.append_nil] at Nq
  rw [Nq,List.append_nil]
  refine ⟨trivial,?_⟩
  ext
  exact .mk hq
theorem Kj {n:Nat}{ps:List Str}{s1 s2:WSp}(h1:FnOk P w K mg base CX0 n f fd ps (lSp K s1)) (h2:FnOk P w K mg base CX0 n f fd ps (lSp K s2)):FnOk P w K mg base CX0 n f fd ps (lSp K λts S Q=>s1 ts S Q\/s2 ts S Q):=by
 have sp:∀ {vs H Q E},lSp K (λts S Q=>s1 ts S Q\/s2 ts S Q) vs H Q E->lSp K s1 vs H Q E\/lSp K s2 vs H Q E:=by
  intro vs H Q E h
  obtain ⟨S,ts,Qt,sr,rs,h,b⟩:=h
  exact h.elim (λh=>.inl ⟨S,ts,Qt,sr,rs,h,b⟩) λh=>.inr ⟨S,ts,Qt,sr,rs,h,b⟩
 exact ⟨λvs H Q E h=>(sp h).elim (h1.1 vs H Q E) (h2.1 vs H Q E),λA o s H args us vs Q E a b c d h=>(sp h).elim (h1.2 A o s H args us vs Q E a b c d) (h2.2 A o s H args us vs Q E a b c d)⟩
structure Bk where
 (t l o v s q c:Addr)
def duP (ps:Pm) (i:Int):List (List Key×Int):=ps.map λx=>(x.1,wrt x.2 i)
noncomputable def reO (o v:Addr):O:=.dK [(.inr "own",.ref o),(.inr "hidden",.ref v)]
noncomputable def stO (q c:Addr) (m:Int) (x:Str):O:=.dK [(.inr "many",.int m),(.inr "pairs",.ref q),(.inr "typed",.str x),(.inr "line",.ref c)]
def bok (B:Bk) (m:Int) (a:Ab):List (Addr×O) :=
 [(B.t,.dK (kt T2.T.int (due a.hs a.k))),(B.l,reO B.o B.v),(B.o,.dK (kt T2.T.int (due a.ms a.n))),(B.v,.dK (kt T2.T.bl a.vs)),(B.s,stO B.q B.c m a.x),(B.q,.dT (kv (duP a.ps a.i))),(B.c,.lst (a.ln.map T2.T.str))]
section
variable {S:Sto}{Q:T2.T->Sto->Prop}{w:World}{l o v s q c:Addr}{m:Int}{x:Str}
theorem LI (e:S l=some (reO o v)) (h:Q (.ref o) S):cM w (.ref l) (.str "own") S Q:=dL e rfl (by rfl) h
theorem LH (e:S l=some (reO o v)) (h:Q (.ref v) S):cM w (.ref l) (.str "hidden") S Q:=dL e rfl (by rfl) h
theorem LG (e:S s=some (stO q c m x)) (h:Q (.int m) S):cM w (.ref s) (.str "many") S Q:=dL e rfl (by rfl) h
theorem LF (e:S s=some (stO q c m x)) (h:Q (.ref q) S):cM w (.ref s) (.str "pairs") S Q:=dL e rfl (by rfl) h
theorem LD (e:S s=some (stO q c m x)) (h:Q (.str x) S):cM w (.ref s) (.str "typed") S Q:=dL e rfl (by rfl) h
theorem LC (e:S s=some (stO q c m x)) (h:Q (.ref c) S):cM w (.ref s) (.str "line") S Q:=dL e rfl (by rfl) h
end
noncomputable def kq (a:R4):Ky:=.cons (.i (if (!a.2.2.2)=true then 1 else 0)) (.cons (.i (0 - a.2.1)) (.cons (.i (0 - a.2.2.1)) (.cons (.s a.1) .nil)))
noncomputable def uq:T2.T->Ky
 |.tup [.int i,.int j,.int k,.str z]=>.cons (.i i) (.cons (.i j) (.cons (.i k) (.cons (.s z) .nil)))
 |_=>.nil
theorem Kk {a b:R4}(h:Ky.lt (kq b) (kq a)=false):Ky.lt (k4 b) (k4 a)=false:=by
 obtain ⟨z,p,w,o⟩:=a
 obtain ⟨z',p',w',o'⟩:=b
 unfold kq at h
 unfold k4 rk ky
 simp only [Ky.bH,Ky.bZ,Ky.b0,Ky.i.injEq,Ky.s.injEq,Ky.tt.injEq,Ky.cons.injEq,and_true] at h ⊢
 by_cases e1:o'=o
 ·subst e1
  simp only [if_true] at h ⊢
  by_cases e2:p'=p
  ·subst e2
   simp only [if_true,true_and] at h ⊢
   by_cases e3:w'=w
   ·subst e3
    simp only [if_true,true_and] at h ⊢
    by_cases e4:z'=z
    ·simp only [e4,if_true] at h ⊢;exact h
    ·simp only [e4,if_false] at h ⊢;exact h
   ·simp only [e3,if_false,false_and,show ¬ (0 - w'=0 - w) by omega,show ¬ (-w'=-w) by omega,decide_eq_false_iff_not] at h ⊢;omega
  ·simp only [e2,if_false,false_and,show ¬ (0 - p'=0 - p) by omega,show ¬ (-p'=-p) by omega,decide_eq_false_iff_not] at h ⊢;omega
 ·cases o<;>cases o'<;>simp_all
theorem Kl (r:R4):T2.T.tup [.str r.1,.int (0 - (0 - r.2.1)),.int (0 - (0 - r.2.2.1)),.bl (false ^^ decide ((if (!r.2.2.2)=true then (1:Int) else 0)=0))]=r4 r:=by
 obtain ⟨z,p,w,o⟩:=r
 unfold r4
 dsimp only
 rw [show 0 - (0 - p)=p by omega,show 0 - (0 - w)=w by omega]
 cases o<;>rfl
def rwo (a:Ab) (o:Bool) (ds:List (Str×Int)):List R4:=ds.filterMap λd=>if (PySem.Txt.startswith d.1 a.x&&!((look a.vs d.1).isSome || (!o&&(look a.ms d.1).isSome)))=true then some (d.1,pw a.ps a.i (lst a.ln) d.1,d.2,o) else none
theorem Km {a:Ab}{o:Bool}{d:Str×Int}{ds:List (Str×Int)}:rwo a o (d::ds)=(if (PySem.Txt.startswith d.1 a.x&&!((look a.vs d.1).isSome || (!o&&(look a.ms d.1).isSome)))=true then [(d.1,pw a.ps a.i (lst a.ln) d.1,d.2,o)] else [])++rwo a o ds:=by
 unfold rwo
 rw [List.filterMap_cons]
 by_cases e:(PySem.Txt.startswith d.1 a.x&&!((look a.vs d.1).isSome || (!o&&(look a.ms d.1).isSome)))=true
 ·rw [if_pos e,if_pos e];rfl
 ·rw [if_neg e,if_neg e];rfl
theorem HH {ps:Pm}{i:Int}{k:List Key}:lkI (duP ps i) k=(lkP ps k).map λm=>wrt m i:=by
 unfold lkI duP lkP
 rw [List.find?_map]
 simp only [Function.comp_def,Option.map_map]
theorem vB {ps:Pm}{i:Int}{b z:Str}:(aP (kv (duP ps i)) (pk b z)).getD (.int 0)=.int (pw ps i b z):=by
 rw [vx,HH]
 unfold pw lkD
 cases lkP ps (pk b z) with
 |none=>rw [Option.getD_none,gM];rfl
 |some m=>rfl
theorem EF {a:Ab}:rwo a true (due a.ms a.n)=rows a.ps a.i (lst a.ln) (wo true (gB a.ms a.vs a.n a.x)):=by
 unfold rwo rows wo gB rtd fu due
 rw [gw,List.filter_map,List.filter_map,List.filter_filter,List.map_map,List.map_map,List.map_map]
 rw [show (List.filter ((λd:Str×Int=>PySem.Txt.startswith d.1 a.x&&!((look a.vs d.1).isSome || (!true&&(look a.ms d.1).isSome))) ∘ λy:Str×Int×Int=>(y.1,wrt y.2 a.n)) a.ms)=List.filter (λy=>((λr:Rt=>(look a.vs r.1).isNone) ∘ λy:Str×Int×Int=>(y.1,wrt y.2 a.n)) y&&PySem.Txt.startswith y.1 a.x) a.ms by
  refine List.filter_congr λy _=>?_
  simp only [Function.comp_def,Bool.not_true,Bool.false_and,Bool.or_false]
  rw [Bool.and_comm];cases look a.vs y.1<;>rfl]
 rfl
theorem EG {a:Ab}:rwo a false (due a.hs a.k)=rows a.ps a.i (lst a.ln) (wo false (gC a.hs a.ms a.vs a.k a.x)):=by
 unfold rwo rows wo gC rtd fu due
 rw [gw,List.filter_map,List.filter_map,List.filter_filter,List.map_map,List.map_map,List.map_map]
 rw [show (List.filter ((λd:Str×Int=>PySem.Txt.startswith d.1 a.x&&!((look a.vs d.1).isSome || (!false&&(look a.ms d.1).isSome))) ∘ λy:Str×Int×Int=>(y.1,wrt y.2 a.k)) a.hs)=List.filter (λy=>((λr:Rt=>(look a.vs r.1).isNone&&(look a.ms r.1).isNone) ∘ λy:Str×Int×Int=>(y.1,wrt y.2 a.k)) y&&PySem.Txt.startswith y.1 a.x) a.hs by
  refine List.filter_congr λy _=>?_
  simp only [Function.comp_def,Bool.not_false,Bool.true_and]
  rw [Bool.and_comm];cases look a.vs y.1<;>cases look a.ms y.1<;>rfl]
 rfl
theorem sv (a:Ab):(rwo a true (due a.ms a.n)++rwo a false (due a.hs a.k)).Perm (rows a.ps a.i (lst a.ln) (bI a.hs a.ms a.vs a.k a.n a.x)):=by
 rw [EF,EG]
 unfold bI rows wo
 rw [List.map_append]
 exact (((dU _).symm.map _).map _).append (((dU _).symm.map _).map _)
def kW:WSp:=λts S Q=>∃ B m a,ts=[.ref B.t,.ref B.l,.ref B.s]/\At S (bok B m a)/\Okk a/\0<=m/\((srt k4 (rows a.ps a.i (lst a.ln) (bI a.hs a.ms a.vs a.k a.n a.x))).Perm (rows a.ps a.i (lst a.ln) (bI a.hs a.ms a.vs a.k a.n a.x))->Q (.lst ((a.told m).map r4)) S)
theorem xN:FnScope ["_law_house","_law_layer","_law_typist","_law_before","_law_rows","_law_own","_law_table","_law_word_here","_law_hid"] eJ (av lc):=by nofun
theorem Kn (F:!"_law_told_due" lc) (T:!0):!3 f fd eJ kW:=by
 exists xN
 refine ⟨_,((aj (az 3 nd ai) (aj (ao (aI gA (aJ (a8 rfl) T.len PySem.boot_len (ac (aM w (aa 2) ai) ae)) af) (ag (az 3 nd (ak (aM w (aa 2) ai) (cX af)))) au) (aj (az 4 nd (gZ ae)) (aj (cD PassesOwn.never rfl (cB rfl (a9 (ac (aL (ac bP (ac (aM w (aa 1) ai) ae))) (ac (aL (ac bP (ac (aa 0) ae))) ae)))) (jT (λh=>jy (n:=2) rfl rfl h) (dD (aW 5 nd) (dD (aW 6 nd) jB (λh1 h2=>dC h1 h2)) (λh1 h2=>dC h1 h2))) (ag (JL w rfl (cD PassesOwn.never rfl (GD w rfl (aa 6)) (aW 7 nd) (aj (az 8 nd (o9 (bN (bJ w rfl) (aa 7) (aM w (aa 1) ai) (by with_unfolding_all rfl)) (cC (db (gY (aa 5)) (cC (bN (bJ w rfl) (aa 7) (aM w (aa 1) ai) (by with_unfolding_all rfl))))))) (ag (ao (dq (iq (a0 (bK PySem.F.plainAttrs_str PySem.F.slot_str_startswith PySem.F.type_str_startswith rS (aa 7) (ac (aM w (aa 2) ai) ae))) (gX (br (a0 (aa 8)))))) (ag (bd (bK PySem.F.plainAttrs_list PySem.F.slot_list_append PySem.F.type_list_append jo (aa 4) (ac (aL (ac (iA IJ (by rfl) T.int PyProof.Rows.boot_int (ac (gY (aa 5)) ae)) (ac (aC d4 af (bK PySem.F.plainAttrs_dict PySem.F.slot_dict_get PySem.F.type_dict_get (jX (bq hr)) (aM w (aa 2) ai) (ac (aL (ac (aa 3) (ac (aa 7) ae))) (ac af ae)))) (ac (aC d4 af (aM w (aa 6) (aa 7))) (ac (aa 7) ae))))) ae)))) au))))))) (ag (ap (cU false ["_law_row"] 1 [] rfl (cB rfl (dX false rfl (aJ (Gz false rfl hr.m) T.sorted PyProof.Rows.boot_sorted (ac (aa 4) ae)) eP (dE (aM w (aa 2) ai)))) (λ_ _ _ _=>(aW 0 (show List.Nodup (["_law_row"]:List Str) from by decide +kernel))) (λ_ _ _ _=>cQ) (λ_ _ _ _=>(aL (ac (ak (aa 0) af) (ac (aC d4 af (ak (aa 0) af)) (ac (aC d4 af (ak (aa 0) af)) (ac (bN (eB rfl hr.units) (ak (aa 0) af) af) ae)))))))))))))),aB λv hu ts S Q h=>?_⟩
 obtain ⟨B,m,a,rfl,hA,ok,hm,hq⟩:=h
 have et:=hA.get 0 rfl
 have el:=hA.get 1 rfl
 have eo:=hA.get 2 rfl
 have ev:=hA.get 3 rfl
 have es:=hA.get 4 rfl
 have eq:=hA.get 5 rfl
 have ec:=hA.get 6 rfl
 have Mr:=ok.ok.le
 ac_nf
 refine cb (λLO S'=>LO=[some (.ref B.t),some (.ref B.l),some (.ref B.s),some (.str ""),none,none,none,none,none]/\S'=S) ?_ ?_
 ·intro X hX
  ext
  exact hX _ _ ⟨rfl,rfl⟩
 rintro LO S' ⟨rfl,rfl⟩
 refine cb (λLO S2=>LO=[some (.ref B.t),some (.ref B.l),some (.ref B.s),some (.str (lst a.ln)),none,none,none,none,none]/\S2=S') ?_ ?_
 ·intro X hX
  ext
  rcases List.eq_nil_or_concat a.ln with e|⟨l0,z,e⟩
  ·rw [e] at hX ⊢
   ext
   exact hX _ _ ⟨rfl,rfl⟩
  ·rw [List.concat_eq_append] at e
   rw [e] at hX ec ⊢
   rw [show lst (l0++[z])=z by unfold lst;simp] at hX
   refine gF (decide_eq_true (by simp)) ?_
   ext
   refine iz ec (t:=.str z) (by rw [List.map_append];exact m8 _ _) ?_
   ext
   exact hX _ _ ⟨rfl,rfl⟩
 rintro LO S2 ⟨rfl,rfl⟩
 ext
 intro p hp
 have plp:B.l≠p:=cG el hp
 have psp:B.s≠p:=cG es hp
 have tot:(rwo a true (due a.ms a.n)++rwo a false (due a.hs a.k)).length<60:=by
  rw [(sv a).length_eq]
  unfold rows
  rw [List.length_map]
  have:=tW (k:=a.k) (n:=a.n) (hs:=a.hs) (ms:=a.ms) (vs:=a.vs) (b:=a.x)
  omega
 ext
 refine fL (ls:=[(true,B.o,due a.ms a.n),(false,B.t,due a.hs a.k)]) (f:=λx:Bool×Addr×List (Str×Int)=>T2.T.tup [.bl x.1,.ref x.2.1]) (λrest LO S'=>∃ rs u5 u6 u7 u8,LO=[some (.ref B.t),some (.ref B.l),some (.ref B.s),some (.str (lst a.ln)),some (.ref p),u5,u6,u7,u8]/\S'=put S2 p (.lst (rs.map λa=>tre (kq a)))/\rs++rest.flatMap (λx=>rwo a x.1 x.2.2)=rwo a true (due a.ms a.n)++rwo a false (due a.hs a.k)/\∀ x∈rest,S2 x.2.1=some (.dK (kt T2.T.int x.2.2))/\(x.2.2.map (·.1)).Nodup/\B.l≠x.2.1/\B.v≠x.2.1/\B.s≠x.2.1/\B.q≠x.2.1/\(x.1=false->B.o≠x.2.1)) ⟨[],_,_,_,_,rfl,rfl,by simp,?_⟩ ?_ ?_
 ·intro x hx
  simp only [List.mem_cons,List.not_mem_nil,or_false] at hx
  rcases hx with rfl|rfl
  ·exact ⟨eo,by rw [eO];exact ok.ok.o.nd,hA.ne 1 2 (by decide) rfl rfl,hA.ne 3 2 (by decide) rfl rfl,hA.ne 4 2 (by decide) rfl rfl,hA.ne 5 2 (by decide) rfl rfl,λe=>by cases e⟩
  ·exact ⟨et,by rw [eO];exact ok.ok.h.nd,hA.ne 1 0 (by decide) rfl rfl,hA.ne 3 0 (by decide) rfl rfl,hA.ne 4 0 (by decide) rfl rfl,hA.ne 5 0 (by decide) rfl rfl,λ_=>hA.ne 2 0 (by decide) rfl rfl⟩
 ·rintro ⟨o,d,ds⟩ rest LO S' N ⟨rs,u5,u6,u7,u8,rfl,rfl,Qw,hr⟩ hN
  obtain ⟨ed,Qs,nl,nv,ns,nq,no⟩:=hr _ List.mem_cons_self
  dsimp only at ed Qs nl nv ns nq no
  have ndp:d≠p:=cG ed hp
  rw [List.flatMap_cons] at Qw
  refine ⟨trivial,?_⟩
  ext
  intro od kvs
  rw [show (kt T2.T.int ds).map (λkv=>keyT kv.1)=ds.map (λa=>T2.T.str a.1) by unfold kt;rw [List.map_map];rfl]
  refine fL (λr2 LO S'=>∃ QK u7 u8,LO=[some (.ref B.t),some (.ref B.l),some (.ref B.s),some (.str (lst a.ln)),some (.ref p),some (.bl o),some (.ref d),u7,u8]/\S'=put (put S2 p (.lst (QK.map λa=>tre (kq a)))) d (.fK w od kvs (kt T2.T.int ds))/\QK++rwo a o r2=rs++rwo a o ds/\∀ y∈r2,y∈ds) ⟨rs,_,_,rfl,rfl,rfl,λ_ h=>h⟩ ?_ ?_
  ·rintro y r2 LO S' N2 ⟨QK,u7,u8,rfl,rfl,he,RZ⟩ Sl
   refine ⟨aF,?_⟩
   have hy:=RZ y List.mem_cons_self
   rw [Km] at he
   have rl:QK.length<60:=by
    rw [<- List.append_assoc,<- he] at Qw
    have:=congrArg List.length Qw
    simp only [List.length_append] at this tot
    omega
   have rd:∀ (b:Addr) (u:O),S2 b=some u->b≠d->put (put S2 p (.lst (QK.map λa=>tre (kq a)))) d (.fK w od kvs (kt T2.T.int ds)) b=some u:=λb u e n=>(aA n).trans ((aA (cG e hp)).trans e)
   have xl:=rd _ _ el nl
   have xv:=rd _ _ ev nv
   have xs:=rd _ _ es ns
   have xq:=rd _ _ eq nq
   have xo:o=false->_:=λe=>rd _ _ eo (no e)
   have xd:put (put S2 p (.lst (QK.map λa=>tre (kq a)))) d (.fK w od kvs (kt T2.T.int ds)) d=some (.fK w od kvs (kt T2.T.int ds)):=aF
   have xp:put (put S2 p (.lst (QK.map λa=>tre (kq a)))) d (.fK w od kvs (kt T2.T.int ds)) p=some (.lst (QK.map λa=>tre (kq a))):=(aA (Ne.symm ndp)).trans aF
   have xx:∀ l',put (put (put S2 p (.lst (QK.map λa=>tre (kq a)))) d (.fK w od kvs (kt T2.T.int ds))) p (.lst l')=put (put S2 p (.lst l')) d (.fK w od kvs (kt T2.T.int ds)):=λl'=>by rw [A2 ndp,bM]
   generalize hSx:put (put S2 p (.lst (QK.map λa=>tre (kq a)))) d (.fK w od kvs (kt T2.T.int ds))=Sx at xl xv xs xq xo xd xp xx ⊢
   refine pf rfl ?_
   dsimp only
   refine cb (λLO S3=>LO=[some (.ref B.t),some (.ref B.l),some (.ref B.s),some (.str (lst a.ln)),some (.ref p),some (.bl o),some (.ref d),some (.str y.1),some (.bl ((look a.vs y.1).isSome || (!o&&(look a.ms y.1).isSome)))]/\S3=Sx) ?_ ?_
   ·intro X hX
    ext
    refine bG xv rfl ?_
    rw [ba,Option.isSome_map,Bool.false_xor]
    cases hv:(look a.vs y.1).isSome with
    |true =>
     rw [hv,Bool.true_or] at hX
     ext
     exact hX _ _ ⟨rfl,rfl⟩
    |false =>
     rw [hv,Bool.false_or] at hX
     ext
     cases o with
     |true =>
      ext
      exact hX _ _ ⟨rfl,rfl⟩
     |false =>
      have xo:=xo rfl
      ext
      refine bG xo rfl ?_
      rw [ba,jv,Option.isSome_map,Option.isSome_map,Bool.false_xor]
      ext
      exact hX _ _ ⟨rfl,rfl⟩
   rintro LO S3 ⟨rfl,rfl⟩
   ext
   have skip:(PySem.Txt.startswith y.1 a.x&&!((look a.vs y.1).isSome || (!o&&(look a.ms y.1).isSome)))=false->∀ u7 u8,N2 [some (.ref B.t),some (.ref B.l),some (.ref B.s),some (.str (lst a.ln)),some (.ref p),some (.bl o),some (.ref d),u7,u8] S3:=λe u7 u8=>by
    rw [e,if_neg (by decide),List.nil_append] at he
    exact Sl _ _ ⟨QK,_,_,rfl,hSx.symm,he,λz hz=>RZ z (List.mem_cons_of_mem _ hz)⟩
   refine ifB (λhs=>?_) λhs=>?_
   ·ext
    refine ifB (λhh=>?_) λhh=>?_
    ·ext
     refine jY (ks:=pk (lst a.ln) y.1) xq rfl ?_
     rw [vB]
     ext
     refine JQ xd rfl (by rw [ba,tI Qs hy];rfl) ?_
     ext
     refine jp xp (by rw [List.length_map,sizeLine_eq];omega) ?_
     show N2 _ _
     rw [xx]
     rw [if_pos (by rw [hs,hh];rfl)] at he
     rw [<- List.append_assoc] at he
     exact Sl _ _ ⟨QK++[(y.1,pw a.ps a.i (lst a.ln) y.1,y.2,o)],_,_,rfl,by rw [List.map_append];rfl,he,λz hz=>RZ z (List.mem_cons_of_mem _ hz)⟩
    ·ext
     exact skip (by rw [hs,hh];rfl) _ _
   ·ext
    exact skip (by rw [hs];rfl) _ _
  ·rintro LO S' ⟨QK,u7,u8,rfl,rfl,he,_⟩
   refine ⟨aF,?_⟩
   refine xm aF ?_
   show N _ _
   rw [bM,js ((aA ndp).trans ed)]
   refine hN _ _ ⟨QK,_,_,_,_,rfl,rfl,?_,λx hx=>hr x (List.mem_cons_of_mem _ hx)⟩
   rw [show rwo a o []=[] from rfl,List.append_nil] at he
   rw [he,List.append_assoc];exact Qw
 ·rintro LO S' ⟨rs,u5,u6,u7,u8,rfl,rfl,Qw,_⟩
  refine ⟨trivial,?_⟩
  ext
  rw [List.flatMap_nil,List.append_nil] at Qw
  have pr:=sv a
  rw [<- Qw] at pr tot
  refine GA kq uq (kq ("",0,0,true)) (ls:=rs) (by simp only [aT,aF]) (λa _=>rfl) (by omega) rfl (by decide) (λr hr=>⟨?_,rfl⟩) λl' p' hs=>?_
  ·have hr:=pr.mem_iff.mp hr
   unfold rows at hr
   obtain ⟨x,hx,rfl⟩:=List.mem_map.mp hr
   have:PyData.strOk x.1=true:=by
    rcases (tY hx).2 with ⟨mm,e⟩|⟨_,mm,e⟩
    ·exact Wm.iE (ok.ok.o.wd _ (As.cP e))
    ·exact Wm.iE (ok.ok.h.wd _ (As.cP e))
   simp [kq,S6.Ky.ok,S6.Ky.ok.isRow,this]
  ·have es2:=vq (κ:=k4) (k0:=k4 ("",0,0,true)) (λ_=>rfl) (λa b=>vp) (tV (vt ok.ok.h ok.ok.o)) (p'.trans pr) (hs.imp λh=>Kk h)
   have hl':=p'.length_eq
   ext
   rw [nE hm]
   refine c8 (ls:=l'.take m.toNat) (λr=>tre (kq r)) (λr=>some (r4 r)) [] trivial (by rw [List.length_take,sizeLine_eq];omega) (λr hr u LQ N Ml hN=>?_) ?_
   ·rw [show tre (kq r)=.tup [.int (if (!r.2.2.2)=true then 1 else 0),.int (0 - r.2.1),.int (0 - r.2.2.1),.str r.1] from rfl]
    ext
    rw [Kl]
    exact ⟨Ml,hN _⟩
   ·rw [show (l'.take m.toNat).filterMap (λr=>some (r4 r))=(a.told m).map r4 by unfold Ab.told tld;rw [<- es2,<- List.filterMap_eq_map];rfl]
    ext
    exact Fin.le (.put hp) (hq (by rw [<- es2];exact p'.trans pr))
theorem Ka {S:Sto}{Q:T2.T->Sto->Prop}{e:Addr}{ms:Ms}{k:Int}{z:Str}(h:S e=some (.dK (kt T2.T.int (due ms k)))) (q:Q (.bl (look ms z).isSome) S):eG w false (.str z) (.ref e) S Q:=bG h rfl (by rw [ba,jv,Option.isSome_map,Option.isSome_map,Bool.false_xor];exact q)
theorem J9 {S:Sto}{Q:T2.T->Sto->Prop}{e:Addr}{vs:List (Str×Bool)}{z:Str}(h:S e=some (.dK (kt T2.T.bl vs))) (q:Q (.bl (look vs z).isSome) S):eG w false (.str z) (.ref e) S Q:=bG h rfl (by rw [ba,Option.isSome_map,Bool.false_xor];exact q)
theorem J8 {S:Sto}{Q:T2.T->Sto->Prop}{e:Addr}{vs:List (Str×Bool)}{z:Str}(h:S e=some (.dK (kt T2.T.bl vs))) (q:Q (.bl !(look vs z).isSome) S):eG w true (.str z) (.ref e) S Q:=bG h rfl (by rw [ba,Option.isSome_map,Bool.true_xor];exact q)
def wz:WSp:=λts S Q=>∃ B m a d,ts=[.ref B.t,.ref B.l,.ref B.s,dT d]/\At S (bok B m a)/\Okk a/\0<=m/\OkD d/\Q (.str (nmR (rf m a d))) S
theorem xX:FnScope ["_law_house","_law_layer","_law_typist","_law_deed","_law_kind","_law_table","_law_there","_law_one"] vv5 (av lF):=by nofun
theorem HI (F:!"_law_refusal" lF) (T:!0) (NA:!1 f1 LW ["_law_text_here"] wy) (NB:Df K mg "_law_is_word" f1 LW ["_law_text_here"])
  (L5:!3 f2 Nd eJ kW) (L6:Df K mg "_law_told_due" f2 Nd eJ):!4 f fd vv5 wz:=by
 exists xX
 refine ⟨_,((aj (az 4 nd (ak (aa 3) af)) (aj (ao (aI (pJ rfl) (aa 4) (aL (ac ai (ac ai ae))) (by with_unfolding_all rfl)) (aj (az 5 nd (cw (ay hr (aa 4) ai) (aa 0) (aM w (aa 1) ai))) (aj (ao (br (a0 (ax NA NB hr.m (ac (ak (aa 3) af) ae)))) (ag (ap ai)) au) (ag (ap (cw (aI (bJ w rfl) (ak (aa 3) af) (aa 5) (by with_unfolding_all rfl)) ai ai))))) au) (aj (ao (dq (iK (ay hr (aa 4) ai) (io (ay hr (aa 4) ai)))) (ag (ap (cw (aI (bJ w rfl) (ak (aa 3) af) (aa 0) (by with_unfolding_all rfl)) ai ai))) au) (aj (ao (ay hr (aa 4) ai) (ag (ap (cw (aI (bJ w rfl) (ak (aa 3) af) (aM w (aa 1) ai) (by with_unfolding_all rfl)) ai ai))) au) (aj (ao (ay hr (aa 4) ai) (aj (ao (br (a0 (ax NA NB hr.m (ac (ak (aa 3) af) ae)))) (ag (ap ai)) au) (ag (ap (cw (aI (bJ w rfl) (ak (aa 3) af) (aM w (aa 1) ai) (by with_unfolding_all rfl)) ai ai)))) au) (aj (ao (ay hr (aa 4) ai) (ag (ap (cw (aI (bJ w rfl) (ak (aa 3) af) (aM w (aa 1) ai) (by with_unfolding_all rfl)) ai ai))) au) (aj (ao (ay hr (aa 4) ai) (aj (az 6 nd (o9 (bN (bJ w rfl) (ak (aa 3) af) (aa 0) (by with_unfolding_all rfl)) (cC (bN (bJ w rfl) (ak (aa 3) af) (aM w (aa 1) ai) (by with_unfolding_all rfl))))) (ag (ap (cw (dq (iq (a0 (aa 6)) (gX (aI (eN w rfl) (ak (aa 3) af) (aM w (aa 1) ai) (by with_unfolding_all rfl))))) ai ai)))) au) (aj (ao (ay hr (aa 4) ai) (aj (az 7 nd (db (bN (eB rfl hr.units) (aJ (a8 rfl) T.len PySem.boot_len (ac (ak (aa 3) af) ae)) af) (cC (bN (pJ rfl) (ak (aa 3) af) ai (by with_unfolding_all rfl))))) (ag (ap (cw (dq (iq (a0 (aa 7)) (gX (aI cI (aJ (a8 rfl) T.len PySem.boot_len (ac (aM w (aa 2) ai) ae)) af)))) ai ai)))) au) (aj (ao (ay hr (aa 4) ai) (ag (ap (cw (aI (pH rfl hr.units) (aM w (aa 2) ai) ai) ai ai))) au) (aj (ao (ay hr (aa 4) ai) (ag (ap (cw (gK cy cI af (ak (aa 3) af) (aJ (a8 rfl) T.len PySem.boot_len (ac (ax L5 L6 hr.m (ac (aa 0) (ac (aa 1) (ac (aa 2) ae)))) ae))) ai ai))) au) (ag (ap ai))))))))))))),aB λv hu ts S Q h=>?_⟩
 obtain ⟨B,m,a,d,rfl,hA,ok,hm,hd,hq⟩:=h
 have et:=hA.get 0 rfl
 have el:=hA.get 1 rfl
 have eo:=hA.get 2 rfl
 have ev:=hA.get 3 rfl
 have es:=hA.get 4 rfl
 have xl:=ok.xl
 ac_nf
 ext
 by_cases k0:kd d="put"
 ·obtain ⟨z,c,rfl⟩:=jL k0
  refine kT (.inl k0.symm) ?_
  ext
  refine ck k0 ?_
  ext
  refine ⟨z,rfl,hd.1,hd.2,?_⟩
  change Q (.str (nmR (if Wm.Wd z=false then 1 else if (look a.hs z).isSome then 2 else 0))) S at hq
  cases hz:Wm.Wd z<;>rw [hz] at hq
  ·ext
   exact .mk hq
  ext
  cases hb:(look a.hs z).isSome<;>rw [hb] at hq
  all_goals
   ext
   exact .mk hq
 by_cases k4:kd d="own"
 ·obtain ⟨z,c,rfl⟩:=ka k4
  refine kT (.inr k4.symm) ?_
  ext
  refine b5 k0 ?_
  ext
  refine ⟨z,rfl,hd.1,hd.2,?_⟩
  change Q (.str (nmR (if Wm.Wd z=false then 1 else if (look a.ms z).isSome then 2 else 0))) S at hq
  cases hz:Wm.Wd z<;>rw [hz] at hq
  ·ext
   exact .mk hq
  ext
  cases hb:(look a.ms z).isSome<;>rw [hb] at hq
  all_goals
   ext
   exact .mk hq
 refine xz k0 k4 ?_
 ext
 right
 ·obtain ⟨z,c,rfl⟩:=j9 k
  ext
  change Q (.str (nmR (if (look a.hs z).isSome then 0 else 3))) S at hq
  cases hb:(look a.hs z).isSome<;>rw [hb] at hq
  all_goals
   ext
   exact .mk hq
 ext
 right
 ·obtain ⟨z,rfl⟩:=ji k
  ext
  change Q (.str (nmR (if (look a.hs z).isSome then 0 else 3))) S at hq
  cases hb:(look a.hs z).isSome<;>rw [hb] at hq
  all_goals
   ext
   exact .mk hq
 ext
 right
 ·obtain ⟨z,rfl⟩:=jl k
  ext
  change Q (.str (nmR (if (look a.ms z).isSome then 0 else 3))) S at hq
  cases hb:(look a.ms z).isSome<;>rw [hb] at hq
  all_goals
   ext
   exact .mk hq
 ext
 right
 ·obtain ⟨z,rfl⟩:=jM k
  ext
  refine ⟨z,rfl,hd.1,hd.2,?_⟩
  change Q (.str (nmR (if Wm.Wd z=false then 1 else if (look a.vs z).isSome then 2 else 0))) S at hq
  cases hz:Wm.Wd z<;>rw [hz] at hq
  ·ext
   exact .mk hq
  ext
  cases hb:(look a.vs z).isSome<;>rw [hb] at hq
  all_goals
   ext
   exact .mk hq
 ext
 right
 ·obtain ⟨z,rfl⟩:=jt k
  ext
  change Q (.str (nmR (if (look a.vs z).isSome then 0 else 3))) S at hq
  cases hb:(look a.vs z).isSome<;>rw [hb] at hq
  all_goals
   ext
   exact .mk hq
 ext
 right
 ·obtain ⟨z,c,rfl⟩:=ju k
  ext
  change Q (.str (nmR (if (look a.vs z).isSome then 3 else if (look a.ms z).isSome\/(look a.hs z).isSome then 0 else 3))) S at hq
  have hid:∀ b:Bool,(b=true ↔ (look a.ms z).isSome=true\/(look a.hs z).isSome=true)->Q (.str (nmR (if (look a.vs z).isSome=true then 3 else if b=true then 0 else 3))) S:=λb hb=>by
   simp only [<- hb] at hq;exact hq
  clear hq
  cases h1:(look a.hs z).isSome
  ·ext
   cases h2:(look a.ms z).isSome
   ·have hq:=hid false (by rw [h1,h2];simp)
    rw [show (if (look a.vs z).isSome=true then 3 else if false=true then 0 else 3)=3 by split<;>rfl] at hq
    ext
    exact .mk hq
   ·have hq:=hid true (by rw [h1,h2];simp)
    ext
    cases h3:(look a.vs z).isSome<;>rw [h3] at hq
    all_goals
     ext
     exact .mk hq
  ·have hq:=hid true (by rw [h1];simp)
   ext
   cases h3:(look a.vs z).isSome<;>rw [h3] at hq
   all_goals
    ext
    exact .mk hq
 ext
 right
 ·obtain ⟨z,rfl⟩:=kb k
  have hz:=hd.1
  ext
  change Q (.str (nmR (if sgn z=false then 4 else if a.x.length<24 then 0 else 4))) S at hq
  unfold sgn at hq
  by_cases h1:(z.length:Int)=1
  ·refine ck h1 ?_
   rw [decide_eq_true h1,Bool.true_and] at hq
   ext
   refine uG ?_
   rw [Bool.false_xor]
   generalize (!(Builtin.Str.occurrences (Str.ofString "abcdefghijklmnopqrstuvwxyz ") z 0 (Str.ofString "abcdefghijklmnopqrstuvwxyz ").length 1).isEmpty)=bb at hq ⊢
   cases bb with
   |false =>
    ext
    exact .mk hq
   |true =>
    rw [if_neg (by decide)] at hq
    ext
    by_cases h3:a.x.length<24
    ·rw [if_pos h3] at hq
     refine gF (decide_eq_true (by omega)) ?_
     ext
     exact .mk hq
    ·rw [if_neg h3] at hq
     refine kU (decide_eq_false (by omega)) ?_
     ext
     exact .mk hq
  ·refine b5 h1 ?_
   rw [decide_eq_false h1,Bool.false_and,if_pos rfl] at hq
   ext
   exact .mk hq
 ext
 right
 ·obtain rfl:=jN k
  ext
  change Q (.str (nmR (if a.x="" then 4 else 0))) S at hq
  by_cases h1:a.x=Str.ofString ""
  ·rw [if_pos h1] at hq
   refine kU (by rw [decide_eq_true h1];rfl) ?_
   ext
   exact .mk hq
  ·rw [if_neg h1] at hq
   refine gF (by rw [decide_eq_false h1];rfl) ?_
   ext
   exact .mk hq
 ext
 right
 ·obtain ⟨i,rfl⟩:=jO k
  ext
  change Q (.str (nmR (if 0<=i/\i<(a.told m).length then 0 else 5))) S at hq
  by_cases h1:0<=i
  ·refine gF (decide_eq_true h1) ?_
   ext
   refine ⟨B,m,a,rfl,hA,ok,hm,λ_=>?_⟩
   ext
   by_cases h2:i<((a.told m).length:Int)
   ·rw [if_pos ⟨h1,h2⟩] at hq
    refine gF (decide_eq_true (by simpa using h2)) ?_
    ext
    exact .mk hq
   ·rw [if_neg (λh=>h2 h.2)] at hq
    refine kU (decide_eq_false (by simpa using h2)) ?_
    ext
    exact .mk hq
  ·refine kU (decide_eq_false h1) ?_
   rw [if_neg (λh=>h1 h.1)] at hq
   ext
   exact .mk hq
 ext
 have h0:rf m a d=0:=by cases d<;>first|rfl|exact absurd rfl (by assumption)
 rw [h0] at hq
 exact .mk hq
theorem ud (ms:Ms) (n c:Int) (z:Str):due (ms++[(z,c,n)]) n=due ms n++[(z,c)]:=by unfold due;rw [List.map_append];simp only [List.map_cons,List.map_nil,gM]
theorem nV {ms:Ms}{n c:Int}{z:Str}{m:Int×Int}(h:look ms z=some m):due (usd ms n z c) n=pu (due ms n) z (wrt m n+c):=by
 rw [dM h]
 have:=Hj (λm:Int×Int=>wrt m n) ms z (wrt m n+c,n)
 rw [gM] at this
 unfold due
 rw [this]
theorem vC (ms:Ms) (n:Int) (z:Str):due (dr ms z) n=dr (due ms n) z:=by unfold due;rw [Hk (λm:Int×Int=>wrt m n)]
theorem HJ (ps:Pm) (i:Int) (b z:Str):duP (chosen ps i b z) i=puI (duP ps i) (pk b z) (pw ps i b z+1):=by
 unfold duP chosen dA puI
 rw [List.any_map]
 simp only [Function.comp_def]
 split
 ·rw [List.map_map,List.map_map]
  refine List.map_congr_left λx _=>?_
  simp only [Function.comp_def]
  split
  ·rw [gM];rfl
  ·rfl
 ·rw [List.map_append];simp only [List.map_cons,List.map_nil,gM];rfl
structure Okz (j:Nat) (a:Ab):Prop where
 h:∀ x∈a.hs,0<=x.2.1/\x.2.1<=1000000000 * (j+1)
 o:∀ x∈a.ms,0<=x.2.1/\x.2.1<=1000000000 * (j+1)
 p:∀ x∈a.ps,0<=x.2.1/\x.2.1<=1000000000 * (j+1)
 pn:(a.ps.map (·.1)).Nodup
theorem fad {j:Nat}{m:Int×Int}{n c:Int}(hj:j<=60) (h:0<=m.1/\m.1<=1000000000 * (j+1)) (ho:m.2<=n) (hc:1<=c):wrt m (n+c)=wrt m n / 2 ^ (min c 60).toNat:=by
 have q1:=mE (n:=n) h.1
 have q2:=oU (n:=n) h.1
 rw [B2 ho (by omega),B3 (t:=c) q1 (by
  have:(2:Int) ^ 60=1152921504606846976:=by decide
  omega) (by omega)]
theorem ni {j:Nat}{ms:Ms}{n c:Int}(hj:j<=60) (h:∀ x∈ms,0<=x.2.1/\x.2.1<=1000000000 * (j+1)) (ho:∀ x∈ms,x.2.2<=n) (hc:1<=c):due ms (n+c)=(due ms n).map λa=>(a.1,a.2 / 2 ^ (min c 60).toNat):=by
 unfold due
 rw [List.map_map]
 exact List.map_congr_left λx hx=>by rw [fad hj (h x hx) (ho x hx) hc];rfl
theorem B5 {j:Nat}{ps:Pm}{n c:Int}(hj:j<=60) (h:∀ x∈ps,0<=x.2.1/\x.2.1<=1000000000 * (j+1)) (ho:∀ x∈ps,x.2.2<=n) (hc:1<=c):duP ps (n+c)=(duP ps n).map λa=>(a.1,a.2 / 2 ^ (min c 60).toNat):=by
 unfold duP
 rw [List.map_map]
 exact List.map_congr_left λx hx=>by rw [fad hj (h x hx) (ho x hx) hc];rfl
section
variable {B:Bk}{m:Int}{a:Ab}{S S0:Sto}{l0:List (Addr×O)}
theorem Up.bh {hs:Ms}{k:Int}{ds:List (Str×Int)}(h:Up S0 l0 S (bok B m a)) (e:due hs k=ds):Up S0 l0 (T2.put S B.t (.dK (kt T2.T.int ds))) (bok B m { a with hs:=hs,k:=k }):=by subst e;exact h.put 0 rfl
theorem Up.bo {ms:Ms}{n:Int}{ds:List (Str×Int)}(h:Up S0 l0 S (bok B m a)) (e:due ms n=ds):Up S0 l0 (T2.put S B.o (.dK (kt T2.T.int ds))) (bok B m { a with ms:=ms,n:=n }):=by subst e;exact h.put 2 rfl
theorem Up.bv {vs:List (Str×Bool)}(h:Up S0 l0 S (bok B m a)):Up S0 l0 (T2.put S B.v (.dK (kt T2.T.bl vs))) (bok B m { a with vs:=vs }):=h.put 3 rfl
theorem Up.bx {x:Str}(h:Up S0 l0 S (bok B m a)):Up S0 l0 (T2.put S B.s (stO B.q B.c m x)) (bok B m { a with x:=x }):=h.put 4 rfl
theorem Up.bp {ps:Pm}{i:Int}{ds:List (List Key×Int)}(h:Up S0 l0 S (bok B m a)) (e:duP ps i=ds):Up S0 l0 (T2.put S B.q (.dT (kv ds))) (bok B m { a with ps:=ps,i:=i }):=by subst e;exact h.put 5 rfl
theorem Up.bl {ln:List Str}(h:Up S0 l0 S (bok B m a)):Up S0 l0 (T2.put S B.c (.lst (ln.map T2.T.str))) (bok B m { a with ln:=ln }):=h.put 6 rfl
end
section
variable {S:Sto}{w:World}{e:Addr}{ms:Ms}{k x:Int}{z:Str}{m:Int×Int}
theorem pC {Q:T2.T->Sto->Prop}(h:S e=some (.dK (kt T2.T.int (due ms k)))) (l:look ms z=some m) (q:Q (.int (wrt m k)) S):cM w (.ref e) (.str z) S Q:=dL h rfl (by rw [ba,jv,l];rfl) q
theorem h9 {Q:Sto->Prop}(h:S e=some (.dK (kt T2.T.int (due ms k)))) (l:ms.length<=100) (q:Q (put S e (.dK (kt T2.T.int (pu (due ms k) z x))))):kC (.ref e) (.str z) (.int x) S Q:=eU h rfl (by rw [fV,sizeLine_eq];unfold due;rw [List.length_map];omega) (by rw [fU];exact q)
theorem vD {Q:T2.T->Sto->Prop}(h:S e=some (.dK (kt T2.T.int (due ms k)))) (l:look ms z=some m) (q:Q (.int (wrt m k)) (put S e (.dK (kt T2.T.int (dr (due ms k) z))))):pj (.ref e) [.str z] S Q:=jV h rfl (by rw [ba,jv,l];rfl) (by rw [jJ];exact q)
theorem kc {Q:Sto->Prop}{s q c:Addr}{x y:Str}(h:S s=some (stO q c k x)) (p:Q (put S s (stO q c k y))):kC (.ref s) (.str "typed") (.str y) S Q:=eU h rfl (by rw [sizeLine_eq];show 4<_;decide) p
end
def pD:WSp:=λts S Q=>∃ B m a z c,ts=[.ref B.t,.ref B.l,.str z,.int c]/\At S (bok B m a)/\Okk a/\((∃ m,look a.ms z=some m)\/look a.ms z=none/\∃ m,look a.hs z=some m)/\∀ S',Up S (bok B m a) S' (bok B m (a.use z c))->Q .non S'
theorem yU:FnScope ["_law_house","_law_layer","_law_word_here","_law_times_here","_law_table"] vv9 (av mw):=by nofun
theorem HK (F:!"_law_used" mw) (T:!0):!1 f fd vv9 pD:=by
 exists yU
 refine ⟨_,((aj (az 4 nd (cw (aI (bJ w rfl) (aa 2) (aM w (aa 1) ai) (by with_unfolding_all rfl)) (aM w (aa 1) ai) (aa 0))) (ag (bu (aC (bi false) (aM w (aa 4) (aa 2)) (aa 3)) (bA (aa 4) (aa 2) (cu (bq hr))))))),aB λv hu ts S Q h=>?_⟩
 obtain ⟨B,m,a,z,c,rfl,hA,ok,hz,hq⟩:=h
 have et:=hA.get 0 rfl
 have el:=hA.get 1 rfl
 have eo:=hA.get 2 rfl
 have Uu:=Up.refl hA
 have l1:=ok.ok.h.len
 have l2:=ok.ok.o.len
 ac_nf
 ext
 rcases hz with ⟨mm,e⟩|⟨e0,mm,e⟩
 ·rw [e,Option.isSome_some]
  ext
  refine pC eo e ?_
  ext
  refine h9 eo (by omega) ?_
  rw [pA e] at hq
  refine .mk (hq _ (Uu.bo ?_))
  rw [<- nV e,dM e]
 ·rw [e0,Option.isSome_none]
  ext
  refine pC et e ?_
  ext
  refine h9 et (by omega) ?_
  rw [pB e0 e] at hq
  refine .mk (hq _ (Uu.bh ?_))
  rw [<- nV e,dM e]
def wA:WSp:=λts S Q=>∃ B m a i r,ts=[.ref B.t,.ref B.l,.ref B.s,.int i]/\At S (bok B m a)/\Okk a/\0<=m/\0<=i/\(a.told m)[i.toNat]?=some r/\∀ S',Up S (bok B m a) S' (bok B m (a.tak r.1))->Q (.str r.1) S'
theorem yz:FnScope ["_law_house","_law_layer","_law_typist","_law_number","_law_word_here","_law_before"] kR (av lZ):=by nofun
theorem HL (F:!"_law_taken" lZ) (T:!0)
  (L5:!3 f1 LW eJ kW) (L6:Df K mg "_law_told_due" f1 LW eJ)
  (NC:!1 f2 Nd vv9 pD) (ND:Df K mg "_law_used" f2 Nd vv9):!4 f fd kR wA:=by
 exists yz
 refine ⟨_,((aj (az 4 nd (ak (ak (ax L5 L6 hr.m (ac (aa 0) (ac (aa 1) (ac (aa 2) ae)))) (aa 3)) af)) (aj (az 5 nd ai) (aj (ao (aI gA (aJ (a8 rfl) T.len PySem.boot_len (ac (aM w (aa 2) ai) ae)) af) (ag (az 5 nd (ak (aM w (aa 2) ai) (cX af)))) au) (aj (bd (ax NC ND hr.m (ac (aa 0) (ac (aa 1) (ac (aa 4) (ac af ae)))))) (aj (bu (aC (bi false) (bK PySem.F.plainAttrs_dict PySem.F.slot_dict_get PySem.F.type_dict_get (jX (bq hr)) (aM w (aa 2) ai) (ac (aL (ac (aa 5) (ac (aa 4) ae))) (ac af ae))) af) (bA (aM w (aa 2) ai) (aL (ac (aa 5) (ac (aa 4) ae))) (ow (bq hr)))) (aj (bd (bK PySem.F.plainAttrs_list PySem.F.slot_list_append PySem.F.type_list_append jo (aM w (aa 2) ai) (ac (aa 4) ae))) (aj (bu ai (bA (aa 2) ai (cu (bq hr)))) (ag (ap (aa 4))))))))))),aB λv hu ts S Q h=>?_⟩
 obtain ⟨B,m,a,i,r,rfl,hA,ok,hm,hi,R1,hq⟩:=h
 have es:=hA.get 4 rfl
 have ec:=hA.get 6 rfl
 ac_nf
 refine cb (λLO S'=>LO=[some (.ref B.t),some (.ref B.l),some (.ref B.s),some (.int i),some (.str r.1),none]/\S'=S/\Can a r.1) ?_ ?_
 ·intro X hX
  ext
  refine ⟨B,m,a,rfl,hA,ok,hm,λp=>?_⟩
  have Qu:=si (m:=m) p (List.mem_of_getElem? R1)
  have SI:atI (a.told m) i=some r:=by rw [<- R1,<- fH,Int.toNat_of_nonneg hi]
  ext
  exact hX _ _ ⟨rfl,rfl,Qu⟩
 rintro LO S' ⟨rfl,rfl,Qu⟩
 refine cb (λLO S2=>LO=[some (.ref B.t),some (.ref B.l),some (.ref B.s),some (.int i),some (.str r.1),some (.str "")]/\S2=S') ?_ ?_
 ·intro X hX
  ext
  exact hX _ _ ⟨rfl,rfl⟩
 rintro LO S2 ⟨rfl,rfl⟩
 refine cb (λLO S3=>LO=[some (.ref B.t),some (.ref B.l),some (.ref B.s),some (.int i),some (.str r.1),some (.str (lst a.ln))]/\S3=S2) ?_ ?_
 ·intro X hX
  ext
  rcases List.eq_nil_or_concat a.ln with e|⟨l0,z,e⟩
  ·rw [e] at hX ⊢
   ext
   exact hX _ _ ⟨rfl,rfl⟩
  ·rw [List.concat_eq_append] at e
   rw [e] at hX ec ⊢
   rw [show lst (l0++[z])=z by unfold lst;simp] at hX
   refine gF (decide_eq_true (by simp)) ?_
   ext
   refine iz ec (t:=.str z) (by rw [List.map_append];exact m8 _ _) ?_
   ext
   exact hX _ _ ⟨rfl,rfl⟩
 rintro LO S3 ⟨rfl,rfl⟩
 ext
 refine ⟨B,m,a,r.1,1,rfl,hA,ok,Qu.2,λS4 u=>?_⟩
 obtain ⟨w1,w2,w3,w4,_⟩:=oQ (a:=a) (z:=r.1) (c:=1)
 unfold Ab.tak at hq
 generalize a.use r.1 1=b at u w1 w2 w3 w4 hq
 have es:=u.at_.get 4 rfl
 have eq:=u.at_.get 5 rfl
 have ec:=u.at_.get 6 rfl
 have nsq:B.s≠B.q:=hA.ne 4 5 (by decide) rfl rfl
 have nsc:B.s≠B.c:=hA.ne 4 6 (by decide) rfl rfl
 have nqc:B.q≠B.c:=hA.ne 5 6 (by decide) rfl rfl
 have lp:=ok.ok.p.len
 have ll:=ok.ll
 rw [w1,w2] at eq
 ext
 refine jY (ks:=pk (lst a.ln) r.1) eq rfl ?_
 rw [vB]
 ext
 refine oA (ks:=pk (lst a.ln) r.1) eq rfl (by rw [vy,sizeLine_eq];unfold duP;rw [List.length_map];omega) ?_
 rw [vA,<- HJ]
 have u:=u.bp (ps:=chosen a.ps a.i (lst a.ln) r.1) (i:=b.i) (by rw [w2])
 have es:=u.at_.get 4 rfl
 have ec:=u.at_.get 6 rfl
 generalize put S4 B.q _=S5 at u es ec ⊢
 ext
 refine jp ec (by rw [List.length_map,sizeLine_eq,w3];omega) ?_
 rw [w3,show a.ln.map T2.T.str++[.str r.1]=(a.ln++[r.1]).map T2.T.str by rw [List.map_append];rfl]
 have u:=u.bl (ln:=a.ln++[r.1])
 have es:=u.at_.get 4 rfl
 generalize put S5 B.c _=S6 at u es ⊢
 ext
 refine kc es ?_
 ext
 exact .mk (hq _ u.bx)
def vE:WSp:=λts S Q=>∃ B m a d j,ts=[.ref B.t,.ref B.l,.ref B.s,dT d]/\At S (bok B m a)/\Okk a/\Okz j a/\j<=60/\0<=m/\OkD d/\rf m a d=0/\∀ S',Up S (bok B m a) S' (bok B m (nxt m a d))->Q (rs m a d) S'
theorem yV:FnScope ["_law_house","_law_layer","_law_typist","_law_deed","_law_kind"] vv5 (av mB):=by nofun
theorem EH (F:!"_law_done" mB) (T:!0)
  (Nn:!1 f1 LW iS (λts S Q=>uc ts S Q\/su ts S Q)) (Np:Df K mg "_law_halve" f1 LW iS)
  (NC:!1 f2 Nd vv9 pD) (ND:Df K mg "_law_used" f2 Nd vv9)
  (PF:!4 f3 P8 kR wA) (PJ:Df K mg "_law_taken" f3 P8 kR):!5 f fd vv5 vE:=by
 exists yV
 refine ⟨_,((aj (az 4 nd (ak (aa 3) af)) (aj (ao (ay hr (aa 4) ai) (ag (bu (ak (aa 3) af) (bA (aa 0) (ak (aa 3) af) (cu (bq hr))))) (ag (ao (ay hr (aa 4) ai) (ag (bu (aC (bi false) (aM w (aa 0) (ak (aa 3) af)) (ak (aa 3) af)) (bA (aa 0) (ak (aa 3) af) (cu (bq hr))))) (ag (ao (ay hr (aa 4) ai) (ag (bd (bK PySem.F.plainAttrs_dict PySem.F.slot_dict_pop PySem.F.type_dict_pop hJ (aa 0) (ac (ak (aa 3) af) ae)))) (ag (ao (ay hr (aa 4) ai) (ag (bd (ax Nn Np hr.m (ac (aa 0) (ac (ak (aa 3) af) ae))))) (ag (ao (ay hr (aa 4) ai) (ag (bu (ak (aa 3) af) (bA (aM w (aa 1) ai) (ak (aa 3) af) (cu (bq hr))))) (ag (ao (ay hr (aa 4) ai) (ag (bd (bK PySem.F.plainAttrs_dict PySem.F.slot_dict_pop PySem.F.type_dict_pop hJ (aM w (aa 1) ai) (ac (ak (aa 3) af) ae)))) (ag (ao (ay hr (aa 4) ai) (ag (bu bP (bA (aM w (aa 1) ai) (ak (aa 3) af) (cu (bq hr))))) (ag (ao (ay hr (aa 4) ai) (ag (bd (bK PySem.F.plainAttrs_dict PySem.F.slot_dict_pop PySem.F.type_dict_pop hJ (aM w (aa 1) ai) (ac (ak (aa 3) af) ae)))) (ag (ao (ay hr (aa 4) ai) (ag (bd (ax NC ND hr.m (ac (aa 0) (ac (aa 1) (ac (ak (aa 3) af) (ac (ak (aa 3) af) ae))))))) (ag (ao (aI (pJ rfl) (aa 4) (aL (ac ai (ac ai ae))) (by with_unfolding_all rfl)) (aj (bd (ax Nn Np hr.m (ac (aM w (aa 1) ai) (ac (ak (aa 3) af) ae)))) (ag (ao (ay hr (aa 4) ai) (ag (bd (ax Nn Np hr.m (ac (aM w (aa 2) ai) (ac (ak (aa 3) af) ae))))) au))) (ag (ao (ay hr (aa 4) ai) (ag (bu (aC (bi false) (aM w (aa 2) ai) (ak (aa 3) af)) (bA (aa 2) ai (cu (bq hr))))) (ag (ao (ay hr (aa 4) ai) (ag (bu (dX false rfl (aM w (aa 2) ai) eP (dE (cX af))) (bA (aa 2) ai (cu (bq hr))))) (ag (ao (ay hr (aa 4) ai) (ag (bu ai (bA (aa 2) ai (cu (bq hr))))) (ag (ao (ay hr (aa 4) ai) (ag (ap (ax PF PJ hr.m (ac (aa 0) (ac (aa 1) (ac (aa 2) (ac (ak (aa 3) af) ae))))))) au))))))))))))))))))))))))))) (ag (ap ik))))),aB λv hu ts S Q h=>?_⟩
 obtain ⟨B,m,a,d,j,rfl,hA,ok,oz,hj,hm,hd,h0,hq⟩:=h
 have et:=hA.get 0 rfl
 have el:=hA.get 1 rfl
 have eo:=hA.get 2 rfl
 have ev:=hA.get 3 rfl
 have es:=hA.get 4 rfl
 have eq:=hA.get 5 rfl
 have Uu:=Up.refl hA
 have l1:=ok.ok.h.len
 have l2:=ok.ok.o.len
 have l4:=ok.vl
 have l5:=ok.xl
 ac_nf
 ext
 right
 ·obtain ⟨z,c,rfl⟩:=jL k
  ext
  rcases if3 h0 with ⟨_,e⟩|⟨_,_,e⟩|⟨h1,h2,_⟩
  iterate 2 cases e
  refine h9 et (by omega) ?_
  ext
  refine .mk (hq _ (Uu.bh ?_))
  rw [ud,h7 _ (by rw [eO];exact As.cq.mp (by simpa using h2))]
 ext
 right
 ·obtain ⟨z,c,rfl⟩:=j9 k
  ext
  rcases if2 h0 with ⟨h1,_⟩|⟨_,e⟩
  ·obtain ⟨mm,e⟩:=Option.isSome_iff_exists.mp h1
   refine pC et e ?_
   ext
   refine h9 et (by omega) ?_
   ext
   exact .mk (hq _ (Uu.bh (nV e)))
  ·cases e
 ext
 right
 ·obtain ⟨z,rfl⟩:=ji k
  ext
  rcases if2 h0 with ⟨h1,_⟩|⟨_,e⟩
  ·obtain ⟨mm,e⟩:=Option.isSome_iff_exists.mp h1
   refine vD et e ?_
   ext
   exact .mk (hq _ (Uu.bh (vC ..)))
  ·cases e
 ext
 right
 ·obtain ⟨c,rfl⟩:=nR k
  ext
  obtain ⟨c1,c2⟩:1<=c/\c<=1000000:=hd
  refine .inl ⟨B.t,c,_,rfl,et,by rw [eO];exact ok.ok.h.nd,by unfold due;rw [List.length_map];omega,by omega,c2,?_⟩
  ext
  exact .mk (hq _ (Uu.bh (ni hj oz.h ok.ok.h.old c1)))
 ext
 right
 ·obtain ⟨z,c,rfl⟩:=ka k
  ext
  rcases if3 h0 with ⟨_,e⟩|⟨_,_,e⟩|⟨h1,h2,_⟩
  iterate 2 cases e
  refine h9 eo (by omega) ?_
  ext
  refine .mk (hq _ (Uu.bo ?_))
  rw [ud,h7 _ (by rw [eO];exact As.cq.mp (by simpa using h2))]
 ext
 right
 ·obtain ⟨z,rfl⟩:=jl k
  ext
  rcases if2 h0 with ⟨h1,_⟩|⟨_,e⟩
  ·obtain ⟨mm,e⟩:=Option.isSome_iff_exists.mp h1
   refine vD eo e ?_
   ext
   exact .mk (hq _ (Uu.bo (vC ..)))
  ·cases e
 ext
 right
 ·obtain ⟨z,rfl⟩:=jM k
  ext
  rcases if3 h0 with ⟨_,e⟩|⟨_,_,e⟩|⟨h1,h2,_⟩
  iterate 2 cases e
  refine eU ev rfl (by rw [fV,sizeLine_eq];omega) ?_
  rw [fU,h7 _ (As.cq.mp (by simpa using h2))]
  ext
  exact .mk (hq _ Uu.bv)
 ext
 right
 ·obtain ⟨z,rfl⟩:=jt k
  ext
  rcases if2 h0 with ⟨h1,_⟩|⟨_,e⟩
  ·obtain ⟨mm,e⟩:=Option.isSome_iff_exists.mp h1
   refine jV ev rfl (by rw [ba,e];rfl) ?_
   rw [jJ]
   ext
   exact .mk (hq _ Uu.bv)
  ·cases e
 ext
 right
 ·obtain ⟨z,c,rfl⟩:=ju k
  ext
  rcases if3 h0 with ⟨_,e⟩|⟨h1,h2,_⟩|⟨_,_,e⟩
  ·cases e
  ·refine ⟨B,m,a,z,c,rfl,hA,ok,?_,λS' u=>?_⟩
   ·cases e:look a.ms z with
    |some mm=>exact .inl ⟨mm,rfl⟩
    |none =>
     rw [e] at h2
     exact .inr ⟨rfl,Option.isSome_iff_exists.mp (h2.resolve_left (by decide))⟩
   ·ext
    exact .mk (hq _ u)
  ·cases e
 ext
 by_cases k9:kd d="fade own"
 ·obtain ⟨c,rfl⟩:=m9 k9
  refine kT (.inl k9.symm) ?_
  obtain ⟨c1,c2⟩:1<=c/\c<=1000000:=hd
  ext
  refine .inl ⟨B.o,c,_,rfl,eo,by rw [eO];exact ok.ok.o.nd,by unfold due;rw [List.length_map];omega,by omega,c2,?_⟩
  ext
  refine b5 (λe=>absurd (k9.symm.trans e) (by decide +kernel)) ?_
  ext
  exact .mk (hq _ (Uu.bo (ni hj oz.o ok.ok.o.old c1)))
 by_cases k14:kd d="fade all"
 ·obtain ⟨c,rfl⟩:=BW k14
  refine kT (.inr k14.symm) ?_
  obtain ⟨c1,c2⟩:1<=c/\c<=1000000:=hd
  ext
  refine .inl ⟨B.o,c,_,rfl,eo,by rw [eO];exact ok.ok.o.nd,by unfold due;rw [List.length_map];omega,by omega,c2,?_⟩
  have U1:=Uu.bo (ni hj oz.o ok.ok.o.old c1)
  have eq1:=U1.at_.get 5 rfl
  have es1:=U1.at_.get 4 rfl
  generalize put S B.o _=S1 at U1 eq1 es1 ⊢
  ext
  refine ck k14 ?_
  ext
  refine .inr ⟨B.q,c,_,rfl,eq1,by unfold duP;rw [List.map_map];exact oz.pn,by unfold duP;rw [List.length_map];exact ok.ok.p.len,by omega,c2,?_⟩
  ext
  exact .mk (hq _ (U1.bp (B5 hj oz.p ok.ok.p.old c1)))
 refine xz k9 k14 ?_
 ext
 right
 ·obtain ⟨z,rfl⟩:=kb k
  rcases if3 h0 with ⟨_,e⟩|⟨h1,h2,_⟩|⟨_,_,e⟩
  ·cases e
  ·have hz:=hd.1
   ext
   refine kc es ?_
   ext
   exact .mk (hq _ Uu.bx)
  ·cases e
 ext
 right
 ·obtain rfl:=jN k
  ext
  refine kc es ?_
  ext
  exact .mk (hq _ Uu.bx)
 ext
 right
 ·obtain rfl:=na k
  ext
  refine kc es ?_
  ext
  exact .mk (hq _ Uu.bx)
 ext
 right
 ·obtain ⟨i,rfl⟩:=jO k
  rcases if2 h0 with ⟨⟨h1,h2⟩,_⟩|⟨_,e⟩
  ·obtain ⟨r,e⟩:∃ r,(a.told m)[i.toNat]?=some r:=⟨_,List.getElem?_eq_getElem (by omega)⟩
   ext
   refine ⟨B,m,a,i,r,rfl,hA,ok,hm,h1,e,λS' u=>.mk ?_⟩
   have q:Up _ _ _ (bok B m (((a.told m)[i.toNat]?).elim a λr=>a.tak r.1))->Q (((a.told m)[i.toNat]?).elim .non λr=>.str r.1) S':=hq S'
   rw [e] at q
   exact q u
  ·cases e
 ext
 exact (show False by cases d<;>exact absurd rfl (by assumption)).elim
theorem Pln.str {n:Nat}{x:Str}:Pln (n+1) (.str x):=.inr (.inl ⟨x,rfl⟩)
theorem Pln.int {n:Nat}{x:Int}:Pln (n+1) (.int x):=.inr (.inr (.inr (.inl ⟨x,rfl⟩)))
theorem Pln.tup {n:Nat}{us:List T2.T}(h:us.length<=1000) (k:∀ u∈us,Pln n u):Pln (n+1) (.tup us):=.inr (.inr (.inr (.inr ⟨us,.inl rfl,h,k⟩)))
theorem Pln.lst {α:Type}{n:Nat}{f:α->T2.T}{l:List α}(h:l.length<=1000) (k:∀ a,Pln n (f a)):Pln (n+1) (.lst (l.map f)):=.inr (.inr (.inr (.inr ⟨_,.inr rfl,by rw [List.length_map];exact h,λu hu=>by obtain ⟨a,_,rfl⟩:=List.mem_map.mp hu;exact k a⟩)))
theorem Pln.r4 {n:Nat}{a:R4}:Pln (n+2) (r4 a):=.tup (Nat.le_of_ble_eq_true rfl) λu hu=>by
 simp only [List.mem_cons,List.not_mem_nil,or_false] at hu
 rcases hu with rfl|rfl|rfl|rfl
 ·exact .str
 ·exact .int
 ·exact .int
 ·exact .inr (.inr (.inl ⟨_,rfl⟩))
theorem Mo.puts {n c:Int}{ms:Ms}{z:Str}(h:Mo n ms) (hl:ms.length<60) (hz:Wm.Wd z=true) (hm:look ms z=none):Mo n (ms++[(z,c,n)]):=by
 refine ⟨by rw [List.length_append];exact hl,λa ha=>?_,?_,λa ha=>?_⟩
 ·rcases List.mem_append.mp ha with q|q
  ·exact h.old a q
  ·rw [List.mem_singleton.mp q];exact Int.le_refl _
 ·rw [List.map_append,List.nodup_append]
  exact ⟨h.nd,by simp,λa ha b hb e=>As.cq.mp hm (by rw [show z=a from (e.trans (List.mem_singleton.mp hb)).symm];exact ha)⟩
 ·rcases List.mem_append.mp ha with q|q
  ·exact h.wd a q
  ·rw [List.mem_singleton.mp q];exact hz
theorem nj (ms:Ms) (n c:Int) (z:Str):(usd ms n z c).map (·.1)=ms.map (·.1):=by
 cases e:look ms z with
 |none=>unfold usd;rw [e]
 |some m=>rw [dM e];exact DX _ (List.mem_map_of_mem (f:=(·.1)) (As.cP e))
theorem jP (ms:Ms) (n c:Int) (z:Str):(usd ms n z c).length=ms.length:=by have:=congrArg List.length (nj ms n c z);simpa using this
theorem Mo.usd {n c:Int}{ms:Ms}{z:Str}(h:Mo n ms):Mo n (usd ms n z c):=by
 refine ⟨by rw [jP];exact h.len,λa ha=>?_,by rw [nj];exact h.nd,λa ha=>?_⟩
 ·cases e:look ms z with
  |none=>unfold My.usd at ha;rw [e] at ha;exact h.old a ha
  |some m =>
   rw [dM e] at ha
   rcases uZ ha with q|q
   ·exact h.old a q
   ·rw [q];exact Int.le_refl _
 ·have q:=List.mem_map_of_mem (f:=(·.1)) ha
  rw [nj] at q
  obtain ⟨b,hb,e⟩:=List.mem_map.mp q
  have:=h.wd b hb
  rw [e] at this
  exact this
theorem ke {α:Type}(l:List (Str×α)) (z:Str):(dr l z).length<=l.length:=List.length_filter_le ..
theorem Mo.drop {n:Int}{ms:Ms}{z:Str}(h:Mo n ms):Mo n (dr ms z) :=
 ⟨Nat.le_trans (ke ..) h.len,λa ha=>h.old a (List.mem_filter.mp ha).1,by rw [tJ];exact h.nd.filter _,λa ha=>h.wd a (List.mem_filter.mp ha).1⟩
theorem Mo.fade {n c:Int}{ms:Ms}(h:Mo n ms) (hc:1<=c):Mo (n+c) ms:=⟨h.len,λa ha=>by have:=h.old a ha;omega,h.nd,h.wd⟩
structure Okj (j e:Nat) (a:Ab):Prop where
 h:Mo a.k a.hs
 o:Mo a.n a.ms
 le:a.hs.length+a.ms.length<=e
 vl:a.vs.length<=j
 vn:(a.vs.map (·.1)).Nodup
 xl:a.x.length<=24
 ll:a.ln.length<=j
 p:Wf j a.i a.ps
theorem Okj.kk {j e:Nat}{a:Ab}(h:Okj j e a) (hj:j<=50) (he:e<=50):Okk a:=⟨⟨h.h,h.o,by have:=h.le;omega,h.p.more (by omega) (Int.le_refl _)⟩,by have:=h.vl;omega,h.xl,by have:=h.ll;omega⟩
theorem Okj.up {j k e:Nat}{a:Ab}(h:Okj j e a) (hj:j<=k):Okj k (e+1) a:=⟨h.h,h.o,by have:=h.le;omega,by have:=h.vl;omega,h.vn,h.xl,by have:=h.ll;omega,h.p.more hj (Int.le_refl _)⟩
theorem Okj.use {j e:Nat}{a:Ab}{z:Str}{c:Int}(h:Okj j e a):Okj j e (a.use z c):=by
 have hl:=h.le
 unfold Ab.use
 split
 ·exact ⟨h.h,h.o.usd,by show a.hs.length+(My.usd a.ms a.n z c).length<=e;rw [jP];exact hl,h.vl,h.vn,h.xl,h.ll,h.p⟩
 ·exact ⟨h.h.usd,h.o,by show (My.usd a.hs a.k z c).length+a.ms.length<=e;rw [jP];exact hl,h.vl,h.vn,h.xl,h.ll,h.p⟩
theorem EI {z:Str}(h:sgn z=true):z.length=1:=by
 have:=of_decide_eq_true (Bool.and_eq_true_iff.mp h).1
 omega
theorem Okj.next {j e:Nat}{m:Int}{a:Ab}{d:Dd}(h:Okj j e a) (he:e<=49) (hd:OkD d) (h0:rf m a d=0):Okj (j+wt d) (e+wt d) (nxt m a d):=by
 have u:=h.up (Nat.le_succ j)
 have l1:=h.le
 have l2:=h.vl
 cases d with
 |puts z c =>
  rcases if3 h0 with ⟨_,e⟩|⟨_,_,e⟩|⟨h1,h2,_⟩
  iterate 2 cases e
  exact { u with h:=h.h.puts (by omega) (by simpa using h1) (by simpa using h2),le:=by show (a.hs++[_]).length+a.ms.length<=e+1;rw [List.length_append,List.length_singleton];omega }
 |own z c =>
  rcases if3 h0 with ⟨_,e⟩|⟨_,_,e⟩|⟨h1,h2,_⟩
  iterate 2 cases e
  exact { u with o:=h.o.puts (by omega) (by simpa using h1) (by simpa using h2),le:=by show a.hs.length+(a.ms++[_]).length<=e+1;rw [List.length_append,List.length_singleton];omega }
 |hide z =>
  rcases if3 h0 with ⟨_,e⟩|⟨_,_,e⟩|⟨h1,h2,_⟩
  iterate 2 cases e
  have h2:look a.vs z=none:=by simpa using h2
  have vn:((a.vs++[(z,true)]).map (·.1)).Nodup:=by
   rw [List.map_append,List.nodup_append]
   exact ⟨h.vn,by simp,λa ha b hb e=>As.cq.mp h2 (by rw [show z=a from (e.trans (List.mem_singleton.mp hb)).symm];exact ha)⟩
  exact { u with vl:=by show (a.vs++[_]).length<=j+1;rw [List.length_append,List.length_singleton];omega,vn:=vn }
 |use z c=>exact { u with h:=h.h.usd,le:=by show (My.usd a.hs a.k z c).length+a.ms.length<=e+1;rw [jP];omega }
 |strike z=>exact { u with h:=h.h.drop,le:=by show (dr a.hs z).length+a.ms.length<=e+1;have:=ke a.hs z;omega }
 |disown z=>exact { u with o:=h.o.drop,le:=by show a.hs.length+(dr a.ms z).length<=e+1;have:=ke a.ms z;omega }
 |show_ z=>exact { u with vl:=by show (dr a.vs z).length<=j+1;have:=ke a.vs z;omega,vn:=by show ((dr a.vs z).map _).Nodup;rw [tJ];exact h.vn.filter _ }
 |above z c=>exact h.use.up (Nat.le_succ j)
 |fade c=>exact { u with h:=h.h.fade hd.1 }
 |fadeO c=>exact { u with o:=h.o.fade hd.1 }
 |fadeA c=>exact { u with o:=h.o.fade hd.1,p:=h.p.more (Nat.le_succ j) (by have:=hd.1;show a.i<=a.i+c;omega) }
 |key z =>
  rcases if3 h0 with ⟨_,e⟩|⟨h1,h2,_⟩|⟨_,_,e⟩
  ·cases e
  ·exact { h with xl:=by show (a.x++z).length<=24;rw [nP];have:=EI (z:=z) (by simpa using h1);omega }
  ·cases e
 |back=>exact { u with xl:=Nat.le_trans (kG ..) h.xl }
 |clear=>exact { u with xl:=by show ("":Str).length<=24;decide +kernel }
 |take i =>
  show Okj (j+1) (e+1) (((a.told m)[i.toNat]?).elim a λr=>a.tak r.1)
  cases (a.told m)[i.toNat]? with
  |none=>exact u
  |some r =>
   have v:=(h.use (z:=r.1) (c:=1)).up (Nat.le_succ j)
   obtain ⟨e1,e2,e3,e4,e5,e6,e7⟩:=oQ (a:=a) (z:=r.1) (c:=1)
   exact { v with xl:=by show ("":Str).length<=24;decide +kernel,ll:=by show (a.ln++[_]).length<=j+1;rw [List.length_append,List.length_singleton];have:=h.ll;omega,p:=by show Wf (j+1) (a.use r.1 1).i (chosen ..);rw [e2];exact h.p.choose .. }
theorem Okz.up {j k:Nat}{a:Ab}(h:Okz j a) (hj:j<=k):Okz k a :=
 ⟨λx hx=>by have:=h.h x hx;omega,λx hx=>by have:=h.o x hx;omega,λx hx=>by have:=h.p x hx;omega,h.pn⟩
theorem vF {j:Nat}{ms:Ms}{z:Str}{c n:Int}(h:∀ x∈ms,0<=x.2.1/\x.2.1<=1000000000 * ((j:Int)+1)) (h0:0<=c) (h1:c<=1000000000):∀ x∈ms++[(z,c,n)],0<=x.2.1/\x.2.1<=1000000000 * (((j+1:Nat):Int)+1):=λx hx=>by
 rcases List.mem_append.mp hx with q|q
 ·have:=h x q;omega
 ·rw [List.mem_singleton.mp q]
  show 0<=c/\c<=_
  omega
theorem oV {j:Nat}{ms:Ms}{z:Str}{c n:Int}(h:∀ x∈ms,0<=x.2.1/\x.2.1<=1000000000 * ((j:Int)+1)) (h0:0<=c) (h1:c<=1000000000):∀ x∈usd ms n z c,0<=x.2.1/\x.2.1<=1000000000 * (((j+1:Nat):Int)+1):=λx hx=>by
 cases e:look ms z with
 |none=>unfold My.usd at hx;rw [e] at hx;have:=h x hx;omega
 |some m =>
  rw [dM e] at hx
  rcases uZ hx with q|q
  ·have:=h x q;omega
  ·have hm:=h _ (As.cP e)
   have q1:=mE (n:=n) hm.1
   have q2:=oU (n:=n) hm.1
   rw [q]
   show 0<=wrt m n+c/\wrt m n+c<=_
   dsimp only at hm q1 q2
   omega
theorem Okz.use {j:Nat}{a:Ab}{z:Str}{c:Int}(h:Okz j a) (h0:0<=c) (h1:c<=1000000000):Okz (j+1) (a.use z c):=by
 have u:=h.up (Nat.le_succ j)
 unfold Ab.use
 split
 ·exact { u with o:=oV h.o h0 h1 }
 ·exact { u with h:=oV h.h h0 h1 }
theorem Au {ps:Pm}{k:List Key}{m:Int×Int}:(dA ps k m).map (·.1)=if (ps.any λp=>decide (p.1=k))=true then ps.map (·.1) else ps.map (·.1)++[k]:=by
 unfold dA
 split
 ·rw [List.map_map]
  refine List.map_congr_left λx _=>?_
  show (if x.1=k then (x.1,m) else x).1=x.1
  split<;>rfl
 ·rw [List.map_append];rfl
theorem Okz.next {j:Nat}{m:Int}{a:Ab}{d:Dd}(h:Okz j a) (hn:OkN d) (h0:rf m a d=0):Okz (j+wt d) (nxt m a d):=by
 have u:=h.up (Nat.le_succ j)
 cases d with
 |puts z c=>exact { u with h:=vF h.h hn.1 hn.2 }
 |own z c=>exact { u with o:=vF h.o hn.1 hn.2 }
 |use z c=>exact { u with h:=oV h.h hn.1 hn.2 }
 |above z c=>exact h.use hn.1 hn.2
 |strike z=>exact { u with h:=λx hx=>u.h x (List.mem_filter.mp hx).1 }
 |disown z=>exact { u with o:=λx hx=>u.o x (List.mem_filter.mp hx).1 }
 |hide z|show_ z|fade c|fadeO c|fadeA c|back|clear=>exact ⟨u.h,u.o,u.p,u.pn⟩
 |key z=>exact ⟨h.h,h.o,h.p,h.pn⟩
 |take i =>
  show Okz (j+1) (((a.told m)[i.toNat]?).elim a λr=>a.tak r.1)
  cases (a.told m)[i.toNat]? with
  |none=>exact u
  |some r =>
   have v:=h.use (z:=r.1) (c:=1) (by decide) (by decide)
   refine ⟨v.h,v.o,λx hx=>?_,?_⟩
   ·have hx:x∈dA a.ps (pk (lst a.ln) r.1) (wrt (lkD a.ps (pk (lst a.ln) r.1) a.i) a.i+1,a.i):=hx
    have base:0<=(lkD a.ps (pk (lst a.ln) r.1) a.i).1/\(lkD a.ps (pk (lst a.ln) r.1) a.i).1<=1000000000 * ((j:Int)+1):=by
     unfold lkD
     cases q:lkP a.ps (pk (lst a.ln) r.1) with
     |none=>show (0:Int)<=0/\(0:Int)<=_;omega
     |some mm =>
      obtain ⟨y,hy,e⟩:=vj q
      have:=h.p y hy
      rw [e] at this
      exact this
    have q1:=mE (n:=a.i) base.1
    have q2:=oU (n:=a.i) base.1
    generalize lkD a.ps (pk (lst a.ln) r.1) a.i=mm at base q1 q2 hx
    unfold dA at hx
    split at hx
    ·obtain ⟨y,hy,rfl⟩:=List.mem_map.mp hx
     have hp:=h.p y hy
     split
     ·show 0<=wrt mm a.i+1/\wrt mm a.i+1<=_
      omega
     ·omega
    ·rcases List.mem_append.mp hx with q|q
     ·have:=h.p x q;omega
     ·rw [List.mem_singleton.mp q]
      show 0<=wrt mm a.i+1/\wrt mm a.i+1<=_
      omega
   ·show ((dA a.ps (pk (lst a.ln) r.1) _).map (·.1)).Nodup
    rw [Au]
    split
    ·exact h.pn
    ·rename_i q
     rw [List.nodup_append]
     refine ⟨h.pn,by simp,λx hx y hy e=>q ?_⟩
     obtain ⟨p,hp,hpx⟩:=List.mem_map.mp hx
     exact List.any_eq_true.mpr ⟨p,hp,decide_eq_true (by rw [hpx,e];exact List.mem_singleton.mp hy)⟩
inductive W3
 |u0|u1|u2
def i3:W3->Int
 |.u0=>0
 |.u1=>1
 |.u2=>2
theorem wD {r:Int}(h0:0<=r) (h1:r<3):∃ w,r=i3 w:=by
 rcases (by omega:r=0\/r=1\/r=2) with rfl|rfl|rfl
 ·exact ⟨.u0,rfl⟩
 ·exact ⟨.u1,rfl⟩
 ·exact ⟨.u2,rfl⟩
structure Ls where
 (n:Int) (ms:Ms) (vs:List (Str×Bool))
structure Ts where
 (i:Int) (ps:Pm) (x:Str) (ln:List Str)
structure Gs where
 (k:Int) (hs:Ms) (l0 l1:Ls) (t0 t1 t2:Ts)
noncomputable abbrev mkA (g:Gs) (l:Ls) (t:Ts):Ab:=⟨g.k,l.n,t.i,g.hs,l.ms,l.vs,t.ps,t.x,t.ln⟩
abbrev Ab.l (a:Ab):Ls:=⟨a.n,a.ms,a.vs⟩
noncomputable abbrev Ab.t (a:Ab):Ts:=⟨a.i,a.ps,a.x,a.ln⟩
def Gs.ab (g:Gs):W3->Ab
 |.u0=>mkA g g.l0 g.t0
 |.u1=>mkA g g.l0 g.t1
 |.u2=>mkA g g.l1 g.t2
noncomputable def Gs.set (g:Gs) (a:Ab):W3->Gs
 |.u0=>⟨a.k,a.hs,a.l,g.l1,a.t,g.t1,g.t2⟩
 |.u1=>⟨a.k,a.hs,a.l,g.l1,g.t0,a.t,g.t2⟩
 |.u2=>⟨a.k,a.hs,g.l0,a.l,g.t0,g.t1,a.t⟩
theorem vG (g:Gs) (w:W3):g.set (g.ab w) w=g:=by cases w<;>rfl
structure Lk (j:Nat) (l:Ls):Prop where
 o:Mo l.n l.ms
 vl:l.vs.length<=j
 vn:(l.vs.map (·.1)).Nodup
 z:∀ x∈l.ms,0<=x.2.1/\x.2.1<=1000000000 * ((j:Int)+1)
structure Tk (j:Nat) (t:Ts):Prop where
 xl:t.x.length<=24
 ll:t.ln.length<=j
 p:Wf j t.i t.ps
 z:∀ x∈t.ps,0<=x.2.1/\x.2.1<=1000000000 * ((j:Int)+1)
 pn:(t.ps.map (·.1)).Nodup
structure Gk (j:Nat) (g:Gs):Prop where
 h:Mo g.k g.hs
 z:∀ x∈g.hs,0<=x.2.1/\x.2.1<=1000000000 * ((j:Int)+1)
 le:g.hs.length+g.l0.ms.length+g.l1.ms.length<=j
 l0:Lk j g.l0
 l1:Lk j g.l1
 t0:Tk j g.t0
 t1:Tk j g.t1
 t2:Tk j g.t2
theorem Lk.up {j k:Nat}{l:Ls}(h:Lk j l) (hj:j<=k):Lk k l:=⟨h.o,Nat.le_trans h.vl hj,h.vn,λx hx=>by have:=h.z x hx;omega⟩
theorem Tk.up {j k:Nat}{t:Ts}(h:Tk j t) (hj:j<=k):Tk k t:=⟨h.xl,Nat.le_trans h.ll hj,h.p.more hj (Int.le_refl _),λx hx=>by have:=h.z x hx;omega,h.pn⟩
theorem Gk.up {j k:Nat}{g:Gs}(h:Gk j g) (hj:j<=k):Gk k g:=⟨h.h,λx hx=>by have:=h.z x hx;omega,Nat.le_trans h.le hj,h.l0.up hj,h.l1.up hj,h.t0.up hj,h.t1.up hj,h.t2.up hj⟩
theorem Gk.okj {j:Nat}{g:Gs}(h:Gk j g) (w:W3):Okj j ((g.ab w).hs.length+(g.ab w).ms.length) (g.ab w)/\Okz j (g.ab w)/\(g.ab w).hs.length+(g.ab w).ms.length<=j:=by
 have hl:=h.le
 cases w
 ·exact ⟨⟨h.h,h.l0.o,Nat.le_refl _,h.l0.vl,h.l0.vn,h.t0.xl,h.t0.ll,h.t0.p⟩,⟨h.z,h.l0.z,h.t0.z,h.t0.pn⟩,by show g.hs.length+g.l0.ms.length<=j;omega⟩
 ·exact ⟨⟨h.h,h.l0.o,Nat.le_refl _,h.l0.vl,h.l0.vn,h.t1.xl,h.t1.ll,h.t1.p⟩,⟨h.z,h.l0.z,h.t1.z,h.t1.pn⟩,by show g.hs.length+g.l0.ms.length<=j;omega⟩
 ·exact ⟨⟨h.h,h.l1.o,Nat.le_refl _,h.l1.vl,h.l1.vn,h.t2.xl,h.t2.ll,h.t2.p⟩,⟨h.z,h.l1.z,h.t2.z,h.t2.pn⟩,by show g.hs.length+g.l1.ms.length<=j;omega⟩
theorem Gk.kk {j:Nat}{g:Gs}(h:Gk j g) (w:W3) (hj:j<=49):Okk (g.ab w):=by
 obtain ⟨o,_,e⟩:=h.okj w
 exact o.kk (by omega) (by omega)
theorem Gk.put {j k e:Nat}{g:Gs}{a:Ab}{w:W3}(h:Gk j g) (hj:j<=k) (o:Okj k e a) (z:Okz k a) (he:e+j<=(g.ab w).hs.length+(g.ab w).ms.length+k):Gk k (g.set a w):=by
 have hl:=h.le
 have ol:=o.le
 cases w
 ·exact ⟨o.h,z.h,by show a.hs.length+a.ms.length+g.l1.ms.length<=k;change e+j<=g.hs.length+g.l0.ms.length+k at he;omega,⟨o.o,o.vl,o.vn,z.o⟩,h.l1.up hj,⟨o.xl,o.ll,o.p,z.p,z.pn⟩,h.t1.up hj,h.t2.up hj⟩
 ·exact ⟨o.h,z.h,by show a.hs.length+a.ms.length+g.l1.ms.length<=k;change e+j<=g.hs.length+g.l0.ms.length+k at he;omega,⟨o.o,o.vl,o.vn,z.o⟩,h.l1.up hj,h.t0.up hj,⟨o.xl,o.ll,o.p,z.p,z.pn⟩,h.t2.up hj⟩
 ·exact ⟨o.h,z.h,by show a.hs.length+g.l0.ms.length+a.ms.length<=k;change e+j<=g.hs.length+g.l1.ms.length+k at he;omega,h.l0.up hj,⟨o.o,o.vl,o.vn,z.o⟩,h.t0.up hj,h.t1.up hj,⟨o.xl,o.ll,o.p,z.p,z.pn⟩⟩
theorem Gk.aft {j:Nat}{g:Gs}{m:Int}{w:W3}{d:Dd}(h:Gk j g) (hj:j<=49) (hd:OkD d) (hn:OkN d):Gk (j+wt d) (g.set (aft m (g.ab w) d) w):=by
 obtain ⟨o,z,e⟩:=h.okj w
 unfold My.aft
 split
 ·exact h.put (Nat.le_add_right ..) (o.next (by omega) hd (by assumption)) (z.next hn (by assumption)) (by omega)
 ·rw [vG];exact h.up (Nat.le_add_right ..)
structure Pl where
 (h e y0 p0 d0 v0 y1 p1 d1 v1 u0 q0 g0 c0 u1 q1 g1 c1 u2 q2 g2 c2 t l0 o0 w0 l1 o1 w1 s0 x0 z0 s1 x1 z1 s2 x2 z2:Addr)
 (m0 m1 m2:Int)
noncomputable def Pl.ad (P:Pl):W3->Ad
 |.u0=>⟨P.h,P.e,P.y0,P.p0,P.d0,P.v0,P.u0,P.q0,P.g0,P.c0⟩
 |.u1=>⟨P.h,P.e,P.y0,P.p0,P.d0,P.v0,P.u1,P.q1,P.g1,P.c1⟩
 |.u2=>⟨P.h,P.e,P.y1,P.p1,P.d1,P.v1,P.u2,P.q2,P.g2,P.c2⟩
noncomputable def Pl.bk (P:Pl):W3->Bk
 |.u0=>⟨P.t,P.l0,P.o0,P.w0,P.s0,P.x0,P.z0⟩
 |.u1=>⟨P.t,P.l0,P.o0,P.w0,P.s1,P.x1,P.z1⟩
 |.u2=>⟨P.t,P.l1,P.o1,P.w1,P.s2,P.x2,P.z2⟩
noncomputable def Pl.m (P:Pl):W3->Int
 |.u0=>P.m0
 |.u1=>P.m1
 |.u2=>P.m2
def fz (D:Cs) (P:Pl) (g b:Gs) (p:Addr) (o:O):List (Addr×O) :=
 [(P.h,woO D.C P.e g.k),(P.e,.dK (kt mkT g.hs)),(P.y0,lyO D.L P.h P.p0 P.v0),(P.p0,woO D.C P.d0 g.l0.n),(P.d0,.dK (kt mkT g.l0.ms)),(P.v0,.dK (kt T2.T.bl g.l0.vs)),
  (P.y1,lyO D.L P.h P.p1 P.v1),(P.p1,woO D.C P.d1 g.l1.n),(P.d1,.dK (kt mkT g.l1.ms)),(P.v1,.dK (kt T2.T.bl g.l1.vs)),
  (P.u0,tyO D.Y P.y0 P.q0 P.c0 P.m0 g.t0.x),(P.q0,prO D.R P.g0 g.t0.i),(P.g0,.dT (toT g.t0.ps)),(P.c0,.lst (g.t0.ln.map T2.T.str)),
  (P.u1,tyO D.Y P.y0 P.q1 P.c1 P.m1 g.t1.x),(P.q1,prO D.R P.g1 g.t1.i),(P.g1,.dT (toT g.t1.ps)),(P.c1,.lst (g.t1.ln.map T2.T.str)),
  (P.u2,tyO D.Y P.y1 P.q2 P.c2 P.m2 g.t2.x),(P.q2,prO D.R P.g2 g.t2.i),(P.g2,.dT (toT g.t2.ps)),(P.c2,.lst (g.t2.ln.map T2.T.str)),
  (P.t,.dK (kt T2.T.int (due b.hs b.k))),(P.l0,reO P.o0 P.w0),(P.o0,.dK (kt T2.T.int (due b.l0.ms b.l0.n))),(P.w0,.dK (kt T2.T.bl b.l0.vs)),(P.l1,reO P.o1 P.w1),(P.o1,.dK (kt T2.T.int (due b.l1.ms b.l1.n))),(P.w1,.dK (kt T2.T.bl b.l1.vs)),
  (P.s0,stO P.x0 P.z0 P.m0 b.t0.x),(P.x0,.dT (kv (duP b.t0.ps b.t0.i))),(P.z0,.lst (b.t0.ln.map T2.T.str)),(P.s1,stO P.x1 P.z1 P.m1 b.t1.x),(P.x1,.dT (kv (duP b.t1.ps b.t1.i))),(P.z1,.lst (b.t1.ln.map T2.T.str)),(P.s2,stO P.x2 P.z2 P.m2 b.t2.x),(P.x2,.dT (kv (duP b.t2.ps b.t2.i))),(P.z2,.lst (b.t2.ln.map T2.T.str)),(p,o)]
structure Wl (D:Cs) (S:Sto) (P:Pl) (g b:Gs) (p:Addr) (o:O):Prop where
 bx:aO o
 at_:At S (fz D P g b p o)
 m0:∀ w,0<=P.m w/\P.m w<=10
noncomputable def sel (is:List Nat) (l:List (Addr×O)):List (Addr×O):=is.filterMap (l[·]?)
section
variable {D:Cs}{S S':Sto}{P:Pl}{g b:Gs}{p:Addr}{o:O}{a':Ab}
theorem Wl.fst (h:Wl D S P g b p o) (w:W3):At S (lay D (P.ad w) (P.m w) (g.ab w)):=by
 cases w
 ·exact h.at_.pick [0,1,2,3,4,5,10,11,12,13] (by decide) rfl
 ·exact h.at_.pick [0,1,2,3,4,5,14,15,16,17] (by decide) rfl
 ·exact h.at_.pick [0,1,6,7,8,9,18,19,20,21] (by decide) rfl
theorem Wl.snd (h:Wl D S P g b p o) (w:W3):At S (bok (P.bk w) (P.m w) (b.ab w)):=by
 cases w
 ·exact h.at_.pick [22,23,24,25,29,30,31] (by decide) rfl
 ·exact h.at_.pick [22,23,24,25,32,33,34] (by decide) rfl
 ·exact h.at_.pick [22,26,27,28,35,36,37] (by decide) rfl
theorem Wl.up (h:Wl D S P g b p o) (w:W3) (u:Up S (lay D (P.ad w) (P.m w) (g.ab w)) S' (lay D (P.ad w) (P.m w) a')):Wl D S' P (g.set a' w) b p o:=by
 refine ⟨h.bx,?_,h.m0⟩
 cases w
 ·exact At.pick (At.up (l2:=sel [6,7,8,9,14,15,16,17,18,19,20,21,22,23,24,25,26,27,28,29,30,31,32,33,34,35,36,37,38] (fz D P g b p o)) (h.at_.pick [0,1,2,3,4,5,10,11,12,13,6,7,8,9,14,15,16,17,18,19,20,21,22,23,24,25,26,27,28,29,30,31,32,33,34,35,36,37,38] (by decide) rfl) u) [0,1,2,3,4,5,10,11,12,13,6,7,8,9,14,15,16,17,18,19,20,21,22,23,24,25,26,27,28,29,30,31,32,33,34,35,36,37,38] (by decide) rfl
 ·exact At.pick (At.up (l2:=sel [6,7,8,9,10,11,12,13,18,19,20,21,22,23,24,25,26,27,28,29,30,31,32,33,34,35,36,37,38] (fz D P g b p o)) (h.at_.pick [0,1,2,3,4,5,14,15,16,17,6,7,8,9,10,11,12,13,18,19,20,21,22,23,24,25,26,27,28,29,30,31,32,33,34,35,36,37,38] (by decide) rfl) u) [0,1,2,3,4,5,10,11,12,13,14,15,16,17,6,7,8,9,18,19,20,21,22,23,24,25,26,27,28,29,30,31,32,33,34,35,36,37,38] (by decide) rfl
 ·exact At.pick (At.up (l2:=sel [2,3,4,5,10,11,12,13,14,15,16,17,22,23,24,25,26,27,28,29,30,31,32,33,34,35,36,37,38] (fz D P g b p o)) (h.at_.pick [0,1,6,7,8,9,18,19,20,21,2,3,4,5,10,11,12,13,14,15,16,17,22,23,24,25,26,27,28,29,30,31,32,33,34,35,36,37,38] (by decide) rfl) u) [0,1,10,11,12,13,2,3,4,5,14,15,16,17,18,19,20,21,6,7,8,9,22,23,24,25,26,27,28,29,30,31,32,33,34,35,36,37,38] (by decide) rfl
theorem Wl.ub (h:Wl D S P g b p o) (w:W3) (u:Up S (bok (P.bk w) (P.m w) (b.ab w)) S' (bok (P.bk w) (P.m w) a')):Wl D S' P g (b.set a' w) p o:=by
 refine ⟨h.bx,?_,h.m0⟩
 cases w
 ·exact At.pick (At.up (l2:=sel [0,1,2,3,4,5,6,7,8,9,10,11,12,13,14,15,16,17,18,19,20,21,26,27,28,32,33,34,35,36,37,38] (fz D P g b p o)) (h.at_.pick [22,23,24,25,29,30,31,0,1,2,3,4,5,6,7,8,9,10,11,12,13,14,15,16,17,18,19,20,21,26,27,28,32,33,34,35,36,37,38] (by decide) rfl) u) [7,8,9,10,11,12,13,14,15,16,17,18,19,20,21,22,23,24,25,26,27,28,0,1,2,3,29,30,31,4,5,6,32,33,34,35,36,37,38] (by decide) rfl
 ·exact At.pick (At.up (l2:=sel [0,1,2,3,4,5,6,7,8,9,10,11,12,13,14,15,16,17,18,19,20,21,26,27,28,29,30,31,35,36,37,38] (fz D P g b p o)) (h.at_.pick [22,23,24,25,32,33,34,0,1,2,3,4,5,6,7,8,9,10,11,12,13,14,15,16,17,18,19,20,21,26,27,28,29,30,31,35,36,37,38] (by decide) rfl) u) [7,8,9,10,11,12,13,14,15,16,17,18,19,20,21,22,23,24,25,26,27,28,0,1,2,3,29,30,31,32,33,34,4,5,6,35,36,37,38] (by decide) rfl
 ·exact At.pick (At.up (l2:=sel [0,1,2,3,4,5,6,7,8,9,10,11,12,13,14,15,16,17,18,19,20,21,23,24,25,29,30,31,32,33,34,38] (fz D P g b p o)) (h.at_.pick [22,26,27,28,35,36,37,0,1,2,3,4,5,6,7,8,9,10,11,12,13,14,15,16,17,18,19,20,21,23,24,25,29,30,31,32,33,34,38] (by decide) rfl) u) [7,8,9,10,11,12,13,14,15,16,17,18,19,20,21,22,23,24,25,26,27,28,0,29,30,31,1,2,3,32,33,34,35,36,37,4,5,6,38] (by decide) rfl
theorem Wl.get (h:Wl D S P g b p o):S p=some o:=h.at_.get 38 rfl
theorem Wl.put {o':O}(h:Wl D S P g b p o) (hb:aO o'):Wl D (T2.put S p o') P g b p o':=⟨hb,h.at_.put 38 rfl,h.m0⟩
theorem Wl.new {q:Addr}{o':O}(h:Wl D S P g b p o) (hq:S q=none) (hb:aO o'):Wl D (T2.put S q o') P g b q o' :=
 ⟨hb,(h.at_.cons hq).pick [1,2,3,4,5,6,7,8,9,10,11,12,13,14,15,16,17,18,19,20,21,22,23,24,25,26,27,28,29,30,31,32,33,34,35,36,37,38,0] (by decide) rfl,h.m0⟩
noncomputable def Pl.us (P:Pl):List T2.T:=[.ref P.u0,.ref P.u1,.ref P.u2]
def Pl.ys (P:Pl):List T2.T:=[.ref P.y0,.ref P.y1]
def Pl.ss (P:Pl):List T2.T:=[.ref P.s0,.ref P.s1,.ref P.s2]
noncomputable def Pl.ls (P:Pl):List T2.T:=[.ref P.l0,.ref P.l1]
theorem Lz {Q:T2.T->Sto->Prop}{w:W3}(h:Q (.ref (P.ad w).u) S):gIx (.lst P.us) (.int (i3 w)) S Q:=cE (by cases w<;>rfl) h
theorem Lx {Q:T2.T->Sto->Prop}{w:W3}(h:Q (.ref (P.ad w).y) S):gIx (.lst P.ys) (.int (i3 w / 2)) S Q:=cE (by cases w<;>rfl) h
theorem Lw {Q:T2.T->Sto->Prop}{w:W3}(h:Q (.ref (P.bk w).s) S):gIx (.lst P.ss) (.int (i3 w)) S Q:=cE (by cases w<;>rfl) h
theorem Lv {Q:T2.T->Sto->Prop}{w:W3}(h:Q (.ref (P.bk w).l) S):gIx (.lst P.ls) (.int (i3 w / 2)) S Q:=cE (by cases w<;>rfl) h
theorem xA (P:Pl) (w:W3):(P.ad w).h=P.h:=by cases w<;>rfl
theorem pT (P:Pl) (w:W3):(P.bk w).t=P.t:=by cases w<;>rfl
end
def xB (D:Cs):WSp:=λts S Q=>∃ P g p o j,ts=[.lst P.us,.ref P.t,.lst P.ls,.lst P.ss]/\Wl D S P g g p o/\Gk j g/\j<=49/\Q (.bl true) S
theorem xG:FnScope ["_law_typists","_law_table","_law_layers","_law_states","_law_k","_law_due"] kQ (av k7):=by nofun
theorem Ko (F:!"_law_all_right" k7) (T:!0)
  (L5:!3 f1 LW eJ kW) (L6:Df K mg "_law_told_due" f1 LW eJ)
  (Mc:!7 f2 Nd vv6 (j8 C L R Y)) (Me:Meth K Y "told" f2) (Mf:aw K Nd vv6 [])
  (OC:!1 f3 P8 vv6 (tU Y)) (OD:Meth K Y "typed" f3) (OE:aw K P8 vv6 [])
  (Pa:!1 f4 Q1 vv6 (vo Y)) (Pb:Meth K Y "line" f4) (Pc:aw K Q1 vv6 [])
  (Mi:!5 f5 Rj du (h8 4)) (Mj:Df K mg "_law_same" f5 Rj du) :
  !8 f fd kQ (xB ⟨C,L,R,Y⟩):=by
 exists xG
 refine ⟨_,((aj (cD PassesOwn.never rfl (dB (by rfl) T.range af) (aW 4 nd) (aj (az 5 nd (ax L5 L6 hr.m (ac (aa 1) (ac (ak (aa 2) (aC di (aa 4) af)) (ac (ak (aa 3) (aa 4)) ae))))) (aj (ao (br (a0 (ax Mi Mj (hr.mono (by omega)) (ac (a9 (ac (c9 (T.gu Me) Mc Mf hr.m (ak (aa 0) (aa 4))) (ac (c9 (T.gu OD) OC OE hr.m (ak (aa 0) (aa 4))) ae))) (ac (a9 (ac (aa 5) (ac (aM w (ak (aa 3) (aa 4)) ai) ae))) ae))))) (ag (ap bP)) au) (ag (ao (br (a0 (ax Mi Mj (hr.mono (by omega)) (ac (c9 (T.gu Pb) Pa Pc hr.m (ak (aa 0) (aa 4))) (ac (aM w (ak (aa 3) (aa 4)) ai) ae))))) (ag (ap bP)) au))))) (ag (ap bP)))),aB λv hu ts S Q h=>?_⟩
 obtain ⟨P,g,p,o,j,rfl,hW,hG,hj,hq⟩:=h
 ac_nf
 ext
 refine fD (λk LO S'=>∃ u4 u5,LO=[some (.lst P.us),some (.ref P.t),some (.lst P.ls),some (.lst P.ss),u4,u5]/\S'=S) ⟨_,_,rfl,rfl⟩ ?_ ?_
 ·rintro k LO S' N hk ⟨u4,u5,rfl,rfl⟩ hN
  refine ⟨trivial,?_⟩
  obtain ⟨w3,hw⟩:=wD (r:=0+(k:Int)) (by omega) (by omega)
  rw [hw]
  have hA:=hW.fst w3
  have hB:=hW.snd w3
  have ok:=hG.kk w3 hj
  have hm:=hW.m0 w3
  have ol:=(hG.okj w3).1.ll
  have iu:=hA.tp.ty
  have iu':=iu
  unfold tyO at iu'
  have es:=hB.get 4 rfl
  have ec:=hB.get 6 rfl
  ext
  refine ⟨P.bk w3,P.m w3,g.ab w3,by rw [pT];rfl,hB,ok,hm.1,λ_=>?_⟩
  ext
  refine ⟨_,_,_,_,_,_,_,_,_,_,_,_,_,_,_,_,_,_,_,_,rfl,hA.tp,ok.ok,hm.1,λ_=>?_⟩
  ext
  refine ⟨_,_,_,_,_,_,rfl,iu,?_⟩
  ext
  refine ⟨_,_,rfl,?_,.inl rfl,?_⟩
  ·refine .inr (.inr (.inr (.inr ⟨_,.inr rfl,Nat.le_of_ble_eq_true rfl,λu hu=>?_⟩)))
   simp only [List.mem_cons,List.not_mem_nil,or_false] at hu
   rcases hu with rfl|rfl
   ·exact .lst (by unfold tld;exact Nat.le_trans (List.length_take_le ..) (by omega)) λ_=>.r4
   ·exact .str
  ext
  refine ⟨_,_,_,_,_,_,_,rfl,iu,hA.tp.li,?_⟩
  ext
  refine ⟨_,_,rfl,.lst (by omega) λ_=>.str,.inr ⟨_,_,rfl,rfl,ec⟩,?_⟩
  ext
  exact hN _ _ ⟨_,_,rfl,rfl⟩
 ·rintro LO S' ⟨u4,u5,rfl,rfl⟩
  refine ⟨trivial,?_⟩
  ext
  exact .mk hq
section
variable {C:Addr}{S S':Sto}{l l' nw:List (Addr×O)}{p d v y t q g c:Addr}{o u:O}
theorem At.grow (h:At S l) (nd:(nw.map (·.1)).Nodup) (hn:∀ x∈nw,S x.1=none) (hv:∀ x∈nw,S' x.1=some x.2) (k:∀ a o,S a=some o->S' a=some o):At S' (nw++l):=by
 refine ⟨List.map_append ▸ List.nodup_append.mpr ⟨nd,h.nd,λa ha b hb e=>?_⟩,λx hx=>?_⟩
 ·obtain ⟨x,hx,rfl⟩:=List.mem_map.mp ha
  obtain ⟨y,hy,rfl⟩:=List.mem_map.mp hb
  exact cG (h.is y hy) (hn x hx) e.symm
 ·rcases List.mem_append.mp hx with q|q
  ·exact hv x q
  ·exact k _ _ (h.is x q)
theorem At.four {a b c e:Addr}{oa ob oc oe:O}(h:At S l) (ha:S a=none) (ga:S' a=some oa) (gb:S' b=some ob) (gc:S' c=some oc) (ge:S' e=some oe) (nb:T2.put S a u b=none) (nc:T2.put S a u c=none) (ne:T2.put S a u e=none) (bc:b≠c) (be:b≠e) (ce:c≠e)
  (k:∀ x o,T2.put S a u x=some o->x≠a->S' x=some o):At S' ([(a,oa),(b,ob),(c,oc),(e,oe)]++l):=by
 obtain ⟨b1,b2⟩:=b6 nb
 obtain ⟨c1,c2⟩:=b6 nc
 obtain ⟨e1,e2⟩:=b6 ne
 refine h.grow ?_ ?_ ?_ λx o hx=>k x o ((aA (cG hx ha)).trans hx) (cG hx ha)
 ·simp only [List.map_cons,List.map_nil,List.nodup_cons,List.mem_cons,List.not_mem_nil,or_false,not_or]
  exact ⟨⟨Ne.symm b1,Ne.symm c1,Ne.symm e1⟩,⟨bc,be⟩,ce,not_false,List.nodup_nil⟩
 ·intro x hx
  simp only [List.mem_cons,List.not_mem_nil,or_false] at hx
  rcases hx with rfl|rfl|rfl|rfl<;>assumption
 ·intro x hx
  simp only [List.mem_cons,List.not_mem_nil,or_false] at hx
  rcases hx with rfl|rfl|rfl|rfl<;>assumption
theorem At.wood (hA:At S l) (h1:S p=none) (h2:T2.put S p (.ins C []) d=none):At (T2.put (T2.put (T2.put S p (.ins C [])) d (.dK [])) p o) ((d,.dK [])::(p,o)::l):=((hA.cons h1).cons h2).put 1 rfl
end
section
variable {S:Sto}{l:List (Addr×O)}{q s x z:Addr}{o o' ov:O}
theorem At.st (b:Nat) (hA:At S l) (e:l[b]?=some (q,o)) (hs:S s=none) (hx:T2.put (T2.put S s (.dK [])) q o' x=none) (hz:T2.put (T2.put (T2.put S s (.dK [])) q o') x (.dT []) z=none) :
  T2.put (T2.put (T2.put (T2.put S s (.dK [])) q o') x (.dT [])) z (.lst []) s=some (.dK [])/\At (T2.put (T2.put (T2.put (T2.put (T2.put S s (.dK [])) q o') x (.dT [])) z (.lst [])) s ov) ((z,.lst [])::(x,.dT [])::(s,ov)::l.set b (q,o')):=by
 have h2:=(hA.cons (o:=.dK []) hs).put (o':=o') (b+1) (by simpa using e)
 have h4:=(h2.cons (o:=.dT []) hx).cons (o:=.lst []) hz
 exact ⟨h4.get 2 rfl,h4.put 2 rfl⟩
theorem At.re (hA:At S l) (hs:S s=none) (hx:T2.put S s (.dK []) x=none) (hz:T2.put (T2.put S s (.dK [])) x (.dK []) z=none) :
  T2.put (T2.put (T2.put S s (.dK [])) x (.dK [])) z (.dK []) s=some (.dK [])/\At (T2.put (T2.put (T2.put (T2.put S s (.dK [])) x (.dK [])) z (.dK [])) s ov) ((z,.dK [])::(x,.dK [])::(s,ov)::l):=by
 have h4:=((hA.cons (o:=.dK []) hs).cons (o:=.dK []) hx).cons (o:=.dK []) hz
 exact ⟨h4.get 2 rfl,h4.put 2 rfl⟩
end
theorem HM {j:Nat}(h:nmR j=""):j=0:=by
 rcases j with _|_|_|_|_|j
 ·rfl
 iterate 4 exact absurd h (by decide +kernel)
 exact absurd (show ("choice":Str)="" from h) (by decide +kernel)
theorem vH {m:Int}{a:Ab}{d:Dd}(h:Sd (if rf m a d=0 then rs m a d else .non)):Pln 4 (out m a d):=by
 refine .tup (Nat.le_of_ble_eq_true rfl) λu hu=>?_
 simp only [List.mem_cons,List.not_mem_nil,or_false] at hu
 rcases hu with rfl|rfl
 ·exact .str
 ·rcases h with e|⟨z,e,_⟩
  ·rw [e];exact .inl rfl
  ·rw [e];exact .str
def iH:WSp:=λts S Q=>∃ ns:List Int,ts=[.scr ns]/\ns.length<=63/\∀ S',Q (.bl true) S'
theorem HN:FnScope ["_law_script","_law_pool_here","_law_box_here","_law_house","_law_upper","_law_states","_law_typists","_law_table","_law_layers","_law_k","_law_who","_law_deed","_law_word_here","_law_due"] ["_law_script"] (av fW):=by nofun
theorem HP (F:!"law" fW) (T:!0)
  (Mu:!1 f1 LW vv6 (oF C)) (Qp:Mk K C f1) (Mv:aw K LW vv6 [])
  (MO:!3 f2 Nd iV (tL C L)) (Qf:Mk K L f2) (MP:aw K Nd iV [])
  (NZ:!3 f3 P8 iT (tS Y R)) (Rn:Mk K Y f3) (N0:aw K P8 iT [])
  (Na:!2 f4 Q1 dw ie) (Nb:Df K mg "_law_box" f4 Q1 dw)
  (LM:!1 f5 Rj vv3 cS) (LN:Df K mg "_law_take" f5 Rj vv3)
  (Qg:!3 f6 fd6 kS vb) (Qh:Df K mg "_law_pool" f6 fd6 kS)
  (PL:!3 f7 fd7 vv7 t7) (PM:Df K mg "_law_deeds" f7 fd7 vv7)
  (PN:!10 f8 fd8 vv1 (t9 ⟨C,L,R,Y⟩)) (PP:Df K mg "_law_tried" f8 fd8 vv1)
  (OF:!4 f9 fd9 vv5 wz) (OG:Df K mg "_law_refusal" f9 fd9 vv5)
  (Qi:!5 f10 Rl vv5 vE) (Qj:Df K mg "_law_done" f10 Rl vv5)
  (M8:!8 f11 Rm kQ (xB ⟨C,L,R,Y⟩)) (M9:Df K mg "_law_all_right" f11 Rm kQ)
  (Mi:!5 f12 SJ du (h8 4)) (Mj:Df K mg "_law_same" f12 SJ du) :
  !11 f fd ["_law_script"] iH:=by
 exists HN
 refine ⟨_,((aj (az 1 nd (ax Qg Qh hr.m (ac (aa 0) (ac af (ac af ae))))) (aj (az 2 nd (ax Na Nb hr.m (ac (aa 0) (ac af ae)))) (aj (az 3 nd (nG Qp Mu Mv hr.m (by rfl) T.mg_Wood)) (aj (az 4 nd (a9 (ac (oo Qf MO MP hr.m (by rfl) T.mg_Layers (ac (aa 3) ae)) (ac (oo Qf MO MP hr.m (by rfl) T.mg_Layers (ac (aa 3) ae)) ae)))) (aj (az 5 nd (cU false vv26 1 [2] rfl (dB (by rfl) T.range af) (λ_ _ _ _=>(aW 0 (show List.Nodup (vv26:List Str) from by decide +kernel))) (λ_ _ _ _=>cQ) (λ_ _ _ _=>(DT ⟨by decide +kernel,by decide +kernel,by decide +kernel,by decide +kernel,by decide +kernel,by decide +kernel⟩ (aC (bi false) af (ax LM LN hr.m (ac (aa 1) (ac af ae)))) tF ai (gZ ae))))) (aj (jh false (i:=6) ["_law_k","_law_upper","_law_states"] 1 [4,5] rfl nd rfl (Or.inl rfl) (dB (by rfl) T.range af) (λ_ _ _ _=>(aW 0 (show List.Nodup (["_law_k","_law_upper","_law_states"]:List Str) from by decide +kernel))) (λ_ _ _ _=>cQ) (λ_ _ _ _=>(oo Rn NZ N0 hr.m (by rfl) T.mg_Typist (ac (ak (aa 1) (aC di (aa 0) af)) (ac (aM w (ak (aa 2) (aa 0)) ai) ae))))) (aj (az 7 nd eS) (aj (az 8 nd (a9 (ac (tm (by decide +kernel) eS eS) (ac (tm (by decide +kernel) eS eS) ae)))) (aj (cD PassesOwn.never rfl (qU (by rfl) T.range af (aC (bi false) af (ax LM LN hr.m (ac (aa 2) (ac af ae))))) (aW 9 nd) (aj (az 2 nd (ax Na Nb hr.m (ac (aa 0) (ac (aa 9) ae)))) (aj (az 10 nd (ax LM LN hr.m (ac (aa 2) (ac af ae)))) (aj (cD PassesOwn.never rfl (cB rfl (ax PL PM hr.m (ac (aa 2) (ac (aa 1) ae)))) (aW 11 nd) (aj (az 12 nd (ax OF OG hr.m (ac (aa 7) (ac (ak (aa 8) (aC di (aa 10) af)) (ac (ak (aa 5) (aa 10)) (ac (aa 11) ae)))))) (aj (az 13 nd ik) (aj (ao (ay hr (aa 12) ai) (ag (az 13 nd (ax Qi Qj hr.m (ac (aa 7) (ac (ak (aa 8) (aC di (aa 10) af)) (ac (ak (aa 5) (aa 10)) (ac (aa 11) ae))))))) au) (ag (ao (br (a0 (ax Mi Mj (hr.mono (by omega)) (ac (ax PN PP hr.m (ac (aa 3) (ac (ak (aa 4) (aC di (aa 10) af)) (ac (ak (aa 6) (aa 10)) (ac (aa 11) ae))))) (ac (aL (ac (aa 12) (ac (aa 13) ae))) ae))))) (ag (ap bP)) au)))))) (ag (ao (dq (iq (ay hr (ax LM LN hr.m (ac (aa 2) (ac af ae))) af) (gX (br (a0 (ax M8 M9 hr.m (ac (aa 6) (ac (aa 7) (ac (aa 8) (ac (aa 5) ae)))))))))) (ag (ap bP)) au)))))) (ag (ap (ax M8 M9 hr.m (ac (aa 6) (ac (aa 7) (ac (aa 8) (ac (aa 5) ae))))))))))))))))),aB λv hu ts S Q h=>?_⟩
 obtain ⟨ns,rfl,RN,hq⟩:=h
 ac_nf
 ext
 refine ⟨ns,0,8,rfl,by decide,by decide,by decide,by decide,λws Sm hw1 hw2=>?_⟩
 have hpool:gD ws:=⟨Sm.2,hw1,hw2⟩
 ext
 have hA:At (put S q ob) [(q,ob)]:=At.cons ⟨List.nodup_nil,λx hx=>nomatch hx⟩ hq0
 generalize put S q ob=S0 at hA ⊢
 clear Sm hw1 hw2
 intro h0 hh0
 refine ⟨h0,rfl,aF,λe0 he0=>⟨rfl,?_⟩⟩
 have hA:=hA.wood (o:=woO C e0 0) hh0 he0
 unfold woO at hA
 generalize put (put (put S0 h0 _) e0 _) h0 _=S1 at hA ⊢
 clear hh0 he0
 ext
 intro y0 hy0
 refine ⟨y0,h0,rfl,aF,λS2 p0 d0 v0 gy gp gv dv np nd1 nv kp=>⟨rfl,?_⟩⟩
 have hA:=hA.four hy0 gy gp.ins gp.dct gv np nd1 nv gp.ne (cZ gp.ins gv (by simp)) dv kp
 clear hy0 gy gp gv dv np nd1 nv kp
 ext
 intro y1 hy1
 refine ⟨y1,h0,rfl,aF,λS3 p1 d1 v1 gy gp gv dv np nd1 nv kp=>⟨rfl,?_⟩⟩
 have hA:=hA.four hy1 gy gp.ins gp.dct gv np nd1 nv gp.ne (cZ gp.ins gv (by simp)) dv kp
 clear hy1 gy gp gv dv np nd1 nv kp
 ext
 rw [show bT 0 (Int.toNat 3)=[.int 0,.int 1,.int 2] from rfl]
 refine ⟨trivial,?_⟩
 ext
 intro s0 hs
 have hb:=hA.get 10 rfl
 have hqs:q≠s0:=cG hb hs
 ext
 have hm0:0<=1+r/\1+r<=10:=by omega
 generalize 1+r=m0 at hm0 ⊢
 clear hr0 hr1
 ext
 intro x0 hx
 ext
 intro z0 hz
 have hA:=hA.st (ov:=.dK [(.inr "many",.int m0),(.inr "pairs",.ref x0),(.inr "typed",.str ""),(.inr "line",.ref z0)]) 10 rfl hs hx hz
 refine ⟨hA.1,by rw [sizeLine_eq];exact Nat.le_of_ble_eq_true rfl,?_⟩
 have hA:=hA.2
 generalize put (put (put (put (put _ s0 _) q _) x0 _) z0 _) s0 _=Sa at hA ⊢
 clear hs hx hz hb hqs
 refine ⟨trivial,?_⟩
 ext
 intro s1 hs
 have hb:=hA.get 13 rfl
 have hqs:q≠s1:=cG hb hs
 ext
 have hm1:0<=1+r/\1+r<=10:=by omega
 generalize 1+r=m1 at hm1 ⊢
 clear hr0 hr1
 ext
 intro x1 hx
 ext
 intro z1 hz
 have hA:=hA.st (ov:=.dK [(.inr "many",.int m1),(.inr "pairs",.ref x1),(.inr "typed",.str ""),(.inr "line",.ref z1)]) 13 rfl hs hx hz
 refine ⟨hA.1,by rw [sizeLine_eq];exact Nat.le_of_ble_eq_true rfl,?_⟩
 have hA:=hA.2
 generalize put (put (put (put (put _ s1 _) q _) x1 _) z1 _) s1 _=Sa at hA ⊢
 clear hs hx hz hb hqs
 refine ⟨trivial,?_⟩
 ext
 intro s2 hs
 have hb:=hA.get 16 rfl
 have hqs:q≠s2:=cG hb hs
 ext
 have RZ:0<=1+r/\1+r<=10:=by omega
 generalize 1+r=m2 at RZ ⊢
 clear hr0 hr1
 ext
 intro x2 hx
 ext
 intro z2 hz
 have hA:=hA.st (ov:=.dK [(.inr "many",.int m2),(.inr "pairs",.ref x2),(.inr "typed",.str ""),(.inr "line",.ref z2)]) 16 rfl hs hx hz
 refine ⟨hA.1,by rw [sizeLine_eq];exact Nat.le_of_ble_eq_true rfl,?_⟩
 have hA:=hA.2
 generalize put (put (put (put (put _ s2 _) q _) x2 _) z2 _) s2 _=Sa at hA ⊢
 clear hs hx hz hb hqs
 refine ⟨trivial,?_⟩
 ext
 rw [show bT 0 (Int.toNat 3)=[.int 0,.int 1,.int 2] from rfl]
 refine ⟨trivial,?_⟩
 have es:_=some (stO x0 z0 m0 ""):=hA.get 8 rfl
 ext
 intro u0 hu
 refine ⟨u0,y0,m0,rfl,aF,λSa q0 g0 c0 gt gq gg gc kp nq ng nc=>⟨rfl,by rw [sizeLine_eq];exact Nat.le_of_ble_eq_true rfl,?_⟩⟩
 have hA:=hA.four hu gt gq gg gc nq ng nc (cZ gq gg (by unfold prO;simp)) (cZ gq gc (by unfold prO;simp)) (cZ gg gc (by simp)) kp
 clear hu gt gq gg gc kp nq ng nc es
 refine ⟨trivial,?_⟩
 have es:_=some (stO x1 z1 m1 ""):=hA.get 9 rfl
 ext
 intro u1 hu
 refine ⟨u1,y0,m1,rfl,aF,λSa q1 g1 c1 gt gq gg gc kp nq ng nc=>⟨rfl,by rw [sizeLine_eq];exact Nat.le_of_ble_eq_true rfl,?_⟩⟩
 have hA:=hA.four hu gt gq gg gc nq ng nc (cZ gq gg (by unfold prO;simp)) (cZ gq gc (by unfold prO;simp)) (cZ gg gc (by simp)) kp
 clear hu gt gq gg gc kp nq ng nc es
 refine ⟨trivial,?_⟩
 have es:_=some (stO x2 z2 m2 ""):=hA.get 10 rfl
 ext
 intro u2 hu
 refine ⟨u2,y1,m2,rfl,aF,λSa q2 g2 c2 gt gq gg gc kp nq ng nc=>⟨rfl,by rw [sizeLine_eq];exact Nat.le_of_ble_eq_true rfl,?_⟩⟩
 have hA:=hA.four hu gt gq gg gc nq ng nc (cZ gq gg (by unfold prO;simp)) (cZ gq gc (by unfold prO;simp)) (cZ gg gc (by simp)) kp
 clear hu gt gq gg gc kp nq ng nc es
 refine ⟨trivial,?_⟩
 ext
 intro t0 ht
 have hA:=hA.cons (o:=.dK []) ht
 generalize put _ t0 (.dK [])=Sa at hA ⊢
 clear ht
 ext
 intro l0 hl
 ext
 intro o0 ho
 ext
 intro w0 hw
 have hA:=hA.re (ov:=.dK [(.inr "own",.ref o0),(.inr "hidden",.ref w0)]) hl ho hw
 refine ⟨hA.1,?_⟩
 have hA:=hA.2
 generalize put (put (put (put _ l0 _) o0 _) w0 _) l0 _=Sa at hA ⊢
 clear hl ho hw
 ext
 intro l1 hl
 ext
 intro o1 ho
 ext
 intro w1 hw
 have hA:=hA.re (ov:=.dK [(.inr "own",.ref o1),(.inr "hidden",.ref w1)]) hl ho hw
 refine ⟨hA.1,?_⟩
 have hA:=hA.2
 generalize put (put (put (put _ l1 _) o1 _) w1 _) l1 _=Sa at hA ⊢
 clear hl ho hw
 have hT:Wl ⟨C,L,R,Y⟩ Sa ⟨h0,e0,y0,p0,d0,v0,y1,p1,d1,v1,u0,q0,g0,c0,u1,q1,g1,c1,u2,q2,g2,c2,t0,l0,o0,w0,l1,o1,w1,s0,x0,z0,s1,x1,z1,s2,x2,z2,m0,m1,m2⟩ ⟨0,[],⟨0,[],[]⟩,⟨0,[],[]⟩,⟨0,[],"",[]⟩,⟨0,[],"",[]⟩,⟨0,[],"",[]⟩⟩ ⟨0,[],⟨0,[],[]⟩,⟨0,[],[]⟩,⟨0,[],"",[]⟩,⟨0,[],"",[]⟩,⟨0,[],"",[]⟩⟩ q _ :=
  ⟨hbx,hA.pick [37,36,32,33,34,35,28,29,30,31,15,16,17,18,11,12,13,14,7,8,9,10,6,5,4,3,2,1,0,27,26,25,24,23,22,21,20,19,38] (by decide) rfl,λw=>by cases w<;>assumption⟩
 have hO:Gk 0 ⟨0,[],⟨0,[],[]⟩,⟨0,[],[]⟩,⟨0,[],"",[]⟩,⟨0,[],"",[]⟩,⟨0,[],"",[]⟩⟩:=by
  have z:Mo 0 []:=⟨by decide,by simp,List.nodup_nil,by simp⟩
  have l:Lk 0 ⟨0,[],[]⟩:=⟨z,by decide,List.nodup_nil,by simp⟩
  have t:Tk 0 ⟨0,[],"",[]⟩:=⟨by decide +kernel,by decide,⟨Nat.le_refl _,by simp⟩,by simp,List.nodup_nil⟩
  exact ⟨z,by simp,by decide,l,l,t,t,t⟩
 clear hA hm0 hm1 RZ
 have hb:=hT.get
 ext
 have hT:=hT.put hbx
 generalize put Sa q o'=S7 at hT ⊢
 clear hb
 obtain ⟨P,hP⟩:∃ P:Pl,P=⟨h0,e0,y0,p0,d0,v0,y1,p1,d1,v1,u0,q0,g0,c0,u1,q1,g1,c1,u2,q2,g2,c2,t0,l0,o0,w0,l1,o1,w1,s0,x0,z0,s1,x1,z1,s2,x2,z2,m0,m1,m2⟩:=⟨_,rfl⟩
 rw [<- hP] at hT
 rw [show []++[T2.T.ref u0]++[T2.T.ref u1]++[T2.T.ref u2]=P.us by rw [hP];rfl,show []++[T2.T.ref s0]++[T2.T.ref s1]++[T2.T.ref s2]=P.ss by rw [hP];rfl,show [T2.T.ref y0,T2.T.ref y1]=P.ys by rw [hP];rfl,show [T2.T.ref l0,T2.T.ref l1]=P.ls by rw [hP];rfl,show h0=P.h by rw [hP],show t0=P.t by rw [hP]]
 clear hP
 refine fD (λj LO S'=>∃ p o g u9 u10 SL SM SN,LO=[some (.scr ns),some (.lst (ws.map T2.T.str)),some (.ref p),some (.ref P.h),some (.lst P.ys),some (.lst P.ss),some (.lst P.us),some (.ref P.t),some (.lst P.ls),u9,u10,SL,SM,SN]/\Wl ⟨C,L,R,Y⟩ S' P g g p o/\Gk j g) ⟨_,_,_,_,_,_,_,_,rfl,hT,hO⟩ ?_ ?_
 ·clear hT hO
  rintro j LO S' N hj ⟨p,o,g,u9,u10,SL,SM,SN,rfl,hT,hO⟩ hN
  have hj:j<48:=by omega
  refine ⟨trivial,?_⟩
  ext
  refine ⟨_,_,ws,rfl,aF,by assumption,hpool,λds o1 hds hb1=>?_⟩
  rw [bM]
  have hT:=hT.new hq0 hb1
  generalize put S' q o1=S8 at hT ⊢
  clear hq0
  obtain ⟨w3,rfl⟩:=wD (by assumption) (by assumption)
  ext
  refine fL (λrest LO S'=>∃ o jj g SL SM SN,LO=[some (.scr ns),some (.lst (ws.map T2.T.str)),some (.ref q),some (.ref P.h),some (.lst P.ys),some (.lst P.ss),some (.lst P.us),some (.ref P.t),some (.lst P.ls),some (.int (9+(j:Int))),some (.int (i3 w3)),SL,SM,SN]/\Wl ⟨C,L,R,Y⟩ S' P g g q o/\Gk jj g/\jj+(rest.map wt).sum<=j+1/\∀ d∈rest,OkD d/\OkN d) ⟨_,j,g,_,_,_,rfl,hT,hO,by have:=hds.wt;omega,λd hd=>⟨hds.ok d hd,hds.nu d hd⟩⟩ ?_ ?_
  ·clear hT hO hds
   rintro d rest LO S' N1 ⟨o,jj,g,SL,SM,SN,rfl,hT,hO,hw,hok⟩ hN1
   obtain ⟨hd,hn⟩:=hok d List.mem_cons_self
   have hok:=λx hx=>hok x (List.mem_cons_of_mem _ hx)
   rw [List.map_cons,List.sum_cons] at hw
   have kk:=hO.kk w3 (by omega)
   have hm:=(hT.m0 w3).1
   have hO2:=hO.aft (m:=P.m w3) (w:=w3) (by omega) hd hn
   refine ⟨trivial,?_⟩
   ext
   refine ⟨P.bk w3,P.m w3,g.ab w3,d,by rw [pT];rfl,hT.snd w3,kk,hm,hd,?_⟩
   ext
   by_cases h0:rf (P.m w3) (g.ab w3) d=0
   ·refine ck (by rw [h0];rfl) ?_
    ext
    refine ⟨P.bk w3,P.m w3,g.ab w3,d,jj,by rw [pT];rfl,hT.snd w3,kk,(hO.okj w3).2.1,by omega,hm,hd,h0,λS1 u=>?_⟩
    have hT:=hT.ub w3 u
    ext
    refine ⟨P.ad w3,P.m w3,g.ab w3,d,by rw [xA];rfl,hT.fst w3,kk,hm,hd,λS2 u2 so=>?_⟩
    have hT:=hT.up w3 u2
    have ea:aft (P.m w3) (g.ab w3) d=nxt (P.m w3) (g.ab w3) d:=if_pos h0
    rw [<- ea] at hT
    ext
    refine ⟨_,_,rfl,vH so,.inl (by unfold out;rw [if_pos h0]),?_⟩
    ext
    exact hN1 _ _ ⟨_,jj+wt d,_,_,_,_,rfl,hT,hO2,by omega,hok⟩
   ·refine b5 (λe=>h0 (HM e)) ?_
    ext
    refine ⟨P.ad w3,P.m w3,g.ab w3,d,by rw [xA];rfl,hT.fst w3,kk,hm,hd,λS2 u2 so=>?_⟩
    have hT:=hT.up w3 u2
    have ea:aft (P.m w3) (g.ab w3) d=g.ab w3:=if_neg h0
    rw [ea,vG] at hT hO2
    ext
    refine ⟨_,_,rfl,vH so,.inl (by unfold out;rw [if_neg h0]),?_⟩
    ext
    exact hN1 _ _ ⟨_,jj+wt d,_,_,_,_,rfl,hT,hO2,by omega,hok⟩
  ·clear hT hO
   rintro LO S' ⟨o,jj,g,SL,SM,SN,rfl,hT,hO,hw,_⟩
   rw [List.map_nil,List.sum_nil] at hw
   refine ⟨trivial,?_⟩
   have hb:=hT.get
   have hbb:=hT.bx
   ext
   have hT:=hT.put hbx
   generalize put S' q o'=S9 at hT ⊢
   refine ifB (λhb=>?_) λhb=>?_
   ·ext
    refine ⟨P,g,q,_,jj,rfl,hT,hO,by omega,?_⟩
    ext
    exact hN _ _ ⟨_,_,_,_,_,_,_,_,rfl,hT,hO.up (by omega)⟩
   ·ext
    exact hN _ _ ⟨_,_,_,_,_,_,_,_,rfl,hT,hO.up (by omega)⟩
 rintro LO S' ⟨p,o,g,u9,u10,SL,SM,SN,rfl,hT,hO⟩
 refine ⟨trivial,?_⟩
 ext
 exact ⟨P,g,p,o,_,rfl,hT,hO,by omega,.mk (hq _)⟩
theorem Av {K:PySem.W.Frag}{H:Hp}{a:Addr}{ns:List Int}{E:XK}(h:ns.length<=63) (hO:kJ H) (hS:SqL K H a (ns.map V.int)):lSp K iH [.ref a] H (λv _=>v=.bl true) E:=by
 refine ⟨λ_=>none,[.scr ns],λt _=>t=.bl true,?_,.cons (.scr ?_) .nil,⟨ns,rfl,h,λ_=>rfl⟩,?_⟩
 ·intro b o e;cases e
 rotate_left
 ·intro v H' t S' _ _ r e
  subst e;cases r;rfl
 rcases hS with (e|⟨o,e⟩)|e
 ·rcases hO a with z|⟨ob,xs,z⟩
  ·rw [e] at z;cases z
  ·rw [e] at z;cases z
 ·exact .inl ⟨rfl,o,e⟩
 ·exact .inr (.inr e)
end
end My
namespace My
open PySem L2 T2
section
variable {K:W.Frag}{h:Heap}{mg:Str->Option Value}{x q:Str}{st:Stmt}{f C:Addr}
theorem ln0 {P:List Value->Prop}(h:P []) (us:List Value) (e:us.length=0):P us:=by
 rcases us with _|⟨_,_⟩<;>first|(cases e;done)|exact h
theorem ln1 {P:List Value->Prop}(h:∀ a,P [a]) (us:List Value) (e:us.length=1):P us:=by
 rcases us with _|⟨_,_|⟨_,_⟩⟩<;>first|(cases e;done)|exact h _
theorem ln2 {P:List Value->Prop}(h:∀ a b,P [a,b]) (us:List Value) (e:us.length=2):P us:=by
 rcases us with _|⟨_,_|⟨_,_|⟨_,_⟩⟩⟩<;>first|(cases e;done)|exact h _ _
theorem ln3 {P:List Value->Prop}(h:∀ a b c,P [a,b,c]) (us:List Value) (e:us.length=3):P us:=by
 rcases us with _|⟨_,_|⟨_,_|⟨_,_|⟨_,_⟩⟩⟩⟩<;>first|(cases e;done)|exact h _ _ _
theorem ln4 {P:List Value->Prop}(h:∀ a b c d,P [a,b,c,d]) (us:List Value) (e:us.length=4):P us:=by
 rcases us with _|⟨_,_|⟨_,_|⟨_,_|⟨_,_|⟨_,_⟩⟩⟩⟩⟩<;>first|(cases e;done)|exact h _ _ _ _
theorem Dn.mk (d:Dn K x st f) (X:K.In h) (G:h.Ns mainGlobals mg) (ps:List Str) (hb:∀ (kV doc pm:Value) (an:Option Addr) (cdv ct:Value) (us:List Value),us.length=ps.length->bindArgs (W.fnOf x x (cA st) (bR st) (av st) .none kV doc pm an cdv ct) ⟨us,[]⟩=pure (ps.zip us):=by
  first|exact λ_ _ _ _ _ _=>My.ln1 λ_=>rfl|exact λ_ _ _ _ _ _=>My.ln2 λ_ _=>rfl|exact λ_ _ _ _ _ _=>My.ln3 λ_ _ _=>rfl|exact λ_ _ _ _ _ _=>My.ln4 λ_ _ _ _=>rfl|exact λ_ _ _ _ _ _=>My.ln0 rfl):∃ fd,Fun K x x st f fd/\Df K mg x f fd ps:=by
 obtain ⟨a,oc,od,kV,dc,pm,an,cd,ct,sl,l,c,k⟩:=d
 have F:=ui l c k
 exact ⟨_,F,W.mg_of X G a,k,F.binds hb⟩
theorem Mn.mk (d:Mn K C x q st f) (ps:List Str) (hb:∀ (kV doc pm:Value) (an:Option Addr) (cdv ct:Value) (us:List Value),us.length=ps.length->bindArgs (W.fnOf x q (cA st) (bR st) (av st) .none kV doc pm an cdv ct) ⟨us,[]⟩=pure (ps.zip us):=by
  first|exact λ_ _ _ _ _ _=>My.ln1 λ_=>rfl|exact λ_ _ _ _ _ _=>My.ln2 λ_ _=>rfl|exact λ_ _ _ _ _ _=>My.ln3 λ_ _ _=>rfl|exact λ_ _ _ _ _ _=>My.ln4 λ_ _ _ _=>rfl|exact λ_ _ _ _ _ _=>My.ln0 rfl):∃ fd,FunD K x q st f fd/\Meth K C x f/\aw K fd ps []:=by
 obtain ⟨a,i,oc,od,kV,dc,pm,an,cd,ct,sl,l,c,k⟩:=d
 exact ⟨_,⟨⟨_,_,_,_,_,_,_,_,_,_,rfl,l,c⟩⟩,⟨a,i,k⟩,.all (hb _ _ _ _ _ _)⟩
theorem Md.mk {i:Int}(d:Md K C x q st i f) (ps:List Str) (hb:∀ (e:Addr) (tk:Tok) (n:Nat) (oc:Value) (od:Option Addr) (sl:Array (Option Value)) (kV doc pm:Value) (an:Option Addr) (cdv ct:Value),K.lookup e=some ⟨oc,od,.seq #[.int i tk] n,sl⟩->aw K (W.fnOf x q (cA st) (bR st) (av st) (.ref e) kV doc pm an cdv ct) ps []/\aw K (W.fnOf x q (cA st) (bR st) (av st) (.ref e) kV doc pm an cdv ct) ps [.int i tk]:=by
  intro _ _ _ _ _ _ _ _ _ _ _ _ e;constructor<;>intro s us X h<;>rcases us with _|⟨_,_|⟨_,_|⟨_,_|⟨_,_⟩⟩⟩⟩<;>first|(cases h;done)|exact BindsTo.of_defaults rfl (X _ _ e) rfl rfl rfl):∃ fd tk,FunD K x q st f fd/\Meth K C x f/\aw K fd ps []/\aw K fd ps [.int i tk]:=by
 obtain ⟨a,j,e,tk,n,oc',od',sl',⟨oc,od,kV,dc,pm,an,cd,ct,sl,l,c,k⟩,g⟩:=d
 obtain ⟨b1,b2⟩:=hb _ _ _ _ _ _ kV dc pm an cd ct g
 exact ⟨_,tk,⟨⟨_,_,_,_,_,_,_,_,_,_,rfl,l,c⟩⟩,⟨a,j,k⟩,b1,b2⟩
theorem hid {G:Prop}(h:∀ P:Prop,(G->P)->P):G:=h G id
theorem Cn.cl (c:Cn K x C):Cls K C:=⟨c.2.1,c.2.2.1,c.2.2.2.1,c.2.2.2.2.1⟩
theorem Cn.mk (c:Cn K x C) (m:Meth K C "__init__" f):Mk K C f:=⟨c.2.2.2.2.2.1,m.at_,m.fn,c.2.2.2.2.2.2⟩
end
set_option hygiene false in
local macro_rules|`(‹$f:ident›)=>`($f (P:=l.prog) (w:=w) (mg:=mg) (base:=base))
theorem HQ {l:W.OpenLaw}{w:World}{K:W.Frag}{h:Heap}{mg:Str->Option Value}{fa:Addr}(X:K.In h) (G:h.Ns mainGlobals mg) (hfa:mg "law"=some (.ref fa)) (hF:Fx K) :
  ∃ fd:FuncData,(∀ (s:Shared) (v:Value),BindsTo s fd ⟨[v],[]⟩ [("_law_script",v)])/\∀ base:Heap,K.In base->base.Ns mainGlobals mg->FnOk l.prog w K mg base CX0 11 fa fd ["_law_script"] (lSp K iH):=by
 refine hid λP hP=>hF P ?_
 intro fr fb f1 f2 f3 f4 f5 frk fig ftk fwo fca fbx fta fwd fpo fco fti fsa ftx fke fde fiw fha ftd fre fus ftn fdo fcl ftr far flw fwi fwm fwq fwu fwz fwf fwh fwb fyi fyq fyz fyh fys fya fye fyu fyf fpi fpc fpf fpw fui fuk fub fuc fud ful fuh fut fuz fuf SO Ro R5 Rq Rr R6 Rs Ru Qx RK RL Q6 Qy m_wi m_wm m_wq m_wu m_wz m_wf m_wh m_wb PQ Qz OH m_yi m_yq m_yz m_yh m_ys m_ya m_ye m_yu m_yf OI PU Ol PV m_pi m_pc m_pf m_pw Pd Qk OJ m_ui m_uk m_ub m_uc m_ud m_ul m_uh m_ut m_uz m_uf Om Pe OK Pf On Rv R7 Rx Ry QB d_r d_b d_1 d_2 d_3 d_4 d_5 d_rk d_ig d_tk d_wo d_ca d_bx d_ta d_wd d_po d_co d_ti d_sa d_tx d_ke d_de d_iw d_ha d_td d_re d_us d_tn d_do d_cl d_tr d_ar d_lw z_len R8 z_all z_max z_min Rz PX SQ z_int z_str SR R9 t_ss t_ii t_ib t_tt t_ll t_lt t_st t_it t_sl t_il t_bb t_is t_nt t_nl t_bt t_bl t_bs PY PZ OL RA RB Sb Se RC RD RE RF QC QD OM Pg ON OO Oa Ph P0 Pj Pk Oo OP Pn OQ OR Ob OS Po OT OU Oc Od Op Oe Of NO
 have e:=hfa.symm.trans (W.mg_of X G d_lw.1)
 cases e
 have T:Txt K mg SO Ro R5 Rq ⟨Rr,R6,Rs,Ru,Qx⟩:=⟨W.mg_none_of X G z_len,W.mg_none_of X G R8,W.mg_none_of X G z_all,W.mg_none_of X G z_max,W.mg_none_of X G z_min,W.mg_none_of X G Rz,W.mg_none_of X G PX,W.mg_none_of X G SQ,W.mg_none_of X G z_int,W.mg_none_of X G z_str,W.mg_none_of X G SR,W.mg_none_of X G R9,t_ss,t_ii,t_ib,t_tt,t_ll,t_lt,t_st,t_it,t_sl,t_il,t_bb,t_is,t_nt,t_nl,t_bt,t_bl,t_bs,⟨_,W.mg_of X G PY⟩,⟨_,W.mg_of X G PZ⟩,⟨_,W.mg_of X G OL⟩,W.mg_of X G Qy.1,Qy.cl,PQ,Qz,W.mg_of X G OH.1,OH.cl,OI,PU,Ol,W.mg_of X G PV.1,PV.cl,Pd,Qk,W.mg_of X G OJ.1,OJ.cl,Om,Pe,OK,Pf,On,W.mg_of X G Rv,W.mg_of X G R7,W.mg_of X G Rx,W.mg_of X G Ry,W.mg_of X G QB,RA,RB,Sb,Se,RC,RD,RE,RF,QC,QD,OM,Pg,ON,OO,Oa,Ph,P0,Pj,Pk,Oo,OP,Pn,OQ,OR,Ob,OS,Po,OT,OU,Oc,Od,Op,Oe,Of,NO⟩
 obtain ⟨_,Fwi,Mwi,Bwi⟩:=m_wi.mk ["self"]
 have QL:=Qy.mk Mwi
 obtain ⟨_,Fwm,Mwm,Bwm⟩:=m_wm.mk ["self","word"]
 obtain ⟨_,Fwq,Mwq,Bwq⟩:=m_wq.mk ["self","word","count"]
 obtain ⟨_,_,Fwu,Mwu,Bwu,B0wu⟩:=m_wu.mk ["self","word","times"]
 obtain ⟨_,Fwz,Mwz,Bwz⟩:=m_wz.mk ["self","word"]
 obtain ⟨_,_,Fwf,Mwf,Bwf,B0wf⟩:=m_wf.mk ["self","times"]
 obtain ⟨_,Fwh,Mwh,Bwh⟩:=m_wh.mk ["self","word"]
 obtain ⟨_,Fwb,Mwb,Bwb⟩:=m_wb.mk ["self","beginning"]
 obtain ⟨_,Fyi,Myi,Byi⟩:=m_yi.mk ["self","house"]
 have Q2:=OH.mk Myi
 obtain ⟨_,Fyq,Myq,Byq⟩:=m_yq.mk ["self","word","count"]
 obtain ⟨_,Fyz,Myz,Byz⟩:=m_yz.mk ["self","word"]
 obtain ⟨_,Fyh,Myh,Byh⟩:=m_yh.mk ["self","word"]
 obtain ⟨_,Fys,Mys,Bys⟩:=m_ys.mk ["self","word"]
 obtain ⟨_,Fya,Mya,Bya⟩:=m_ya.mk ["self","beginning"]
 obtain ⟨_,Fye,Mye,Bye⟩:=m_ye.mk ["self","word"]
 obtain ⟨_,_,Fyu,Myu,Byu,B0yu⟩:=m_yu.mk ["self","word","times"]
 obtain ⟨_,_,Fyf,Myf,Byf,B0yf⟩:=m_yf.mk ["self","times"]
 obtain ⟨_,Fpi,Mpi,Bpi⟩:=m_pi.mk ["self"]
 have RG:=PV.mk Mpi
 obtain ⟨_,Fpc,Mpc,Bpc⟩:=m_pc.mk ["self","before","word"]
 obtain ⟨_,_,Fpf,Mpf,Bpf,B0pf⟩:=m_pf.mk ["self","times"]
 obtain ⟨_,Fpw,Mpw,Bpw⟩:=m_pw.mk ["self","before","word"]
 obtain ⟨_,Fui,Mui,Bui⟩:=m_ui.mk ["self","layers","many"]
 have Q3:=OJ.mk Mui
 obtain ⟨_,Fuk,Muk,Buk⟩:=m_uk.mk ["self","sign"]
 obtain ⟨_,Fub,Mub,Bub⟩:=m_ub.mk ["self"]
 obtain ⟨_,Fuc,Muc,Buc⟩:=m_uc.mk ["self"]
 obtain ⟨_,Fud,Mud,Bud⟩:=m_ud.mk ["self"]
 obtain ⟨_,Ful,Mul,Bul⟩:=m_ul.mk ["self"]
 obtain ⟨_,Fuh,Muh,Buh⟩:=m_uh.mk ["self"]
 obtain ⟨_,Fut,Mut,But⟩:=m_ut.mk ["self"]
 obtain ⟨_,Fuz,Muz,Buz⟩:=m_uz.mk ["self","number"]
 obtain ⟨_,_,Fuf,Muf,Buf,B0uf⟩:=m_uf.mk ["self","times"]
 obtain ⟨_,Fr,Dr⟩:=d_r.mk X G ["pair"]
 obtain ⟨_,Fb,Db⟩:=d_b.mk X G ["rated","many"]
 obtain ⟨_,F1,D1⟩:=d_1.mk X G ["sign"]
 obtain ⟨_,F2,D2⟩:=d_2.mk X G ["text"]
 obtain ⟨_,F3,D3⟩:=d_3.mk X G ["thing"]
 obtain ⟨_,F4,D4⟩:=d_4.mk X G ["mark","era"]
 obtain ⟨_,F5,D5⟩:=d_5.mk X G ["mark","era","times"]
 obtain ⟨_,Frk,Drk⟩:=d_rk.mk X G ["one"]
 obtain ⟨_,Fig,Dig⟩:=d_ig.mk X G ["text"]
 obtain ⟨_,Ftk,Dtk⟩:=d_tk.mk X G ["one"]
 obtain ⟨_,Fwo,Dwo⟩:=d_wo.mk X G ["rated","own"]
 obtain ⟨_,Fca,Dca⟩:=d_ca.mk X G ["_law_script","_law_k"]
 obtain ⟨_,Fbx,Dbx⟩:=d_bx.mk X G ["_law_script","_law_k"]
 obtain ⟨_,Fta,SS⟩:=d_ta.mk X G ["_law_box_here","_law_many"]
 obtain ⟨_,Fwd,Dwd⟩:=d_wd.mk X G ["_law_box_here"]
 obtain ⟨_,Fpo,Dpo⟩:=d_po.mk X G ["_law_script","_law_first","_law_most"]
 obtain ⟨_,Fco,Dco⟩:=d_co.mk X G ["_law_box_here"]
 obtain ⟨_,Fti,Dti⟩:=d_ti.mk X G ["_law_box_here"]
 obtain ⟨_,Fsa,Dsa⟩:=d_sa.mk X G ["_law_found","_law_due"]
 obtain ⟨_,Ftx,Dtx⟩:=d_tx.mk X G ["_law_box_here","_law_pool_here"]
 obtain ⟨_,Fke,Dke⟩:=d_ke.mk X G ["_law_box_here","_law_pool_here"]
 obtain ⟨_,Fde,Dde⟩:=d_de.mk X G ["_law_box_here","_law_pool_here"]
 obtain ⟨_,Fiw,Diw⟩:=d_iw.mk X G ["_law_text_here"]
 obtain ⟨_,Fha,Dha⟩:=d_ha.mk X G ["_law_table","_law_times_here"]
 obtain ⟨_,Ftd,Dtd⟩:=d_td.mk X G ["_law_house","_law_layer","_law_typist"]
 obtain ⟨_,Fre,Dre⟩:=d_re.mk X G ["_law_house","_law_layer","_law_typist","_law_deed"]
 obtain ⟨_,Fus,Dus⟩:=d_us.mk X G ["_law_house","_law_layer","_law_word_here","_law_times_here"]
 obtain ⟨_,Ftn,Dtn⟩:=d_tn.mk X G ["_law_house","_law_layer","_law_typist","_law_number"]
 obtain ⟨_,Fdo,Ddo⟩:=d_do.mk X G ["_law_house","_law_layer","_law_typist","_law_deed"]
 obtain ⟨_,Fcl,Dcl⟩:=d_cl.mk X G ["_law_house","_law_layers","_law_typist","_law_deed"]
 obtain ⟨_,Ftr,Dtr⟩:=d_tr.mk X G ["_law_house","_law_layers","_law_typist","_law_deed"]
 obtain ⟨_,Far,Dar⟩:=d_ar.mk X G ["_law_typists","_law_table","_law_layers","_law_states"]
 obtain ⟨_,oc,od,kV,dc,pm,an,cd,ct,sl,le,c,k⟩:=d_lw
 have Flw:=ui le c k
 refine hP ⟨W.fnOf "law" "law" (cA fW) (bR fW) (av fW) .none kV dc pm an cd ct,λs v=>.of_eq rfl,λbase _ _=>?_⟩
 have SU:=‹D6› Fta
 have Gca:=‹D7› Fca T
 have Gbx:=‹Ho› Fbx Gca Dca
 have Gwd:=‹D9› Fwd T SU SS
 have Gpo:=‹D'› Fpo T Gbx Dbx Gwd Dwd
 have Gco:=‹BH› Fco SU SS
 have Gti:=‹BI› Fti SU SS
 have G1:=‹Ak› F1
 have G2:=‹Al› F2 T G1 D1
 have G3:=‹Am› F3 T G2 D2
 have G4:=‹BJ› F4
 have G5:=‹Ea› F5 G4 D4
 have Gwi:=‹Eb› Fwi T
 have Gwm:=‹Ec› Fwm T
 have Gwq:=‹Hq› Fwq T G3 D3
 have Gwu:=‹Hr› Fwu T G5 D5 Gwm Mwm Bwm
 have Gwz:=‹An› Fwz T Gwm Mwm Bwm
 have Gwf:=‹Ed› Fwf T
 have Gwb:=‹BK› Fwb T G4 D4
 have Gwh:=‹Hs› Fwh T
 have Gr:=‹Ee› Fr
 have Gb:=‹Ef› Fb T Gr Dr
 have Rwm:=‹Eg› Fwm T
 have Rwq:=‹Ht› Fwq T G3 D3
 have Rwu:=‹Hu› Fwu T D5 Rwm Mwm Bwm
 have Rwz:=‹Ao› Fwz T Rwm Mwm Bwm
 have Gwo:=‹Eh› Fwo T Gb Db
 have Gyi:=‹BL› Fyi T Gwi QL Bwi
 have Gyq:=‹Ei› Fyq T Gwq Mwq Bwq
 have Gyz:=‹zl› Fyz T Gwz Mwz Bwz
 have Gyh:=‹Ej› Fyh T G3 D3
 have Gys:=‹Ek› Fys T
 have Gye:=‹El› Fye T Gwh Mwh Bwh
 have Gya:=‹Hx› Fya T Gwb Mwb Bwb Gye Mye Bye Gwo Dwo
 have Gyu:=‹Em› Fyu T Gwh Mwh Bwh Gwu Mwu Bwu
 have Gyf:=‹BM› Fyf T Gwf Mwf Bwf
 have Ryq:=‹En› Fyq T Rwq Mwq Bwq
 have Ryz:=‹zm› Fyz T Rwz Mwz Bwz
 have Ryh:=‹Eo› Fyh T G3 D3
 have Rys:=‹Ep› Fys T
 have Ryu:=‹Er› Fyu T Gwh Mwh Bwh Rwu Mwu Bwu
 have Gpi:=‹BN› Fpi T
 have Gpc:=‹Ap› Fpc T G5 D5
 have Gpf:=‹BO› Fpf T
 have Gpw:=‹Ke› Fpw T G4 D4
 have Gig:=‹Eu› Fig T G1 D1
 have Gui:=‹BP› Fui T Gpi RG Bpi
 have Guk:=‹HB› Fuk T Gig Dig
 have Ruk:=‹HC› Fuk T Gig Dig
 have Gub:=‹Ev› Fub T
 have Rub:=‹Ew› Fub T
 have Guc:=‹BQ› Fuc T
 have Gud:=‹BR› Fud T
 have Gul:=‹Ex› Ful T
 have Guh:=‹Ey› Fuh T
 have Grk:=‹Kf› Frk Gr Dr
 have Gtk:=‹Kg› Ftk Grk Drk
 have Gut:=‹Ez› Fut T Guh Muh Buh Gya Mya Bya Gpw Mpw Bpw Gtk Dtk
 have Guz:=‹BS› Fuz T Gut Mut But Gyu Myu B0yu Gpc Mpc Bpc Guh Muh Buh Guc Muc Buc
 have Ruz:=‹BU› Fuz T Gut Mut But
 have Guf:=‹BV› Fuf T Gyf Myf Byf Gpf Mpf Bpf
 have Gtx:=‹EA› Ftx T SU SS
 have Gke:=‹EB› Fke T SU SS
 have Gde:=‹BX› Fde T SU SS Gtx Dtx Gke Dke Gco Dco Gti Dti
 have Gcl:=‹EC› Fcl T Gwq Mwq Bwq Gwu Mwu Bwu Gwz Mwz Bwz Gwf Mwf Bwf Gyq Myq Byq Gyz Myz Byz Gyh Myh Byh Gys Mys Bys Gyu Myu Byu Gyf Myf Byf Guk Muk Buk Gub Mub Bub Guc Muc Buc Guz Muz Buz Guf Muf Buf
 have Rcl:=‹ED› Fcl T Rwq Mwq Bwq Rwu Mwu Bwu Rwz Mwz Bwz Ryq Myq Byq Ryz Myz Byz Ryh Myh Byh Rys Mys Bys Ryu Myu Byu Ruk Muk Buk Rub Mub Bub Ruz Muz Buz
 have Gtr:=‹BY› Ftr T Gcl Rcl Dcl
 have Giw:=‹zq› Fiw T
 have Gha:=Kj (B4 (P:=l.prog) (w:=w) (mg:=mg) (base:=base) Fha T) (Ar (P:=l.prog) (w:=w) (mg:=mg) (base:=base) Fha T)
 have Gtd:=‹Kn› Ftd T
 have Gre:=‹HI› Fre T Giw Diw Gtd Dtd
 have Gus:=‹HK› Fus T
 have Gtn:=‹HL› Ftn T Gtd Dtd Gus Dus
 have Gdo:=‹EH› Fdo T Gha Dha Gus Dus Gtn Dtn
 have Gsa:=‹ua› Fsa T Dsa 4
 have Gar:=‹Ko› Far T Gtd Dtd Gut Mut But Gud Mud Bud Gul Mul Bul Gsa Dsa
 exact HP Flw T Gwi QL Bwi Gyi Q2 Byi Gui Q3 Bui Gbx Dbx SU SS Gpo Dpo Gde Dde Gtr Dtr Gre Dre Gdo Ddo Gar Dar Gsa Dsa
theorem LK {l:PySem.W.OpenLaw}{q:Program}{loose:List Str}{XP:(Str->Option Value)->Heap->Prop}{YP:World->Heap->Prop}{d:DefRec}{K:Params->PySem.W.Frag}(hn:l.most=some 63) (hdf:d.params.defaults=[])
  (hY:∀ (w:World) (h:Heap),YP w h->(K w.params).In h)
  (F:∀ (w:World) (mg:Str->Option Value) (fa:Addr) (h:Heap),(K w.params).In h->h.Ns mainGlobals mg->mg d.name=some (.ref fa) ->
   ∃ fd:FuncData,(∀ (s:Shared) (u:Value),BindsTo s fd ⟨[u],[]⟩ [("_law_script",u)])/\∀ base:Heap,(K w.params).In base->base.Ns mainGlobals mg->FnOk l.prog w (K w.params) mg base CX0 11 fa fd ["_law_script"] (T2.lSp (K w.params) iH)) :
  PySem.W.WalkO q loose XP YP l.row.toRowW d [] (λf vs=>PySem.call f vs) :=
 L2.CB (n:=63) (k:=11) (x:="_law_script") (CX:=λ_=>CX0) (sp:=λw=>T2.lSp (K w.params) iH) hn (by decide) hdf ⟨rfl,by decide,by decide,rfl⟩ hY F (λ_ _ a ns hl hO hS=>Av hl hO hS) λ_ _ _ _ _ z=>z
end My
theorem PySem.Challenge.cw_aheadword_k63_whole_typists_apart_holds : PySem.Challenge.rw_aheadword_k63_whole_typists_apart.Holds :=
 My.headL λ_ _ _ _ d K h1 h2 hd hK hF=>My.LK (l:=PySem.Challenge.rw_aheadword_k63_whole_typists_apart) h1 h2 hK λw mg fa h KX G hmg=>My.HQ KX G (by rw [hd] at hmg;exact hmg) (hF w)
end

import PyProof.Rows.All
import OpenK.KWalk
import OpenK.KCls
import OpenK.KTop
import OpenK.KLaw
import Wide.FinOn
import KE.RegKIsAll
import KE.KItem
import KE.KxBytes
import PyProof.EqAt
import PyProof.EqKinds
import PyProof.NeData
import PyProof.TupleCall
import PyProof.MinMaxWalk
import KE.KDictList
import KE.KDictOf
import KE.KEqDict
import PyProof.AttrMissHeap
import PyProof.EnumFor
import PyProof.EnumMake
import PyProof.EnumStmt
import PyProof.TupleIter
import PyProof.Seq
import KE.KPairComp
import PyProof.DictItems
import PyProof.DictRoadsH
import PyProof.ReprRoads
import PyProof.ReprLen
import PyProof.StrLawsRepr
import PyProof.ExcClass2
import PyProof.InstStoreFacts
import PyProof.Rows.FStr
import PyProof.ExcAttrAll.ValueError
import KE.KDictSum
import KE.KRevSl
import PyProof.RaisesMany
import PyProof.RulesTry
import KE.KTryMore
import PyProof.RulesAs
import PyProof.ReprStr
import PyProof.ListStr
import PyProof.StrLawsIn
import KE.KDictLaws
import PyProof.NsDelKeeps
import PyProof.RulesAs
import PyProof.FString4
import PyProof.FString5
import PyProof.P3In
import PyProof.P3Eq
import PyProof.PureStr
import PyProof.Rows.RuleB_bool
import PyProof.IsRules
import PyProof.ExcAttrAll.ValueError
import PyProof.InstStoreFacts
import KE.KIntText
import PyProof.EnumFor
import PyProof.EnumMake
import PyProof.EnumStmt
import PyProof.StrCalls
import PyProof.StrBlock2
import PyProof.Rows.StrFit
import PyProof.Rows.FStr
import PyProof.Rows.FStrParts
import Open.Pieces
import PySem.Challenge.RW_aheadword_k76_rows_refused
set_option maxHeartbeats 0
set_option maxRecDepth 100000
set_option Elab.async false
set_option linter.all false
set_option compiler.extract_closed false
set_option genSizeOf false
noncomputable section
namespace L2
open PySem
noncomputable abbrev vU:List Value:=[.type "ValueError",.type "Exception",.type "BaseException",.type "object"]
noncomputable def bu (K:PySem.W.Frag) (C:Addr) (r:Option Value):Bool:=match K.lookup C with
 |some o=>o.cls==.type "type" && match o.data with
  |.cls cd=>(match cd.mro with
   |v::bm=>v==.ref C&&o.slots.toList.length==6&&o.slots.toList[4]?==some (some (.builtin "ValueError.__new__"))&&!cd.hasDel&&PySem.W.tailIn K vU bm&&PySem.W.nsOkIn K cd.ns&&PySem.W.nsIn K cd.ns "__init__" == some r
   |[]=>false)
  |_=>false
 |none=>false
def b5 (K:PySem.W.Frag) (C:Addr):Bool:=PySem.W.keepIn K (.ref C)&&PySem.W.findIn K (.ref C) "__getattribute__" == some (some (.builtin "BaseException.__getattribute__"))&&PySem.W.findIn K (.ref C) "__getattr__" == some none&&PySem.W.mroIn K C (.type "BaseException")==some true &&
 (PySem.W.clsIn K C).isSome&&PySem.W.findIn K (.ref C) "__class__" == some (some (.builtin "object.__class__"))&&PySem.W.specialIn K (.builtin "object.__class__") "__get__" == some (some (.builtin "getset_descriptor.__get__"))&&PySem.W.takesIn K (.builtin "object.__class__")==some true &&
 PySem.W.mroIn K C (.type "object")==some true
noncomputable def aK (s:Stmt) (j:Nat):Stmt:=match s with
 |.ClassDef _ _ _ body _ _ _ _ _ _ _=>body.getD j (.Pass ⟨0,0,0,0⟩)
 |_=>.Pass ⟨0,0,0,0⟩
noncomputable def ck (s:Stmt):Arguments:=match s with
 |.FunctionDef _ a _ _ _ _ _ _ _ _=>a
 |_=>{ posonlyargs:=[],args:=[],vararg:=none,kwonlyargs:=[],kw_defaults:=[],kwarg:=none,defaults:=[] }
def bG (s:Stmt):List Stmt:=match s with
 |.FunctionDef _ _ b _ _ _ _ _ _ _=>b
 |_=>[]
noncomputable def aq (s:Stmt):Scope:=match s with
 |.FunctionDef _ _ _ _ _ _ sc _ _ _=>sc
 |_=>{ kind:=.function,names:=[],isGenerator:=false,isCoroutine:=false }
end L2
namespace My
open PySem L2
noncomputable def top (i:Nat):Stmt:=PySem.Challenge.pw_aheadword_k76_rows_refused.main.body.getD i (.Pass ⟨0,0,0,0⟩)
abbrev kY:Stmt:=top 12
abbrev lf:Stmt:=top 13
abbrev kN:Stmt:=top 18
abbrev lh:Stmt:=top 19
abbrev lj:Stmt:=top 20
abbrev kZ:Stmt:=top 21
abbrev kO:Stmt:=top 22
abbrev kP:Stmt:=aK (top 24) 0
abbrev iG:Stmt:=aK (top 24) 1
abbrev iR:Stmt:=aK (top 24) 2
abbrev iS:Stmt:=aK (top 24) 3
abbrev iH:Stmt:=aK (top 24) 4
abbrev kQ:Stmt:=aK (top 24) 5
abbrev k6:Stmt:=aK (top 24) 7
abbrev kE:Stmt:=aK (top 24) 9
abbrev kF:Stmt:=aK (top 24) 10
abbrev k7:Stmt:=top 26
abbrev kq:Stmt:=aK (top 27) 0
abbrev iN:Stmt:=aK (top 27) 1
abbrev iD:Stmt:=aK (top 27) 2
abbrev iI:Stmt:=aK (top 27) 3
abbrev iJ:Stmt:=aK (top 27) 4
abbrev kh:Stmt:=aK (top 27) 6
abbrev ke:Stmt:=aK (top 27) 7
abbrev iO:Stmt:=aK (top 27) 8
abbrev kr:Stmt:=aK (top 27) 9
abbrev kR:Stmt:=top 29
abbrev kS:Stmt:=top 30
abbrev kG:Stmt:=top 31
abbrev kH:Stmt:=aK (top 33) 0
abbrev km:Stmt:=aK (top 33) 1
abbrev kI:Stmt:=aK (top 33) 2
abbrev ki:Stmt:=aK (top 33) 4
abbrev kJ:Stmt:=top 34
abbrev lq:Stmt:=top 36
abbrev k8:Stmt:=top 37
abbrev kx:Stmt:=aK (top 38) 0
abbrev iP:Stmt:=aK (top 38) 1
abbrev iK:Stmt:=aK (top 38) 2
abbrev kn:Stmt:=aK (top 38) 3
abbrev ko:Stmt:=aK (top 38) 4
abbrev kA:Stmt:=aK (top 38) 5
abbrev kf:Stmt:=aK (top 38) 6
abbrev kB:Stmt:=aK (top 38) 7
abbrev iL:Stmt:=aK (top 38) 8
abbrev kC:Stmt:=aK (top 38) 9
abbrev iE:Stmt:=top 44
abbrev iB:Stmt:=top 45
abbrev lV:Stmt:=top 46
abbrev kT:Stmt:=top 47
abbrev kU:Stmt:=aK (top 48) 0
abbrev iT:Stmt:=aK (top 48) 1
abbrev iC:Stmt:=aK (top 48) 2
abbrev iF:Stmt:=aK (top 48) 3
abbrev iM:Stmt:=aK (top 48) 4
abbrev iQ:Stmt:=aK (top 48) 5
abbrev kg:Stmt:=aK (top 48) 6
abbrev kD:Stmt:=top 50
abbrev lx:Stmt:=top 51
abbrev k9:Stmt:=top 52
abbrev kK:Stmt:=top 53
abbrev kL:Stmt:=top 54
abbrev lB:Stmt:=top 55
abbrev la:Stmt:=top 56
abbrev lb:Stmt:=top 57
abbrev kM:Stmt:=top 58
abbrev kW:Stmt:=top 59
abbrev kj:Stmt:=top 60
abbrev fI:Stmt:=top 61
abbrev Ns (K:W.Frag) (x:Str) (v:Option Value):Prop:=W.nsIn K mainGlobals x=some v
abbrev No (K:W.Frag) (C:Addr) (x:Str):Prop:=W.findIn K (.ref C) x=some none
def FnA (K:W.Frag) (x q:Str) (st:Stmt) (dv:Value) (f:Addr):Prop:=∃ oc od kV dc pm an cd ct sl,K.lookup f=some ⟨oc,od,.func (W.fnOf x q (ck st) (bG st) (aq st) dv kV dc pm an cd ct),sl⟩/\W.codeIn K cd q=true/\W.keepIn K (.ref f)=true
def Dn (K:W.Frag) (x:Str) (st:Stmt) (f:Addr):Prop:=Ns K x (some (.ref f))/\FnA K x x st .none f
def Mn (K:W.Frag) (C:Addr) (x q:Str) (st:Stmt) (f:Addr):Prop:=W.findIn K (.ref C) x=some (some (.ref f))/\W.isFn K (.ref f)=true/\FnA K x q st .none f
def Md (K:W.Frag) (C:Addr) (x q:Str) (st:Stmt) (i:Int) (f:Addr):Prop:=W.findIn K (.ref C) x=some (some (.ref f))/\W.isFn K (.ref f)=true/\∃ d tk n oc od sl,FnA K x q st (.ref d) f/\K.lookup d=some ⟨oc,od,.seq #[.int i tk] n,sl⟩
def Cn (K:W.Frag) (x:Str) (C:Addr):Prop:=Ns K x (some (.ref C))/\W.plainGet K C Str.empty=true/\W.hasDictIn K C=true/\W.plainOver K C=true/\W.findIn K (.ref C) "__setattr__"=some (some (.builtin "object.__setattr__"))/\W.makesIn K C=true/\W.keepIn K (.ref C)=true
theorem FnA.of {K:W.Frag}{x q:Str}{st:Stmt}{dv oc kV dc pm cd ct:Value}{f:Addr}{od an:Option Addr}{sl:Array (Option Value)}(l:K.lookup f=some ⟨oc,od,.func (W.fnOf x q (ck st) (bG st) (aq st) dv kV dc pm an cd ct),sl⟩) (c:W.codeIn K cd q=true) (k:W.keepIn K (.ref f)=true):FnA K x q st dv f:=⟨_,_,_,_,_,_,_,_,_,l,c,k⟩
theorem Md.of {K:W.Frag}{C d f:Addr}{x q:Str}{st:Stmt}{i:Int}{tk:Tok}{n:Nat}{oc:Value}{od:Option Addr}{sl:Array (Option Value)}(a:W.findIn K (.ref C) x=some (some (.ref f))) (b:W.isFn K (.ref f)=true) (c:FnA K x q st (.ref d) f) (l:K.lookup d=some ⟨oc,od,.seq #[.int i tk] n,sl⟩):Md K C x q st i f:=⟨a,b,d,tk,n,oc,od,sl,c,l⟩
def Fx (K:W.Frag):Prop:=∀ R:Prop,(∀ {fr fb f1 f2 f3 f4 f5 fwo ffg fnb fwt frk fig ftk fnw fcw fls ftt fca fbx fta fln fir fod fsg fbt fan flk frr flw fwi fwm fwq fwu fwz fwf fwh fwb fww fyi fyq fyz fyh fys fya fye fyu fyf fpi fpc fpf fpw fui fuk fub fuc fud ful fuh fut fuz fuf fdi fds fda fdw fdc fdg fdt C_Wood C_Layers C_Pairs C_Typist C_Desk C_NoWord C_Twice C_Absent C_NoSign C_NoChoice C_NoRow C_Beside C_NoText C_AheadError:Addr}{tk_MOST_SIGNS tk_MOST_PARTS tk_MOST_LETTERS tk_ROW_FIGURES tk_MOST_COUNT tk_MOST_TIMES tk_MOST_NUMBER:Tok},Cn K "Wood" C_Wood->Mn K C_Wood "__init__" "Wood.__init__" kP fwi->Mn K C_Wood "mark_of" "Wood.mark_of" iG fwm->Mn K C_Wood "put" "Wood.put" iR fwq->Md K C_Wood "use" "Wood.use" iS 1 fwu->Mn K C_Wood "strike" "Wood.strike" iH fwz->Md K C_Wood "fade" "Wood.fade" kQ 1 fwf->Mn K C_Wood "has" "Wood.has" k6 fwh->Mn K C_Wood "begun" "Wood.begun" kE fwb->Mn K C_Wood "words" "Wood.words" kF fww->No K C_Wood "marks"->No K C_Wood "now"->Cn K "Layers" C_Layers->Mn K C_Layers "__init__" "Layers.__init__" kq fyi->Mn K C_Layers "put" "Layers.put" iN fyq->Mn K C_Layers "strike" "Layers.strike" iD fyz->Mn K C_Layers "hide" "Layers.hide" iI fyh->Mn K C_Layers "show" "Layers.show" iJ fys->Mn K C_Layers "all_told" "Layers.all_told" kh fya->Mn K C_Layers "is_seen_of_house" "Layers.is_seen_of_house" ke fye->Md K C_Layers "use" "Layers.use" iO 1 fyu->Md K C_Layers "fade" "Layers.fade" kr 1 fyf->No K C_Layers "house"->No K C_Layers "own"->No K C_Layers "veiled"->Cn K "Pairs" C_Pairs->Mn K C_Pairs "__init__" "Pairs.__init__" kH fpi->Mn K C_Pairs "choose" "Pairs.choose" km fpc->Md K C_Pairs "fade" "Pairs.fade" kI 1 fpf->Mn K C_Pairs "worth_of" "Pairs.worth_of" ki fpw->No K C_Pairs "marks"->No K C_Pairs "now"->Cn K "Typist" C_Typist->Mn K C_Typist "__init__" "Typist.__init__" kx fui->Mn K C_Typist "key" "Typist.key" iP fuk->Mn K C_Typist "back" "Typist.back" iK fub->Mn K C_Typist "clear" "Typist.clear" kn fuc->Mn K C_Typist "typed" "Typist.typed" ko fud->Mn K C_Typist "line" "Typist.line" kA ful->Mn K C_Typist "last_chosen" "Typist.last_chosen" kf fuh->Mn K C_Typist "told" "Typist.told" kB fut->Mn K C_Typist "take" "Typist.take" iL fuz->Md K C_Typist "fade" "Typist.fade" kC 1 fuf->No K C_Typist "layers"->No K C_Typist "many"->No K C_Typist "pairs"->No K C_Typist "text"->No K C_Typist "chosen"->Cn K "Desk" C_Desk->Mn K C_Desk "__init__" "Desk.__init__" kU fdi->Mn K C_Desk "say" "Desk.say" iT fds->Mn K C_Desk "say_alone" "Desk.say_alone" iC fda->Mn K C_Desk "say_with" "Desk.say_with" iF fdw->Mn K C_Desk "change" "Desk.change" iM fdc->Mn K C_Desk "go_on" "Desk.go_on" iQ fdg->Mn K C_Desk "typed_answer" "Desk.typed_answer" kg fdt->No K C_Desk "house"->No K C_Desk "layers"->No K C_Desk "typist"->Ns K "NoWord" (some (.ref C_NoWord))->Ns K "Twice" (some (.ref C_Twice))->Ns K "Absent" (some (.ref C_Absent))->Ns K "NoSign" (some (.ref C_NoSign))->Ns K "NoChoice" (some (.ref C_NoChoice))->Ns K "NoRow" (some (.ref C_NoRow))->Ns K "Beside" (some (.ref C_Beside))->Ns K "NoText" (some (.ref C_NoText))->Ns K "AheadError" (some (.ref C_AheadError))->Dn K "rank_key" kY fr->Dn K "best_of" lf fb->Dn K "is_letter" kN f1->Dn K "is_part" lh f2->Dn K "is_word" lj f3->Dn K "worth_at" kZ f4->Dn K "used_mark" kO f5->Dn K "with_own" k7 fwo->Dn K "is_figure" kR ffg->Dn K "number_of" kS fnb->Dn K "wood_texts" kG fwt->Dn K "ranked_key" kJ frk->Dn K "is_sign" lq fig->Dn K "told_key" k8 ftk->Dn K "number_within" iE fnw->Dn K "count_and_word" iB fcw->Dn K "listed" lV fls->Dn K "told_text" kT ftt->Dn K "_law_cell_at" kD fca->Dn K "_law_box" lx fbx->Dn K "_law_take" k9 fta->Dn K "_law_number" kK fln->Dn K "_law_is_row" kL fir->Dn K "_law_odd" lB fod->Dn K "_law_sign" la fsg->Dn K "_law_bent" lb fbt->Dn K "_law_answer" kM fan->Dn K "_law_looks" kW flk->Dn K "_law_row_right" kj frr->Dn K "law" fI flw->Ns K "len" none->Ns K "range" none->Ns K "all" none->Ns K "sorted" none->Ns K "isinstance" none->Ns K "int" none->Ns K "str" none->Ns K "list" none->Ns K "min" none->Ns K "enumerate" none->Ns K "ValueError" none->W.kitOne K (.type "str") (.type "str")=some true->Ns K "MOST_SIGNS" (some (.int 24 tk_MOST_SIGNS))->Ns K "MOST_PARTS" (some (.int 4 tk_MOST_PARTS))->Ns K "MOST_LETTERS" (some (.int 12 tk_MOST_LETTERS))->Ns K "ROW_FIGURES" (some (.int 10 tk_ROW_FIGURES))->Ns K "MOST_COUNT" (some (.int 1000000000 tk_MOST_COUNT))->Ns K "MOST_TIMES" (some (.int 1000000 tk_MOST_TIMES))->Ns K "MOST_NUMBER" (some (.int 9999999999 tk_MOST_NUMBER))->bu K C_NoWord none=true->W.keepIn K (.ref C_NoWord)=true->b5 K C_NoWord=true->W.exmOne K (.ref C_NoWord) (.ref C_AheadError)=some true->W.kitOne K (.ref C_NoWord) (.ref C_NoRow)=some false->W.kitAny K (.ref C_NoWord) (List.map Value.ref [C_Absent,C_Beside,C_NoChoice,C_NoSign,C_NoText,C_NoWord,C_Twice])=some true->W.kitOne K (.ref C_NoWord) (.type "ValueError")=some true->bu K C_Twice none=true->W.keepIn K (.ref C_Twice)=true->b5 K C_Twice=true->W.exmOne K (.ref C_Twice) (.ref C_AheadError)=some true->W.kitOne K (.ref C_Twice) (.ref C_NoRow)=some false->W.kitAny K (.ref C_Twice) (List.map Value.ref [C_Absent,C_Beside,C_NoChoice,C_NoSign,C_NoText,C_NoWord,C_Twice])=some true->W.kitOne K (.ref C_Twice) (.type "ValueError")=some true->bu K C_Absent none=true->W.keepIn K (.ref C_Absent)=true->b5 K C_Absent=true->W.exmOne K (.ref C_Absent) (.ref C_AheadError)=some true->W.kitOne K (.ref C_Absent) (.ref C_NoRow)=some false->W.kitAny K (.ref C_Absent) (List.map Value.ref [C_Absent,C_Beside,C_NoChoice,C_NoSign,C_NoText,C_NoWord,C_Twice])=some true->W.kitOne K (.ref C_Absent) (.type "ValueError")=some true->bu K C_NoSign none=true->W.keepIn K (.ref C_NoSign)=true->b5 K C_NoSign=true->W.exmOne K (.ref C_NoSign) (.ref C_AheadError)=some true->W.kitOne K (.ref C_NoSign) (.ref C_NoRow)=some false->W.kitAny K (.ref C_NoSign) (List.map Value.ref [C_Absent,C_Beside,C_NoChoice,C_NoSign,C_NoText,C_NoWord,C_Twice])=some true->W.kitOne K (.ref C_NoSign) (.type "ValueError")=some true->bu K C_NoChoice none=true->W.keepIn K (.ref C_NoChoice)=true->b5 K C_NoChoice=true->W.exmOne K (.ref C_NoChoice) (.ref C_AheadError)=some true->W.kitOne K (.ref C_NoChoice) (.ref C_NoRow)=some false->W.kitAny K (.ref C_NoChoice) (List.map Value.ref [C_Absent,C_Beside,C_NoChoice,C_NoSign,C_NoText,C_NoWord,C_Twice])=some true->W.kitOne K (.ref C_NoChoice) (.type "ValueError")=some true->bu K C_NoRow none=true->W.keepIn K (.ref C_NoRow)=true->b5 K C_NoRow=true->W.exmOne K (.ref C_NoRow) (.ref C_AheadError)=some true->W.kitOne K (.ref C_NoRow) (.ref C_NoRow)=some true->W.kitAny K (.ref C_NoRow) (List.map Value.ref [C_Absent,C_Beside,C_NoChoice,C_NoSign,C_NoText,C_NoWord,C_Twice])=some false->W.kitOne K (.ref C_NoRow) (.type "ValueError")=some true->R)->R
noncomputable def pick {α:Type}:List Nat->Nat->List α->List α
 |_,_,[]=>[]
 |[],_,l=>l
 |k::ks,i,x::l=>if i=k then pick ks (i+1) l else x::pick (k::ks) (i+1) l
noncomputable def fR:Program:={ PySem.Challenge.pw_aheadword_k76_rows_refused with main:={ PySem.Challenge.pw_aheadword_k76_rows_refused.main with body:=pick [1,11,14,23,25,28,32,35,39,49] 0 PySem.Challenge.pw_aheadword_k76_rows_refused.main.body } }
section
open PySem.W PyProof.Rows
abbrev dN (l:List Value):Obj:=⟨.type "tuple",none,.seq ⟨l⟩ 0,⟨[]⟩⟩
abbrev cZ (c:Value) (l:List Value):Obj:=⟨c,none,.fields ⟨l⟩,⟨[]⟩⟩
abbrev I (i:Nat):Value:=.int i 0
abbrev vV:Str:="/claim/cut.py"
noncomputable def txE:List Str->Nat->List Value
 |[],_=>[]
 |x::l,k=>.str x k::txE l (k+1)
noncomputable def nR (x q:Str) (line argc fl:Nat) (f:Bool) (n k k':Nat) (a b c:Value):Obj :=
 cZ (.type "code") [.str x k,.str q (k+1),.str vV (k+2),I line,I argc,I 0,I 0,I fl,.ref n,.bool f,I 181,.ref (n+1),.none,a,b,c,I k',I line,.str vV (k'+1)]
abbrev vX (c:Value) (d:FuncData):Obj:=⟨c,none,.func d,⟨[]⟩⟩
structure Bd where
 o:List Obj
 n:Nat
 k:Nat
 t:List Value
 g:List DictEntry
noncomputable def cI (P:Params) (x:Str) (k:Nat) (v:Value):DictEntry:=⟨PyData.keyHash P x,.str x k,v⟩
noncomputable def dfl:List Expr->Nat->List Value
 |.Constant (.int i) _ _::l,k=>.int i k::dfl l (k+1)
 |_,_=>[]
def fnE (P:Params) (m:Value) (c:Str):Stmt->Bd->Bd
 |.FunctionDef x a b _ _ _ sc _ _ pos,⟨o,n,k,t,g⟩ =>
  let q:=c++x
  let z:=match a.defaults with
   |[]=>(o,n,k,Value.none)
   |l=>(dN (dfl l k)::o,n+1,k+l.length,.ref n)
  match z with
  |(o,n,k,dv) =>
  let fd:FuncData:=⟨x,q,a,.stmts b,sc,0,[],.none,.none,.none,.none,none,.none,.none,0⟩
  let o:=cZ .none []::dN []::o
  let r:=match localNames a sc (.stmts b) with
   |some (l,_)=>(dN []::dN (txE l (k+3))::o,n+4,k+3+l.length,Value.ref (n+2),Value.ref (n+3))
   |none=>(o,n+2,k+3,.none,.none)
  match r with
  |(o,e,k',u,v) =>
   ⟨vX (.type "function") ⟨x,q,a,.stmts b,sc,3,[],dv,.none,.none,m,none,.ref (e+1),.none,0⟩ ::
    nR x q pos.line a.args.length 3 true n k k' u v (.ref e)::vX .none fd::o,e+3,k'+3,.ref (e+1)::I pos.col::I pos.line::t,cI P x (k'+2) (.ref (e+2))::g⟩
 |_,b=>b
def vY (P:Params) (m:Value) (c:Str):List Stmt->Bd->Bd
 |[],b=>b
 |s::l,b=>vY P m c l (fnE P m c s b)
structure Gl where
 b:Bd
 m:Value
 c:List (Str×List Value)
 s:List Value
def uL (l:List DictEntry) (c:Nat):Obj:=⟨.type "dict",none,.dict ⟨l⟩ c,⟨[]⟩⟩
def oR (P:Params) (x:Str) (bases:List Value) (mro:List Value) (root own:Bool) (nw:String) (body:List Stmt) (st:List Str) (pos:Pos) (m:Value):Bd->Bd
 |⟨o,n,k,t,g⟩ =>
  let r:=vY P m (x ++ ".") body ⟨[],n+7,k+12,[],[cI P "__firstlineno__" (k+11) (.int pos.line (k+10)),cI P "__qualname__" (k+9) (.str x (k+8)),cI P "__module__" (k+7) m]⟩
  match r with
  |⟨fo,e,j,ct,cg⟩ =>
  let j1:=j+st.length
  let g0:=cI P "__static_attributes__" j1 (.ref e)::cg
  let d:=e+1
  let y:=e+2
  let j2:=j1+1
  let z:=match own,root with
   |true,_=>([cZ (.type "getset_descriptor") [.str "__weakref__" (j2+2),.ref y,.builtin "ExceptionGroup.__weakref__",.none],cZ (.type "getset_descriptor") [.str "__dict__" j2,.ref y,.builtin "function.__dict__",.builtin "function.__dict__#set"]],y+3,j2+4,
     [cI P "__weakref__" (j2+3) (.ref (y+2)),cI P "__dict__" (j2+1) (.ref (y+1))])
   |false,true=>([cZ (.type "getset_descriptor") [.str "__weakref__" j2,.ref y,.builtin "ExceptionGroup.__weakref__",.none]],y+2,j2+2,[cI P "__weakref__" (j2+1) (.ref (y+1))])
   |_,_=>([],y+1,j2,[])
  match z with
  |(zo,ze,zk,zg) =>
  let ns:=(cI P "__doc__" zk .none::(zg++g0)).reverse
  ⟨cZ (.type "builtin_function_or_method") [.builtin "object.__init_subclass__",.ref y]::cZ (.type "super") [.ref y,.ref y,.ref y]::zo ++
   (⟨.type "type",none,.cls ⟨x,(if own then [.type "object"] else bases),.ref y::mro,d,x,true,[],[],false,none,false⟩,⟨[if own then none else some (.ref n),none,some (.str x k),some (.str x (k+8)),some (.builtin nw),some (.bool true)]⟩⟩ ::
    uL (ns.eraseIdx 1) (zg.length+2)::dN (txE st j)::fo ++
   [⟨.type "frame",none,.plain,⟨[some (.ref (n+5)),some (.ref 3),some (.ref (n+2)),none,some m,none,some (.ref 0)]⟩⟩,nR x x pos.line 0 0 false (n+3) (k+2) (k+5) .none .none .none,
    cZ .none ct.reverse,dN [],uL g0.reverse g0.length,cZ (.type "builtin_function_or_method") [.builtin "type.__prepare__",.type "type"],dN bases]++o),ze+2,zk+3,.ref (n+5)::I pos.col::I pos.line::t,cI P x (zk+2) (.ref y)::g⟩
def stE (P:Params):Stmt->Gl->Gl
 |.Assign [.Name x _] (.Constant v _ _) _,⟨⟨o,n,k,t,g⟩,m,c,s⟩ =>
  let w:Value:=match v with|.int i=>.int i k|.str y=>.str y k|_=>.none
  match x==("__name__":Str) with
  |true=>⟨⟨o,n,k+2,t,g⟩,w,c,s⟩
  |false=>⟨⟨o,n,k+2,t,cI P x (k+1) w::g⟩,m,c,s⟩
 |.ClassDef x bs _ body _ _ _ _ _ st pos,⟨b,m,c,s⟩ =>
  match bs with
  |[.Name y _]=>match c.lookup y with
   |some mro =>
    let b':=oR P x (mro.take 1) mro false false "ValueError.__new__" body st pos m b
    let a:=match b'.g with|e::_=>e.val|[]=>.none
    ⟨b',m,(x,a::mro)::c,a::s⟩
   |none =>
    let mro:List Value:=[.type "ValueError",.type "Exception",.type "BaseException",.type "object"]
    let b':=oR P x (mro.take 1) mro true false "ValueError.__new__" body st pos m b
    let a:=match b'.g with|e::_=>e.val|[]=>.none
    ⟨b',m,(x,a::mro)::c,s⟩
  |_=>⟨oR P x [] [.type "object"] true true "object.__new__" body st pos m b,m,c,s⟩
 |st,⟨b,m,c,s⟩=>⟨fnE P m "" st b,m,c,s⟩
def vZ (P:Params):List Stmt->Gl->Gl
 |[],g=>g
 |s::l,g=>vZ P l (stE P s g)
noncomputable def Ku (m:Value) (g:List DictEntry):Obj->Obj
 |⟨c,d,.dict ⟨⟨h,x,_⟩::es⟩ n,s⟩=>⟨c,d,.dict ⟨⟨h,x,m⟩::(es++g)⟩ (n+g.length),s⟩
 |o=>o
noncomputable def Kv (l:List Value):Obj->Obj
 |⟨c,d,.cls ⟨a1,a2,a3,a4,a5,a6,a7,_,a9,a10,a11⟩,s⟩=>⟨c,d,.cls ⟨a1,a2,a3,a4,a5,a6,a7,l,a9,a10,a11⟩,s⟩
 |o=>o
def HL (B:List Obj) (r:Nat):Gl->List Obj
 |⟨⟨o,_,_,t,g⟩,m,_,s⟩ =>
  (B.modify 3 (Ku m g.reverse)++[dN [],cZ .none t.reverse,
   nR "<module>" "<module>" 1 0 0 false 11 182 185 .none .none .none,⟨.type "frame",none,.plain,⟨[some (.ref 13),some (.ref 3),some (.ref 3),none,some (.str "__main__" 164),none,some (.ref 0)]⟩⟩]++o.reverse).modify r (Kv s.reverse)
def gl0:Gl:=⟨⟨[],15,187,[],[]⟩,.str "__main__" 164,[],[]⟩
noncomputable def btE:List Obj->Nat->BT->BT
 |[],_,t=>t
 |o::l,i,t=>btE l (i+1) (t.ins i o)
abbrev Pg:Program:=PySem.Challenge.pw_aheadword_k76_rows_refused
def env0:Env:={ scope:=Pg.main.scope,locals:=mainNs,globals:=mainNs,cells:=[],code:=.ref 13,frame:=some 14 }
def cE:Code:=.body (behindTheImports Pg) env0
def oE (P:Params) (l:List Stmt):List Obj:=HL (boot_heap P).objs.toList 31 (vZ P l gl0)
abbrev p0:Pos:=⟨0,0,0,0⟩
def ST (w:World) (os:OsState) (l:List Stmt) (n k:Nat):SharedT:=⟨btE (oE w.params l) 0 .nil,n,{},⟨[]⟩,boot_drawn,k,os⟩
def SP (w:World) (os:OsState) (l:List Stmt) (k:Nat):Shared:=⟨⟨⟨oE w.params l⟩,{}⟩,⟨[]⟩,boot_drawn,k,os⟩
theorem sp0 (w:World) (os:OsState):(ST w os [] 15 187).abs=SP w os [] 187:=by kernel_rfl
theorem sp1 (w:World) (os:OsState):(ST w os (behindTheImports Pg) 745 1135).abs=SP w os (behindTheImports Pg) 1135:=by kernel_rfl
theorem seg (w:World) (os:OsState):segRunT treeTable Pg w 11 (some (.ref 6)) 1 7000 (ST w os [] 15 187) (piecesOf (behindTheImports Pg) env0 cE p0 [topFrame p0])=some (.next,ST w os (behindTheImports Pg) 745 1135,cE,⟨428,0,438,15⟩):=by
 delta piecesOf
 rw [Fast.te10110043849684766642,Fast.te14364793385576792824,Fast.te12563942051412417395];kernel_rfl
theorem Kw (w:World) (os:OsState):topGo treeTable Pg w 11 (some (.ref 6)) 12 ⟨boot_heap w.params,⟨[]⟩,boot_drawn,boot_toks,os⟩ (topStub Pg)=some (SP w os [] 187,⟨denote treeTable cE,cE,p0,[topFrame p0]⟩):=by
 rw [Fast.te15667345088766844465,Fast.te14364793385576792824,Fast.te11892475500146522536];kernel_rfl
theorem run (w:World) (os:OsState):topRun treeTable Pg w 11 (some (.ref 6)) (12+(1+(7000+2))) ⟨boot_heap w.params,⟨[]⟩,boot_drawn,boot_toks,os⟩ (topStub Pg)=some (SP w os (behindTheImports Pg) 1135):=by
 refine go_top (Kw w os) (piece_block (s':=SP w os [] 187) (p':=p0) (by kernel_rfl) ?_)
 have h:=segRun_of (seg w os)
 rw [sp0,sp1] at h
 have k:=piece_app (rest:=[]) h (piece_nil (N:=2) (r:=SP w os (behindTheImports Pg) 1135) (by kernel_rfl))
 rw [List.append_nil] at k
 exact k
theorem l1 (w:World) (os:OsState):(staticsOk (importedModules Pg.main.body) (boot_heap w.params) (SP w os (behindTheImports Pg) 1135).heap&&namesBound Pg (SP w os (behindTheImports Pg) 1135).heap&&gensDone (SP w os (behindTheImports Pg) 1135)&&laidKept (boot_heap w.params) (SP w os (behindTheImports Pg) 1135).heap)=true:=by kernel_rfl
theorem l2 (w:World) (os:OsState):openSeen fR [] (importedModules Pg.main.body) (λs=>xlAt fR [] s&&recOk [] s) true (SP w os (behindTheImports Pg) 1135)=openGood fR []:=by rw [Fast.te4187177175401517315];kernel_rfl
end
end My
section
open PySem PySem.W PyProof.Rows
local macro_rules|`(tactic| o_head $H)=>`(tactic| refine holds_open (q:=My.fR) (loose:=[]) (Xt:=λs=>xlAt My.fR [] s&&recOk [] s) (XP:=XL My.fR []) (Yf:=Hook.obs $H) (Ya:=Hook.val $H) (YP:=Hook.says $H) (N:=11168) ?hl (Hook.of $H) (Hook.keeps $H) (λs e=>xl_of s (Bool.and_eq_true_iff.mp e).1) XL.keeps (by rfl) (by rfl) (by rfl) (λs e=>recFacts_of (Bool.and_eq_true_iff.mp e).2) (by rfl) (by assumption) (by decide +kernel) ⟨rfl,rfl,rfl,rfl,rfl,by decide +kernel⟩ ?hw ?hc)
theorem My.pre (h:∀ P:Prop,P):PySem.Challenge.rw_aheadword_k76_rows_refused.Holds:=by w_on;refine PySem.W.holds_law (h _) λsaid=>?_;k_head;all_goals exact h _
noncomputable def My.as:List Addr:=[2,3,15,17,18,20,21,22,29,30,31,32,35,42,43,44,47,54,55,56,59,66,67,68,71,78,79,80,83,90,91,92,95,102,103,104,107,114,116,117,119,120,121,122,123,126,133,134,135,138,140,141,143,144,145,147,148,150,151,152,154,155,157,158,159,162,163,164,167,168,169,171,172,174,175,176,178,179,181,182,190,192,193,195,196,197,199,200,202,203,204,206,207,209,210,211,212,214,215,217,218,219,221,222,224,225,226,227,229,230,232,233,234,236,237,239,240,241,243,244,246,247,248,250,251,253,254,255,258,259,260,262,263,265,266,267,269,270,272,273,274,276,277,279,280,281,283,284,286,287,288,289,290,291,292,295,298,299,307,309,310,312,313,314,316,317,319,320,321,323,324,326,327,328,330,331,333,334,335,337,338,340,341,342,344,345,347,348,349,352,353,354,356,357,359,360,361,362,364,365,367,368,369,370,372,373,375,376,377,379,380,382,383,384,386,387,389,390,391,392,393,394,395,398,400,401,403,404,405,408,409,410,413,414,422,424,425,427,428,429,431,432,434,435,436,437,439,440,442,443,444,446,447,449,450,451,453,454,456,457,458,461,462,463,464,465,466,467,470,472,473,475,476,477,479,480,482,483,484,486,487,489,490,498,500,501,503,504,505,507,508,510,511,512,514,515,517,518,519,521,522,524,525,526,528,529,531,532,533,535,536,538,539,540,542,543,545,546,547,550,551,552,554,555,557,558,559,560,562,563,565,566,567,568,569,570,571,574,576,577,579,580,581,583,584,586,587,588,590,591,593,594,595,597,598,600,601,609,611,612,614,615,616,618,619,621,622,623,626,627,628,630,631,633,634,635,637,638,640,641,642,644,645,647,648,649,651,652,654,655,656,657,658,659,660,663,665,666,668,669,670,672,673,675,676,677,679,680,682,683,684,687,688,689,691,692,694,695,696,698,699,701,702,703,705,706,708,709,710,712,713,715,716,717,719,720,722,723,724,726,727,729,730,731,733,734,736,737,738,740,741,743,744]
theorem My.obs (w:World) (os:OsState):My.as.map (My.SP w os (behindTheImports My.Pg) 1135).heap.get?=((My.pre.heap_1 w.params).map λp=>some p.2):=by kernel_rfl
theorem My.said:PySem.W.OpenLaw.wellSaid PySem.Challenge.rw_aheadword_k76_rows_refused=true:=by kernel_rfl
local macro_rules|`(tactic| symm)=>`(tactic| ((first|delta My.Ns|delta My.No|skip);k_is))
local macro_rules|`(tactic| exfalso)=>`(tactic| (refine' My.FnA.of ?x ?y ?z;(case x=>k_is);(case y=>k_is);(case z=>k_is)))
local macro_rules|`(tactic| left)=>`(tactic| (refine' ⟨?u,?v⟩;(case u=>symm);(case v=>exfalso)))
local macro_rules|`(tactic| right)=>`(tactic| (refine' ⟨?u,?v,?w⟩;(case u=>k_is);(case v=>k_is);(case w=>exfalso)))
local macro_rules|`(tactic| ac_rfl)=>`(tactic| (refine' My.Md.of ?u ?v ?w ?x;(case u=>k_is);(case v=>k_is);(case w=>exfalso);(case x=>k_is)))
local macro_rules|`(tactic| ac_nf)=>`(tactic| (refine' ⟨?_,?_,?_,?_,?_,?_,?_⟩<;>symm))
theorem My.headL (main:∀ (q:Program) (loose:List Str) (XP:(Str->Option Value)->Heap->Prop) (YP:World->Heap->Prop) (d:DefRec) (K:Params->W.Frag),PySem.Challenge.rw_aheadword_k76_rows_refused.most=some 63->d.params.defaults=[]->d.name="law"->(∀ (w:World) (h:Heap),YP w h->(K w.params).In h)->(∀ w:World,My.Fx (K w.params))->W.WalkO q loose XP YP PySem.Challenge.rw_aheadword_k76_rows_refused.row.toRowW d [] (λf vs=>PySem.call f vs)):PySem.Challenge.rw_aheadword_k76_rows_refused.Holds:=by
 w_on;refine PySem.W.holds_law My.said λsaid=>?_;o_head (kHook My.pre.heap_1 My.as (λ_=>by kernel_rfl));(case hl=>exact LeftO.of_pieces (H₁:=λP=>⟨⟨My.oE P (behindTheImports My.Pg)⟩,{}⟩) (gs₁:=⟨[]⟩) (d₁:=boot_drawn) (k₁:=1135) (boot_open (p:=My.Pg) (N:=11168) (by kernel_rfl) (by kernel_rfl) (λs=>by kernel_rfl)) (λw=>by kernel_rfl) My.run (by kernel_rfl) λw=>funext λos=>looks_pair (My.l1 w os) (looks_pair (My.l2 w os) (My.obs w os)));(case hw=>w_witness2)
 k_fill
 refine main _ _ _ _ _ _ rfl rfl rfl (λw h Y=>W.kIn_of Y) λw R hR=>?_
 exact hR (by ac_nf) (by right) (by right) (by right) (by ac_rfl) (by right) (by ac_rfl) (by right) (by right) (by right) (by symm) (by symm) (by ac_nf) (by right) (by right) (by right) (by right) (by right) (by right) (by right) (by ac_rfl) (by ac_rfl) (by symm) (by symm) (by symm) (by ac_nf) (by right) (by right) (by ac_rfl) (by right) (by symm) (by symm) (by ac_nf) (by right) (by right) (by right) (by right) (by right) (by right) (by right) (by right) (by right) (by ac_rfl) (by symm) (by symm) (by symm) (by symm) (by symm) (by ac_nf) (by right) (by right) (by right) (by right) (by right) (by right) (by right) (by symm) (by symm) (by symm) (by symm) (by symm) (by symm) (by symm) (by symm) (by symm) (by symm) (by symm) (by symm) (by left) (by left) (by left) (by left) (by left) (by left) (by left) (by left) (by left) (by left) (by left) (by left) (by left) (by left) (by left) (by left) (by left) (by left) (by left) (by left) (by left) (by left) (by left) (by left) (by left) (by left) (by left) (by left) (by left) (by left) (by symm) (by symm) (by symm) (by symm) (by symm) (by symm) (by symm) (by symm) (by symm) (by symm) (by symm) (by kit_is) (by symm) (by symm) (by symm) (by symm) (by symm) (by symm) (by symm) (by kernel_rfl) (by kernel_rfl) (by kernel_rfl) (by kernel_rfl) (by kernel_rfl) (by kernel_rfl) (by kernel_rfl) (by kernel_rfl) (by kernel_rfl) (by kernel_rfl) (by kernel_rfl) (by kernel_rfl) (by kernel_rfl) (by kernel_rfl) (by kernel_rfl) (by kernel_rfl) (by kernel_rfl) (by kernel_rfl) (by kernel_rfl) (by kernel_rfl) (by kernel_rfl) (by kernel_rfl) (by kernel_rfl) (by kernel_rfl) (by kernel_rfl) (by kernel_rfl) (by kernel_rfl) (by kernel_rfl) (by kernel_rfl) (by kernel_rfl) (by kernel_rfl) (by kernel_rfl) (by kernel_rfl) (by kernel_rfl) (by kernel_rfl) (by kernel_rfl) (by kernel_rfl) (by kernel_rfl) (by kernel_rfl) (by kernel_rfl) (by kernel_rfl) (by kernel_rfl)
end
namespace L2
open PySem PySem.Spec PyProof.Rows
abbrev Key:=Sum Int Str
noncomputable def fJ:Key->Value->Bool
 |.inl k,v=>Value.isInt k v
 |.inr x,v=>Value.isStrOf x v
noncomputable def Kx (w:World):Key->Int
 |.inl k=>hashInt k
 |.inr x=>hashStr w x
theorem cO:∀ {k:Key}{v:Value},fJ k v=true->(∃ i t,k=Sum.inl i/\v=Value.int i t)\/(∃ x t,k=Sum.inr x/\v=Value.str x t)
 |.inl i,v,h=>by
  obtain ⟨t,e⟩:=Value.isInt_shape (k:=i) (v:=v) h
  exact .inl ⟨i,t,rfl,e⟩
 |.inr x,v,h=>by
  obtain ⟨t,e⟩:=Value.isStrOf_shape (x:=x) (v:=v) h
  exact .inr ⟨x,t,rfl,e⟩
theorem y3 (i:Int) (t:Tok):fJ (.inl i) (.int i t)=true:=by simp [fJ,Value.isInt]
theorem y4 (x:Str) (t:Tok):fJ (.inr x) (.str x t)=true:=by simp [fJ,Value.isStrOf]
theorem Ek (a b:Int):decide ((Sum.inl a:Key)=Sum.inl b)=(a==b):=by
 by_cases e:a=b
 ·subst e;simp
 ·have h:¬ (Sum.inl a:Key)=Sum.inl b:=λq=>e (Sum.inl.inj q)
  rw [decide_eq_false h]
  exact (beq_eq_false_iff_ne.mpr e).symm
theorem El (a b:Str):decide ((Sum.inr a:Key)=Sum.inr b)=decide (a=b):=by
 by_cases e:a=b
 ·subst e;simp
 ·have h:¬ (Sum.inr a:Key)=Sum.inr b:=λq=>e (Sum.inr.inj q)
  rw [decide_eq_false h,decide_eq_false e]
theorem Em (a:Int) (b:Str):decide ((Sum.inl a:Key)=Sum.inr b)=false:=decide_eq_false (λq=>nomatch q)
theorem En (a:Str) (b:Int):decide ((Sum.inr a:Key)=Sum.inl b)=false:=decide_eq_false (λq=>nomatch q)
noncomputable def aW (prog:Program) (w:World):PySem.KeyKind prog w Key where
 is:=fJ
 hash:=Kx w
 inj:=λv a b ha hb=>by
  rcases cO ha with ⟨i,t,rfl,rfl⟩|⟨x,t,rfl,rfl⟩
  ·rcases cO hb with ⟨j,u,rfl,e⟩|⟨y,u,rfl,e⟩
   ·injection e with e1 _;rw [e1]
   ·exact nomatch e
  ·rcases cO hb with ⟨j,u,rfl,e⟩|⟨y,u,rfl,e⟩
   ·exact nomatch e
   ·injection e with e1 _;rw [e1]
 byValue:=λk v h=>by
  rcases cO h with ⟨i,t,rfl,rfl⟩|⟨x,t,rfl,rfl⟩<;>rfl
 pyHash:=λhv h=>by
  rcases cO hv with ⟨i,t,rfl,rfl⟩|⟨x,t,rfl,rfl⟩
  ·exact wpAny_pyHash_int h
  ·exact wpAny_pyHash_str h
 eqBool:=λhu hv h=>by
  rcases cO hu with ⟨i,t,rfl,rfl⟩|⟨x,t,rfl,rfl⟩
  ·rcases cO hv with ⟨j,u,rfl,rfl⟩|⟨y,u,rfl,rfl⟩
   ·rw [Ek] at h;exact wpAny_eqBool_int h
   ·rw [Em] at h;exact SeqAt.EqAt.int_str i t y u _ _ _ _ h
  ·rcases cO hv with ⟨j,u,rfl,rfl⟩|⟨y,u,rfl,rfl⟩
   ·rw [En] at h;exact SeqAt.EqAt.str_int x t j u _ _ _ _ h
   ·rw [El] at h;exact wpAny_eqBool_str h
 «strs»:=λk x t v h=>by
  rcases cO h with ⟨i,u,rfl,e⟩|⟨y,u,rfl,e⟩
  ·exact nomatch e
  ·injection e with e1 _
   subst e1
   cases v<;>rfl
theorem yf (prog:Program) (w:World) (i:Int) (t:Tok):(aW prog w).is (.inl i) (.int i t)=true:=y3 i t
theorem yg (prog:Program) (w:World) (x:Str) (t:Tok):(aW prog w).is (.inr x) (.str x t)=true:=y4 x t
inductive V where
 |non|bl (b:Bool)|int (i:Int)|str (x:Str)|byt (b:Array UInt8)|flt (b:UInt64)|ref (a:Addr)|ty (n:String)
 deriving DecidableEq
def au:V->Value->Prop
 |.non,u=>u=Value.none
 |.bl b,u=>u=Value.bool b
 |.int i,u=>∃ t,u=Value.int i t
 |.str x,u=>∃ t,u=Value.str x t
 |.byt b,u=>∃ t,u=Value.bytes b t
 |.flt b,u=>∃ t,u=Value.float b t
 |.ref a,u=>u=Value.ref a
 |.ty n,u=>u=Value.type n
abbrev am:List V->List Value->Prop:=Paired au
theorem am.length {xs:List V}{us:List Value}(r:am xs us):xs.length=us.length:=Paired.length r
theorem am.get:∀ {xs:List V}{us:List Value}{i:Nat}{x:V},am xs us->xs[i]?=some x->∃ u,us[i]?=some u/\au x u
 |_,_,_,_,.nil,e=>by simp at e
 |_,_,0,_,.cons r _,e=>by simp at e;subst e;exact ⟨_,rfl,r⟩
 |_,_,i+1,x,.cons _ t,e=>by
  obtain ⟨u,h1,h2⟩:=am.get (i:=i) (x:=x) t (by simpa using e)
  exact ⟨u,by simpa using h1,h2⟩
theorem am.set {x:V}{u:Value}(r:au x u):∀ {xs:List V}{us:List Value}(i:Nat),am xs us->am (xs.set i x) (us.set i u)
 |_,_,_,.nil=>.nil
 |_,_,0,.cons _ t=>.cons r t
 |_,_,i+1,.cons q t=>.cons q (am.set r i t)
theorem am.append:∀ {xs ys:List V}{us ws:List Value},am xs us->am ys ws->am (xs++ys) (us++ws)
 |_,_,_,_,.nil,s=>s
 |_,_,_,_,.cons r t,s=>.cons r (am.append t s)
theorem am.take:∀ {xs:List V}{us:List Value}(n:Nat),am xs us->am (xs.take n) (us.take n)
 |_,_,0,_=>.nil
 |_,_,_+1,.nil=>.nil
 |_,_,n+1,.cons r t=>.cons r (am.take n t)
theorem am.drop:∀ {xs:List V}{us:List Value}(n:Nat),am xs us->am (xs.drop n) (us.drop n)
 |_,_,0,r=>r
 |_,_,_+1,.nil=>.nil
 |_,_,n+1,.cons _ t=>am.drop n t
def bw:Option V->Option Value->Prop
 |some v,some u=>au v u
 |none,none=>True
 |_,_=>False
def KV {κ:Type}:List (κ×V)->List (κ×Value)->Prop:=Paired λ(p:κ×V) (q:κ×Value)=>p.1=q.1/\au p.2 q.2
noncomputable def kV:Key->V
 |.inl i=>.int i
 |.inr x=>.str x
inductive HO where
  |lst (xs:List V)
  |tup (xs:List V)
  |dK (kvs:List (Key×V))|dT (kvs:List (List Key×V))
  |set (S:Int->Bool) (n:Nat)
  |ins (C dx:Addr) (fs:List (Str×V))
  |own (x:Addr)
  |xd (fs:List (Str×V))
  |met (f x:Addr)
  |rng (lo hi:Int)
  |frz (o:Obj) (u:HO)
  |tbl (ps:Array Value)
  |ext (φ:Heap->Prop)
abbrev Hp:=Addr->Option HO
noncomputable def upd (H:Hp) (a:Addr) (o:HO):Hp:=λb=>if b=a then some o else H b
theorem aM {H:Hp}{a:Addr}{o:HO}:upd H a o a=some o:=by unfold upd;rw [if_pos rfl]
theorem aB {H:Hp}{a b:Addr}{o:HO}(h:b≠a):upd H a o b=H b:=by unfold upd;rw [if_neg h]
theorem i4 {H:Hp}{a:Addr}{o u:HO}:upd (upd H a o) a u=upd H a u:=by
 funext b;unfold upd;split<;>rfl
theorem cS {H:Hp}{a b:Addr}{o u:HO}(h:H a=some o) (h':H b=some u) (d:o≠u):a≠b:=by
 intro e;subst e;rw [h] at h';exact d (Option.some.inj h')
theorem bB {H:Hp}{a b:Addr}{o:HO}(h:H a=some o) (h':H b=none):a≠b:=by
 intro e;subst e;rw [h] at h';cases h'
section
variable (P:Program) (w:World)
def aP (H:Hp) (h:Heap) (a:Addr):HO->Prop
 |.lst xs=>xs.length<=sizeLine/\∃ (its:List Value) (n:Nat),am xs its/\h.get? a=some { cls:=.type "list",data:=.seq its.toArray n }
 |.tup xs=>xs.length<=sizeLine/\∃ its:List Value,am xs its/\IsTup h a its.toArray
 |.dK kvs=>kvs.length<=sizeLine/\(a==sysModules)=false/\∃ vs,KV kvs vs/\h.DictOf (aW P w) a vs
 |.dT kvs=>kvs.length<=sizeLine/\(a==sysModules)=false/\∃ xs:List (List Key×Addr×Value),
   Paired (λ(p:List Key×V) (q:List Key×Addr×Value)=>p.1=q.1/\H q.2.1=some (.tup (p.1.map kV))/\au p.2 q.2.2) kvs xs /\
   ∃ o es ep,h.get? a=some o/\o.ExactDict/\o.data=.dict es ep/\es.toList=xs.map (entryOfKey (tupleKind (aW P w)))/\(xs.map (·.1)).Nodup
 |.set S n=>h.SetOf (intKind P w) a S n
 |.ins C dx fs=>H dx=some (.own a)/\fs.length<=1000/\dx≠a/\h.get? a=some (PySem.W.instObj C dx) /\
   ∃ mA,h.Ns1 dx mA/\(∀ f,bw (fs.lookup f) (mA f))/\PySem.Within mA (fs.map (·.1))
 |.own _=>∃ o,h.get? a=some o
 |.xd fs=>∃ mA,h.Ns1 a mA/\∀ f,bw (fs.lookup f) (mA f)
 |.rng lo hi=>∃ t u v,h.get? a=some { cls:=.type "range",data:=.fields #[.int lo t,.int hi u,.int 1 v] }
 |.frz o u=>h.get? a=some o/\aP H h a u
 |.tbl ps=>h.get? a=some { cls:=.none,data:=.fields ps }
 |.met f x=>h.get? a=some (PySem.W.methodObj (.ref f) (.ref x))
 |.ext φ=>φ h/\(∃ o,h.get? a=some o)/\∀ h1 h2:Heap,φ h1->(∀ o,h1.get? a=some o->h2.get? a=some o)->φ h2
def HOk (H:Hp) (h:Heap):Prop:=∀ a o,H a=some o->aP P w H h a o
end
section
variable {P:Program}{w:World}{H H':Hp}{h h':Heap}{a:Addr}{o:HO}
theorem aP.lt (x:aP P w H h a o):a<h.objs.size:=by
 cases o with
 |lst xs=>obtain ⟨_,_,_,_,e⟩:=x;exact Heap.lt_size e
 |tup xs=>obtain ⟨_,_,_,p⟩:=x;exact p.lt
 |dK kvs=>obtain ⟨_,_,_,_,o,_,_,e,_⟩:=x;exact Heap.lt_size e
 |dT kvs=>obtain ⟨_,_,_,_,o,_,_,e,_⟩:=x;exact Heap.lt_size e
 |set S n=>obtain ⟨o,_,_,_,e,_⟩:=x;exact Heap.lt_size e
 |ins C dx fs=>obtain ⟨_,_,_,e,_⟩:=x;exact Heap.lt_size e
 |own y=>obtain ⟨_,e⟩:=x;exact Heap.lt_size e
 |xd fs=>obtain ⟨_,⟨_,_,_,e,_⟩,_⟩:=x;exact Heap.lt_size e
 |rng lo hi=>obtain ⟨_,_,_,e⟩:=x;exact Heap.lt_size e
 |frz ob u=>obtain ⟨e,_⟩:=x;exact Heap.lt_size e
 |tbl ps=>exact Heap.lt_size (show h.get? a=some _ from x)
 |met f y=>exact Heap.lt_size (show h.get? a=some _ from x)
 |ext φ=>obtain ⟨_,⟨_,e⟩,_⟩:=x;exact Heap.lt_size e
theorem Paired.mapP {α β:Type}{F G:α->β->Prop}:∀ {l₁:List α}{l₂:List β},Paired F l₁ l₂->(∀ a b,F a b->G a b)->Paired G l₁ l₂
 |_,_,.nil,_=>.nil
 |_,_,.cons r t,f=>.cons (f _ _ r) (Paired.mapP t f)
theorem aP.stay (x:aP P w H h a o) (k:∀ b u,(b=a\/H b=some (.own a))->h.get? b=some u->h'.get? b=some u)
  (ho:∀ b,H b=some (.own a)->H' b=some (.own a)) (ht:∀ b xs,H b=some (.tup xs)->H' b=some (.tup xs)):aP P w H' h' a o:=by
 induction o with
 |lst xs=>obtain ⟨z,its,n,r,e⟩:=x;exact ⟨z,its,n,r,k _ _ (.inl rfl) e⟩
 |tup xs=>obtain ⟨z,its,r,ob,e,c⟩:=x;exact ⟨z,its,r,ob,k _ _ (.inl rfl) e,c⟩
 |dK kvs=>obtain ⟨z,y,vs,r,ob,es,ep,e,c⟩:=x;exact ⟨z,y,vs,r,ob,es,ep,k _ _ (.inl rfl) e,c⟩
 |dT kvs =>
  obtain ⟨z,y,xs,r,ob,es,ep,e,c⟩:=x
  exact ⟨z,y,xs,Paired.mapP r λp q z=>⟨z.1,ht _ _ z.2.1,z.2.2⟩,ob,es,ep,k _ _ (.inl rfl) e,c⟩
 |set S n=>obtain ⟨ob,es,ep,t,e,c⟩:=x;exact ⟨ob,es,ep,t,k _ _ (.inl rfl) e,c⟩
 |ins C dx fs =>
  obtain ⟨d,z,ne,e,mA,⟨od,es,ep,e2,c⟩,r⟩:=x
  exact ⟨ho _ d,z,ne,k _ _ (.inl rfl) e,mA,⟨od,es,ep,k _ _ (.inr d) e2,c⟩,r⟩
 |own y=>obtain ⟨ob,e⟩:=x;exact ⟨ob,k _ _ (.inl rfl) e⟩
 |xd fs=>obtain ⟨mA,⟨od,es,ep,e,c⟩,r⟩:=x;exact ⟨mA,⟨od,es,ep,k _ _ (.inl rfl) e,c⟩,r⟩
 |rng lo hi=>obtain ⟨t,u,v,e⟩:=x;exact ⟨t,u,v,k _ _ (.inl rfl) e⟩
 |frz ob u ih=>obtain ⟨e,q⟩:=x;exact ⟨k _ _ (.inl rfl) e,ih q⟩
 |tbl ps =>
  have e:h.get? a=some { cls:=.none,data:=.fields ps }:=x
  show h'.get? a=some { cls:=.none,data:=.fields ps }
  exact k a _ (.inl rfl) e
 |met f y =>
  have e:h.get? a=some (PySem.W.methodObj (.ref f) (.ref y)):=x
  show h'.get? a=some (PySem.W.methodObj (.ref f) (.ref y))
  exact k a _ (.inl rfl) e
 |ext φ=>obtain ⟨p,⟨o,e⟩,st⟩:=x;exact ⟨st _ _ p λo q=>k _ _ (.inl rfl) q,⟨o,k _ _ (.inl rfl) e⟩,st⟩
theorem HOk.lt (x:HOk P w H h) (e:H a=some o):a<h.objs.size:=(x a o e).lt
theorem HOk.fresh (x:HOk P w H h) (e:h.objs.size<=a):H a=none:=by
 cases q:H a with
 |none=>rfl
 |some u=>exact absurd (Nat.lt_of_lt_of_le (x.lt q) e) (Nat.lt_irrefl _)
theorem HOk.kept (x:HOk P w H h) (k:∀ b u,h.get? b=some u->h'.get? b=some u):HOk P w H h':=λa o e =>
 (x a o e).stay (λb u _ q=>k b u q) (λ_ q=>q) λ_ _ q=>q
theorem HOk.laid (x:HOk P w H h) (k:∀ b u,h.get? b=some u->h'.get? b=some u) (hp:h.objs.size<=a) (new:aP P w (upd H a o) h' a o):HOk P w (upd H a o) h':=λb u e=>by
 have hn:=x.fresh hp
 by_cases hb:b=a
 ·subst hb;rw [aM] at e;cases e;exact new
 ·rw [aB hb] at e
  exact (x b u e).stay (λc v _ q=>k c v q) (λc q=>by rw [aB (bB q hn)];exact q) λc xs q=>by rw [aB (bB q hn)];exact q
end
def Rd (H:Hp) (a:Addr) (u:HO):Prop:=H a=some u\/∃ o,H a=some (.frz o u)
theorem Rd.ok {P:Program}{w:World}{H:Hp}{h:Heap}{a:Addr}{u:HO}(r:Rd H a u) (x:HOk P w H h):aP P w H h a u:=by
 rcases r with r|⟨o,r⟩
 ·exact x a u r
 ·obtain ⟨_,q⟩:=x a _ r
  exact q
def Mut:Option HO->Prop
 |some (.lst _)=>True
 |some (.dK _)=>True
 |some (.dT _)=>True
 |some (.set _ _)=>True
 |some (.ins _ _ _)=>True
 |some (.ext _)=>True
 |_=>False
section
variable {P:Program}{w:World}{H:Hp}{h h':Heap}{x e:Addr}{o':HO}
theorem HOk.write (ok:HOk P w H h) (mu:Mut (H x)) (he:e=x\/H e=some (.own x)) (k:∀ b u,b≠e->h.get? b=some u->h'.get? b=some u) (heo:∃ u,h'.get? e=some u)
  (new:aP P w (upd H x o') h' x o'):HOk P w (upd H x o') h':=λb u q=>by
 have nown:∀ c y,H c=some (.own y)->c≠x:=λc y r z=>by subst z;rw [r] at mu;exact mu
 have ntup:∀ c xs,H c=some (.tup xs)->c≠x:=λc xs r z=>by subst z;rw [r] at mu;exact mu
 by_cases hb:b=x
 ·subst hb;rw [aM] at q;cases q;exact new
 ·rw [aB hb] at q
  by_cases Sk:b=e
  ·have q':H b=some (.own x):=by
    rcases he with z|z
    ·exact absurd (Sk.trans z) hb
    ·rw [Sk];exact z
   rw [q] at q';cases q'
   obtain ⟨v,hv⟩:=heo
   exact ⟨v,by rw [Sk];exact hv⟩
  ·refine (ok b u q).stay (λc v hc r=>k c v ?_ r) (λc r=>by rw [aB (nown c b r)];exact r) λc xs r=>by rw [aB (ntup c xs r)];exact r
   rcases hc with rfl|hc
   ·exact Sk
   ·rintro rfl
    rcases he with z|z
    ·exact nown c b hc z
    ·rw [hc] at z;cases z;exact hb rfl
end
structure Un (fs ex:List Addr) (H H':Hp) (h h':Heap):Prop where
 keep:∀ b o,h.get? b=some o->H b=none->b∉fs->b∉ex->h'.get? b=some o
 slot:∀ b o,h.get? b=some o->H b=none->b∈fs->b∉ex->∃ sl,h'.get? b=some { o with slots:=sl }
 free:∀ b o,h.get? b=some o->H b=none->b∉ex->H' b=none
 there:∀ b o,h.get? b=some o->b∉ex->∃ o',h'.get? b=some o'
 tups:∀ b xs,H b=some (.tup xs)->H' b=some (.tup xs)
 frzs:∀ b o u,H b=some (.frz o u)->H' b=some (.frz o u)
 tbls:∀ b ps,H b=some (.tbl ps)->∃ Of,H' b=some (.tbl (ps++Of))
section
variable {fs Nz ex ex':List Addr}{H H1 H2:Hp}{h h1 h2 h':Heap}{a x e:Addr}{o:HO}
theorem Un.any (u:Un fs ex H H1 h h1){b:Addr}{ob:Obj}(q:h.get? b=some ob) (n:H b=none) (hx:b∉ex):∃ sl,h1.get? b=some { ob with slots:=sl }:=by
 by_cases hb:b∈fs
 ·exact u.slot b ob q n hb hx
 ·exact ⟨ob.slots,u.keep b ob q n hb hx⟩
theorem Un.kept (k:∀ b u,h.get? b=some u->h'.get? b=some u):Un fs ex H H h h' :=
 ⟨λb ob q _ _ _=>k b ob q,λb ob q _ _ _=>⟨ob.slots,k b ob q⟩,λ_ _ _ n _=>n,λb ob q _=>⟨ob,k b ob q⟩,λ_ _ q=>q,λ_ _ _ q=>q,λ_ ps q=>⟨#[],by rw [q];simp⟩⟩
theorem Un.refl:Un fs ex H H h h:=Un.kept λ_ _ q=>q
theorem Un.laid (k:∀ b u,h.get? b=some u->h'.get? b=some u) (hp:h.objs.size<=a) (hn:H a=none):Un fs ex H (upd H a o) h h' where
 keep:=λb u q _ _ _=>k b u q
 slot:=λb u q _ _ _=>⟨u.slots,k b u q⟩
 free:=λb u q n _=>by rw [aB (Nat.ne_of_lt (Nat.lt_of_lt_of_le (Heap.lt_size q) hp))];exact n
 there:=λb u q _=>⟨u,k b u q⟩
 tups:=λb xs q=>by rw [aB (bB q hn)];exact q
 frzs:=λb u xs q=>by rw [aB (bB q hn)];exact q
 tbls:=λb ps q=>⟨#[],by rw [aB (bB q hn),q];simp⟩
theorem Un.write (mu:Mut (H x)) (he:e=x\/H e=some (.own x)) (k:∀ b u,b≠e->h.get? b=some u->h'.get? b=some u) (heo:∃ u,h'.get? e=some u):Un fs ex H (upd H x o) h h':=by
 have hx:∀ b,H b=none->b≠x:=λb n z=>by subst z;rw [n] at mu;exact mu
 have hb:∀ b,H b=none->b≠e:=λb n z=>by
  subst z
  rcases he with r|r
  ·exact hx b n r
  ·rw [n] at r;cases r
 have hm:∀ b u,H b=some u->¬ Mut (some u)->b≠x:=λb u q nm z=>by subst z;rw [q] at mu;exact nm mu
 refine ⟨λb u q n _ _=>k b u (hb b n) q,λb u q n _ _=>⟨u.slots,k b u (hb b n) q⟩,λb u q n _=>by rw [aB (hx b n)];exact n,λb u q _=>?_,
  λb xs q=>by rw [aB (hm b _ q λz=>z)];exact q,λb u xs q=>by rw [aB (hm b _ q λz=>z)];exact q,λb ps q=>⟨#[],by rw [aB (hm b _ q λz=>z),q];simp⟩⟩
 by_cases Sk:b=e
 ·subst Sk;exact heo
 ·exact ⟨u,k b u Sk q⟩
end
noncomputable def trk (h:Heap) (H:Hp):List Addr:=(List.range h.objs.size).filter λa=>(H a).isSome
def dm (h:Heap) (H:Hp):Heap:=PySem.W.hideAll h (trk h H)
theorem y6 (h:Heap) (H:Hp):(dm h H).objs.size=h.objs.size:=PySem.W.hideAll_size _ _
theorem Ah {h:Heap}{H:Hp}{b:Addr}{o:Obj}(e:h.get? b=some o) (n:H b=none):(dm h H).get? b=some o :=
 PySem.W.hideAll_get _ e λhm=>by
  have q:(H b).isSome=true:=(List.mem_filter.mp hm).2
  rw [n] at q;simp at q
theorem BM {h:Heap}{H:Hp}{b:Addr}{o:Obj}(e:(dm h H).get? b=some o):h.get? b=some o/\H b=none:=by
 have e':h.get? b=some o:=PySem.W.of_hideAll (trk h H) e
 refine ⟨e',?_⟩
 cases q:H b with
 |none=>rfl
 |some x =>
  have hm:b∈trk h H:=List.mem_filter.mpr ⟨List.mem_range.mpr (Heap.lt_size e'),by simp [q]⟩
  have z:(dm h H).get? b=none:=PySem.W.hideAll_none (trk h H) hm
  rw [z] at e;cases e
noncomputable def BO (g h:Heap) (L:Addr):List (Addr×Obj):=(List.range h.objs.size).filterMap λa=>if a=L\/(g.get? a).isSome=true then none else (h.get? a).map λo=>(a,o)
def rest (g h:Heap) (L d:Addr):List (Addr×Obj):=(BO g h L).filter λp=>decide (p.1≠d)
structure Mod (K:PySem.W.Frag) (mg:Str->Option Value) (base:Heap):Prop where
 kin:K.In base
 glob:base.Ns mainGlobals mg
 blt:∃ mb,base.Ns builtinsNs mb/\∀ x:Str,x ≠ "__name__"->mb x=bootBuiltins x
 nolimit:base.NoLimit
structure Cx where
 prog:Program
 w:World
 K:PySem.W.Frag
 mg:Str->Option Value
 base:Heap
 A:Around
 N:List Str
 s₀:Shared
 H₀:Hp
 env:Env
 outer:List Env
 stack:List Env
 ex:List Addr
 fn:Str->Bool
 calm:Bool
 pn:List (Addr×Obj)
 xe:Value->Shared->Prop
def frs (l:List Env):List Addr:=l.filterMap (·.frame)
abbrev Cx.fs (X:Cx):List Addr:=frs X.outer
def Vis (sc:Scope) (x:Str):Prop:=sc.names.lookup x=some .local\/sc.names.lookup x=some .cell\/sc.names.lookup x=some .free
def Loc (sc:Scope) (x:Str):Prop:=sc.names.lookup x=some .local\/sc.names.lookup x=some .cell
def Kz (env:Env) (h:Heap) (m:Str->Option Value) (x:Str) (u:Value):Prop :=
 (env.kindOf x=some .local/\m x=some u)\/((env.kindOf x=some .cell\/env.kindOf x=some .free)/\∃ c,env.cells.lookup x=some c/\h.IsCell c (some u))
structure Cx.Ok (X:Cx):Prop where
 mod:Mod X.K X.mg X.base
 kind:X.env.scope.kind=.function
 glob:X.env.globals=mainGlobals
 blt:X.env.builtins=builtinsNs
 above:X.s₀.heap.objs.size<=X.env.locals
 inj:∀ x y c,X.env.cells.lookup x=some c->X.env.cells.lookup y=some c->x=y
 has:∀ x,(X.env.kindOf x=some .cell\/X.env.kindOf x=some .free)->∃ c,X.env.cells.lookup x=some c
 cab:∀ x c,X.fn x=true->X.env.cells.lookup x=some c->X.s₀.heap.objs.size<=c
 hd:X.calm=true->X.A.handled=none
 frames:X.A.frames=some X.stack
 stk:X.stack=X.outer\/(X.stack=X.env::X.outer/\X.env.frame=some X.env.locals)
 exf:∀ b∈X.ex,b≠X.env.locals/\∀ x c,X.env.cells.lookup x=some c->c≠b
 bs:∀ b o,X.base.get? b=some o->X.s₀.heap.get? b=some o/\X.H₀ b=none
 bsz:X.base.objs.size<=X.s₀.heap.objs.size
 noex:∀ b o,X.base.get? b=some o->b∉X.ex
 exfs:∀ b∈X.ex,b∉X.fs
 funs:X.s₀.heap.FunFrames X.base X.outer
 frf:∀ b∈X.fs,X.H₀ b=none
structure Inv (X:Cx) (pins:List (Addr×Obj)) (U:List (Option V)) (H:Hp) (s:Shared):Prop where
 ok:X.Ok
 os:s.os=X.s₀.os
 bare:AllBare s.gens
 base:Un X.fs X.ex X.H₀ H X.s₀.heap s.heap
 loc:∃ m,s.heap.Ns X.env.locals m/\∀ (i:Nat) (x:Str) (v:V),X.N[i]?=some x->U[i]?=some (some v)->Vis X.env.scope x->∃ u,au v u/\Kz X.env s.heap m x u
 cell:∀ x c,X.env.cells.lookup x=some c->∃ v,s.heap.IsCell c v
 free:H X.env.locals=none
 freeC:∀ x c,X.env.cells.lookup x=some c->H c=none
 pin:∀ p∈X.pn++pins,s.heap.get? p.1=some p.2/\H p.1=none/\p.1≠X.env.locals/\p.1∉X.fs/\∀ v,p.2.data≠.cell v
 hok:HOk X.prog X.w H s.heap
 len:U.length=X.N.length
section
variable {X:Cx}{pins:List (Addr×Obj)}{U:List (Option V)}{H H':Hp}{s:Shared}{h':Heap}
theorem Cx.Ok.nofr (ok:X.Ok){b:Addr}{o:Obj}(e:X.base.get? b=some o):b∉X.fs:=λhb=>by
 have:=(ok.funs.mem hb).1
 rw [e] at this;cases this
theorem Inv.bs (I:Inv X pins U H s):∀ b o,X.base.get? b=some o->s.heap.get? b=some o/\H b=none:=λb o e =>
 ⟨I.base.keep b o (I.ok.bs b o e).1 (I.ok.bs b o e).2 (I.ok.nofr e) (I.ok.noex b o e),I.base.free b o (I.ok.bs b o e).1 (I.ok.bs b o e).2 (I.ok.noex b o e)⟩
theorem Inv.bk (I:Inv X pins U H s):∀ b o,X.base.get? b=some o->s.heap.get? b=some o:=λb o e=>(I.bs b o e).1
theorem Inv.mod (I:Inv X pins U H s):Mod X.K X.mg X.base:=I.ok.mod
theorem Inv.kIn (I:Inv X pins U H s):X.K.In s.heap:=I.ok.mod.kin.keeps I.bk
theorem Inv.lt (I:Inv X pins U H s):X.env.locals<s.heap.objs.size:=let ⟨_,hn,_⟩:=I.loc;hn.lt
theorem Inv.sz (I:Inv X pins U H s):X.s₀.heap.objs.size<=s.heap.objs.size:=Nat.le_trans I.ok.above (Nat.le_of_lt I.lt)
theorem Inv.nofs (I:Inv X pins U H s){a:Addr}(h:s.heap.objs.size<=a):a∉X.fs:=λhb=>by
 obtain ⟨_,o,ho,_⟩:=I.ok.funs.mem hb
 exact absurd (Nat.lt_of_lt_of_le (Heap.lt_size ho) (Nat.le_trans I.sz h)) (Nat.lt_irrefl _)
theorem Inv.cne (I:Inv X pins U H s):∀ x c,X.env.cells.lookup x=some c->c≠X.env.locals:=λx c e z=>by
 obtain ⟨v,o,ho,hd⟩:=I.cell x c e
 obtain ⟨m,⟨o',es,ep,Qy,hd',_⟩,_⟩:=I.loc
 rw [z,Qy] at ho;cases ho;rw [hd'] at hd;cases hd
theorem Inv.funs (I:Inv X pins U H s):s.heap.FunFrames X.base X.outer:=by
 have all:∀ (l:List Env),(∀ b∈frs l,b∈X.fs)->X.s₀.heap.FunFrames X.base l->s.heap.FunFrames X.base l:=by
  intro l
  induction l with
  |nil=>intro _ _;trivial
  |cons env r ih =>
   intro hs hl
   obtain ⟨hk,⟨L,o,hf,hn,ho,hd⟩,hr⟩:=hl
   have hL:L∈X.fs:=hs L (by unfold frs;rw [List.filterMap_cons,hf];exact List.mem_cons_self)
   obtain ⟨sl,e⟩:=I.base.slot L o ho (I.ok.frf L hL) hL λz=>I.ok.exfs L z hL
   exact ⟨hk,⟨L,_,hf,hn,e,hd⟩,ih (λb hb=>hs b (by unfold frs;rw [List.filterMap_cons,hf];exact List.mem_cons_of_mem _ hb)) hr⟩
 exact all X.outer (λ_ hb=>hb) I.ok.funs
theorem Inv.stack (I:Inv X pins U H s):s.heap.FunFrames X.base X.stack:=by
 rcases I.ok.stk with e|⟨e,hf⟩
 ·rw [e];exact I.funs
 ·rw [e]
  obtain ⟨m,hn,_⟩:=I.loc
  refine .cons (by rw [I.ok.kind];decide) hf hn ?_ I.funs
  exact Heap.get?_none_of_le (Nat.le_trans I.ok.bsz I.ok.above)
theorem Inv.stkSub (I:Inv X pins U H s):∀ b∈frs X.stack,b∈X.env.locals::X.fs:=λb hb=>by
 rcases I.ok.stk with e|⟨e,hf⟩
 ·rw [e] at hb;exact List.mem_cons_of_mem _ hb
 ·rw [e] at hb
  unfold frs at hb
  rw [List.filterMap_cons,hf] at hb
  exact hb
theorem Inv.stkFree (I:Inv X pins U H s):∀ b∈frs X.stack,H b=none:=λb hb=>by
 rcases List.mem_cons.mp (I.stkSub b hb) with e|hb
 ·rw [e];exact I.free
 ·obtain ⟨_,o,ho,_⟩:=I.ok.funs.mem hb
  exact I.base.free b o ho (I.ok.frf b hb) λz=>I.ok.exfs b z hb
theorem Inv.step {g':Array GenState}{t':Nat}{d':Drawn}{ch:List Addr}(I:Inv X pins U H s)
  (O2:∀ b∈ch,(b∈X.ex\/X.s₀.heap.objs.size<=b)/\b≠X.env.locals/\(∀ x c,X.env.cells.lookup x=some c->c≠b)/\∀ p∈X.pn++pins,p.1≠b)
  (keep:∀ b o,b≠X.env.locals->b∉X.fs->b∉ch->s.heap.get? b=some o->H b=none->h'.get? b=some o)
  (slot:∀ b o,b≠X.env.locals->b∈X.fs->b∉ch->s.heap.get? b=some o->H b=none->∃ sl,h'.get? b=some { o with slots:=sl }) (free:∀ b o,b∉ch->s.heap.get? b=some o->H b=none->H' b=none)
  (there:∀ b o,b∉ch->s.heap.get? b=some o->∃ o',h'.get? b=some o')
  (tups:∀ b xs,H b=some (.tup xs)->H' b=some (.tup xs)) (frzs:∀ b o u,H b=some (.frz o u)->H' b=some (.frz o u)) (tbls:∀ b ps,H b=some (.tbl ps)->∃ Of,H' b=some (.tbl (ps++Of)))
  (ns:∀ m,s.heap.Ns X.env.locals m->h'.Ns X.env.locals m) (hok:HOk X.prog X.w H' h') (hg:AllBare g') :
  Inv X pins U H' { s with heap:=h',gens:=g',drawn:=d',toks:=t' }:=by
 have neL:∀ b o,X.s₀.heap.get? b=some o->b≠X.env.locals:=λb o e=>Nat.ne_of_lt (Nat.lt_of_lt_of_le (Heap.lt_size e) I.ok.above)
 have neC:∀ b o,X.s₀.heap.get? b=some o->b∉X.ex->b∉ch:=λb o e hx hb=>by
  rcases (O2 b hb).1 with z|z
  ·exact hx z
  ·exact absurd (Nat.lt_of_lt_of_le (Heap.lt_size e) z) (Nat.lt_irrefl _)
 have cellK:∀ x c,X.env.cells.lookup x=some c->∀ v,s.heap.IsCell c v->h'.IsCell c v:=λx c e v zz1=>by
  obtain ⟨o,ho,hd⟩:=zz1
  have Tl:c∉ch:=λz=>(O2 c z).2.2.1 x c e rfl
  by_cases hc:c∈X.fs
  ·obtain ⟨sl,q⟩:=slot c o (I.cne x c e) hc Tl ho (I.freeC x c e)
   exact ⟨_,q,hd⟩
  ·exact ⟨o,keep c o (I.cne x c e) hc Tl ho (I.freeC x c e),hd⟩
 refine ⟨I.ok,I.os,hg,⟨λb o e n hb hx=>?_,λb o e n hb hx=>?_,λb o e n hx=>?_,λb o e hx=>?_,λb xs e=>tups b xs (I.base.tups b xs e),λb o xs e=>frzs b o xs (I.base.frzs b o xs e),λb ps e=>?_⟩,?_,λx c e=>?_,?_,λx c e=>?_,λp hp=>?_,hok,I.len⟩
 ·exact keep b o (neL b o e) hb (neC b o e hx) (I.base.keep b o e n hb hx) (I.base.free b o e n hx)
 ·obtain ⟨sl,e1⟩:=I.base.slot b o e n hb hx
  obtain ⟨sl',e2⟩:=slot b _ (neL b o e) hb (neC b o e hx) e1 (I.base.free b o e n hx)
  exact ⟨sl',e2⟩
 ·obtain ⟨o',e1⟩:=I.base.there b o e hx
  exact free b o' (neC b o e hx) e1 (I.base.free b o e n hx)
 ·obtain ⟨o',e1⟩:=I.base.there b o e hx
  exact there b o' (neC b o e hx) e1
 ·obtain ⟨m1,e1⟩:=I.base.tbls b ps e
  obtain ⟨m2,e2⟩:=tbls b _ e1
  exact ⟨m1++m2,by rw [e2,Array.append_assoc]⟩
 ·obtain ⟨m,hn,hl⟩:=I.loc
  refine ⟨m,ns m hn,λi x v e1 e2 e3=>?_⟩
  obtain ⟨u,r,l⟩:=hl i x v e1 e2 e3
  refine ⟨u,r,?_⟩
  rcases l with l|⟨k,c,e,z⟩
  ·exact .inl l
  ·exact .inr ⟨k,c,e,cellK x c e _ z⟩
 ·obtain ⟨v,z⟩:=I.cell x c e
  exact ⟨v,cellK x c e v z⟩
 ·obtain ⟨m,⟨o,_,_,ho,_⟩,_⟩:=I.loc
  exact free _ o (λz=>(O2 _ z).2.1 rfl) ho I.free
 ·obtain ⟨v,o,ho,hd⟩:=I.cell x c e
  exact free c o (λz=>(O2 c z).2.2.1 x c e rfl) ho (I.freeC x c e)
 ·obtain ⟨e,n,ne,nf,d⟩:=I.pin p hp
  have Tl:p.1∉ch:=λz=>(O2 p.1 z).2.2.2 p hp rfl
  exact ⟨keep p.1 p.2 ne nf Tl e n,free p.1 p.2 Tl e n,ne,nf,d⟩
theorem Inv.un {t':Nat}(I:Inv X pins U H s) (u:Un X.fs [] H H' s.heap h') (hok:HOk X.prog X.w H' h'):Inv X pins U H' { s with heap:=h',toks:=t' }:=by
 obtain ⟨m,⟨o,es,ep,ho,r⟩,_⟩:=id I.loc
 obtain ⟨sl,hL⟩:=u.any ho I.free (by simp)
 exact I.step (g':=s.gens) (d':=s.drawn) (ch:=[]) (λ_ z=>nomatch z) (λb o _ hb _ e n=>u.keep b o e n hb (by simp)) (λb o _ hb _ e n=>u.slot b o e n hb (by simp)) (λb o _ e n=>u.free b o e n (by simp)) (λb o _ e=>u.there b o e (by simp)) u.tups u.frzs u.tbls (λm' hm=>by
  obtain ⟨o',es',ep',Qy,r'⟩:=hm
  rw [ho] at Qy;cases Qy
  exact ⟨_,es',ep',hL,r'⟩) hok I.bare
theorem Inv.call {g':Array GenState}{t':Nat}{d':Drawn}{ch:List Addr}(I:Inv X pins U H s) (u:Un (frs X.stack) ch H H' s.heap h') (hok:HOk X.prog X.w H' h') (hg:AllBare g')
  (O2:∀ b∈ch,(b∈X.ex\/X.s₀.heap.objs.size<=b)/\b≠X.env.locals/\(∀ x c,X.env.cells.lookup x=some c->c≠b)/\∀ p∈X.pn++pins,p.1≠b) :
  Inv X pins U H' { s with heap:=h',gens:=g',drawn:=d',toks:=t' }:=by
 obtain ⟨m,⟨o,es,ep,ho,r⟩,_⟩:=id I.loc
 obtain ⟨sl,hL⟩:=u.any ho I.free λz=>(O2 _ z).2.1 rfl
 exact I.step (ch:=ch) O2 (λb o hL hb hc e n=>u.keep b o e n (λz=>(List.mem_cons.mp (I.stkSub b z)).elim hL hb) hc) (λb o _ _ hc e n=>u.any e n hc) (λb o hc e n=>u.free b o e n hc) (λb o hc e=>u.there b o e hc) u.tups u.frzs u.tbls (λm' hm=>by
  obtain ⟨o',es',ep',Qy,r'⟩:=hm
  rw [ho] at Qy;cases Qy
  exact ⟨_,es',ep',hL,r'⟩) hok hg
theorem Inv.turned {t':Nat}{it:Addr}(I:Inv X pins U H s) (k:∀ b o,b≠it->s.heap.get? b=some o->h'.get? b=some o) (hn:H it=none) (hL:it≠X.env.locals)
  (h1:it∈X.ex\/X.s₀.heap.objs.size<=it) (h2:∀ x c,X.env.cells.lookup x=some c->c≠it) (h3:∀ p∈X.pn++pins,p.1≠it):Inv X pins U H { s with heap:=h',toks:=t' }:=by
 have nit:∀ b u,H b=some u->b≠it:=λb u e z=>by rw [z,hn] at e;cases e
 refine I.step (g':=s.gens) (d':=s.drawn) (ch:=[it]) (λb hb=>?_) (λb o _ _ hc e _=>k b o (λz=>hc (by simp [z])) e) (λb o _ _ hc e _=>⟨o.slots,k b o (λz=>hc (by simp [z])) e⟩) (λ_ _ _ _ n=>n)
  (λb o hc e=>⟨o,k b o (λz=>hc (by simp [z])) e⟩) (λ_ _ e=>e) (λ_ _ _ e=>e) (λb ps e=>⟨#[],by rw [e];simp⟩) (λm hm=>?_) (λb u e=>?_) I.bare
 ·have e:b=it:=by simpa using hb
  subst e
  exact ⟨h1,hL,h2,h3⟩
 ·obtain ⟨o,es,ep,ho,r⟩:=hm
  exact ⟨o,es,ep,k _ o (Ne.symm hL) ho,r⟩
 ·refine (I.hok b u e).stay (λc v hc q=>k c v ?_ q) (λ_ q=>q) λ_ _ q=>q
  rcases hc with z|z
  ·rw [z];exact nit b u e
  ·exact nit c _ z
theorem Inv.tok (I:Inv X pins U H s) (t:Nat):Inv X pins U H { s with toks:=t }:=I.un (h':=s.heap) (t':=t) Un.refl I.hok
theorem Inv.kept {t':Nat}(I:Inv X pins U H s) (k:∀ b u,s.heap.get? b=some u->h'.get? b=some u):Inv X pins U H { s with heap:=h',toks:=t' }:=I.un (Un.kept k) (I.hok.kept k)
theorem Inv.laid {a:Addr}{o:HO}{t':Nat}(I:Inv X pins U H s) (k:∀ b u,s.heap.get? b=some u->h'.get? b=some u) (hp:s.heap.objs.size<=a) (new:aP X.prog X.w (upd H a o) h' a o) :
  Inv X pins U (upd H a o) { s with heap:=h',toks:=t' }:=I.un (Un.laid k hp (I.hok.fresh hp)) (I.hok.laid k hp new)
theorem Inv.write {x e:Addr}{o:HO}{t':Nat}(I:Inv X pins U H s) (mu:Mut (H x)) (he:e=x\/H e=some (.own x)) (k:∀ b u,b≠e->s.heap.get? b=some u->h'.get? b=some u) (heo:∃ u,h'.get? e=some u)
  (new:aP X.prog X.w (upd H x o) h' x o):Inv X pins U (upd H x o) { s with heap:=h',toks:=t' }:=I.un (Un.write mu he k heo) (I.hok.write mu he k heo new)
theorem Inv.pins_of {Q6:List (Addr×Obj)}(I:Inv X pins U H s) (h:∀ p∈Q6,s.heap.get? p.1=some p.2/\H p.1=none/\p.1≠X.env.locals/\p.1∉X.fs/\∀ v,p.2.data≠.cell v):Inv X Q6 U H s :=
 ⟨I.ok,I.os,I.bare,I.base,I.loc,I.cell,I.free,I.freeC,λp hp=>(List.mem_append.mp hp).elim (λz=>I.pin p (List.mem_append_left _ z)) (h p),I.hok,I.len⟩
theorem lW {N:List Str}(hN:N.Nodup){i j:Nat}{x:Str}(a:N[i]?=some x) (b:N[j]?=some x):i=j:=by
 obtain ⟨h1,e1⟩:=List.getElem?_eq_some_iff.mp a
 obtain ⟨h2,e2⟩:=List.getElem?_eq_some_iff.mp b
 exact (List.getElem_inj hN).mp (e1.trans e2.symm)
theorem y7 {M:Model}{A:Around}{E:Value->Shared->Prop}{i:Nat}{x:Str}{v:V}{u:Value}{Q:Unit->Shared->Prop}(I:Inv X pins U H s) (hN:X.N.Nodup) (hi:X.N[i]?=some x) (hx:Loc X.env.scope x) (r:au v u)
  (h:∀ s',Inv X pins (U.set i (some v)) H s'->(∃ a,Heap.SameBut a s.heap s'.heap/\(a=X.env.locals\/X.env.cells.lookup x=some a))->Q () s') (hf:X.fn x=true\/X.env.scope.names.lookup x=some .local:=by first|exact .inl rfl|exact .inr rfl|assumption):wpAny M A (storeName X.env x u) Q E s:=by
 obtain ⟨m,hn,hl⟩:=id I.loc
 have Tn:(X.env.scope.kind==.class || (X.env.scope.kind==.module&&X.env.locals != X.env.globals))=false:=by rw [I.ok.kind];rfl
 have Rc:i<U.length:=by rw [I.len];exact (List.getElem?_eq_some_iff.mp hi).1
 have cne:=I.cne
 have tracked:∀ {a:Addr}{h':Heap},(∃ o,s.heap.get? a=some o/\H a=none)->Heap.SameBut a s.heap h'->HOk X.prog X.w H h':=fun {a h'} ha hs b ob e=>by
  obtain ⟨_,_,Te⟩:=ha
  refine (I.hok b ob e).stay (λc w' hc q=>(hs.2 c ?_).trans q) (λ_ q=>q) λ_ _ q=>q
  rintro rfl
  rcases hc with rfl|hc
  ·rw [Te] at e;cases e
  ·rw [Te] at hc;cases hc
 rcases hx with hk|hk
 ·refine wpAny_storeName_local hk hn (λh' hn' hs=>?_) Tn
  obtain ⟨oL,_,_,hoL,_⟩:=id hn
  refine h _ ⟨I.ok,I.os,I.bare,⟨λb o e n hb hx=>?_,λb o e n hb hx=>?_,I.base.free,λb o e hx=>?_,I.base.tups,I.base.frzs,I.base.tbls⟩,⟨_,hn',λj y v' e1 e2 e3=>?_⟩,λy c e=>?_,I.free,I.freeC,λp hp=>?_,tracked ⟨oL,hoL,I.free⟩ hs,by simpa using I.len⟩ ⟨_,hs,.inl rfl⟩
  ·exact (hs.2 b (Nat.ne_of_lt (Nat.lt_of_lt_of_le (Heap.lt_size e) I.ok.above))).trans (I.base.keep b o e n hb hx)
  ·obtain ⟨sl,e1⟩:=I.base.slot b o e n hb hx
   exact ⟨sl,(hs.2 b (Nat.ne_of_lt (Nat.lt_of_lt_of_le (Heap.lt_size e) I.ok.above))).trans e1⟩
  ·obtain ⟨o',e1⟩:=I.base.there b o e hx
   exact ⟨o',(hs.2 b (Nat.ne_of_lt (Nat.lt_of_lt_of_le (Heap.lt_size e) I.ok.above))).trans e1⟩
  ·by_cases hj:j=i
   ·subst hj
    rw [hi] at e1;cases e1
    rw [List.getElem?_set_self Rc] at e2
    cases e2
    exact ⟨u,r,.inl ⟨hk,by simp⟩⟩
   ·rw [List.getElem?_set_ne (Ne.symm hj)] at e2
    obtain ⟨u',r',q⟩:=hl j y v' e1 e2 e3
    refine ⟨u',r',?_⟩
    rcases q with ⟨k,e⟩|⟨k,c,e,z⟩
    ·refine .inl ⟨k,?_⟩
     have:y≠x:=λe=>hj (lW hN e1 (e ▸ hi))
     simp [this,e]
    ·exact .inr ⟨k,c,e,z.sameBut hs (cne y c e)⟩
  ·obtain ⟨w',z⟩:=I.cell y c e
   exact ⟨w',z.sameBut hs (cne y c e)⟩
  ·obtain ⟨e,n,ne,nf,d⟩:=I.pin p hp
   exact ⟨(hs.2 p.1 ne).trans e,n,ne,nf,d⟩
 ·have hfn:X.fn x=true:=by
   rcases hf with z|z
   ·exact z
   ·rw [z] at hk;cases hk
  obtain ⟨c,hc⟩:=I.ok.has x (.inl hk)
  obtain ⟨w',z⟩:=I.cell x c hc
  refine wpAny_storeName_cell I.ok.kind hk hc z (λh' Sl hs=>?_)
  obtain ⟨oc,hoc,hocd⟩:=id z
  refine h { s with heap:=h' } ⟨I.ok,I.os,I.bare,⟨λb o e n hb hx=>?_,λb o e n hb hx=>?_,I.base.free,λb o e hx=>?_,I.base.tups,I.base.frzs,I.base.tbls⟩,⟨m,hn.sameBut hs (Ne.symm (cne x c hc)),λj y v' e1 e2 e3=>?_⟩,λy c' e=>?_,I.free,I.freeC,λp hp=>?_,tracked ⟨oc,hoc,I.freeC x c hc⟩ hs,by simpa using I.len⟩ ⟨c,hs,.inr hc⟩
  ·exact (hs.2 b (Nat.ne_of_lt (Nat.lt_of_lt_of_le (Heap.lt_size e) (I.ok.cab x c hfn hc)))).trans (I.base.keep b o e n hb hx)
  ·obtain ⟨sl,e1⟩:=I.base.slot b o e n hb hx
   exact ⟨sl,(hs.2 b (Nat.ne_of_lt (Nat.lt_of_lt_of_le (Heap.lt_size e) (I.ok.cab x c hfn hc)))).trans e1⟩
  ·obtain ⟨o',e1⟩:=I.base.there b o e hx
   exact ⟨o',(hs.2 b (Nat.ne_of_lt (Nat.lt_of_lt_of_le (Heap.lt_size e) (I.ok.cab x c hfn hc)))).trans e1⟩
  ·by_cases hj:j=i
   ·subst hj
    rw [hi] at e1;cases e1
    rw [List.getElem?_set_self Rc] at e2
    cases e2
    exact ⟨u,r,.inr ⟨.inl hk,c,hc,Sl⟩⟩
   ·rw [List.getElem?_set_ne (Ne.symm hj)] at e2
    obtain ⟨u',r',q⟩:=hl j y v' e1 e2 e3
    refine ⟨u',r',?_⟩
    rcases q with q|⟨k,c',e,z'⟩
    ·exact .inl q
    ·refine .inr ⟨k,c',e,z'.sameBut hs ?_⟩
     rintro rfl
     exact hj (lW hN e1 (I.ok.inj _ _ _ e hc ▸ hi))
  ·by_cases hcc:c'=c
   ·subst hcc;exact ⟨_,Sl⟩
   ·obtain ⟨w2,z2⟩:=I.cell y c' e
    exact ⟨w2,z2.sameBut hs hcc⟩
  ·obtain ⟨e,n,ne,nf,d⟩:=I.pin p hp
   refine ⟨(hs.2 p.1 ?_).trans e,n,ne,nf,d⟩
   intro q
   rw [q,hoc] at e
   have q':oc=p.2:=Option.some.inj e
   exact d w' (by rw [<- q'];exact hocd)
theorem fZ {M:Model}{A:Around}{E:Value->Shared->Prop}{i:Nat}{x:Str}{v:V}{u:Value}{Q:Unit->Shared->Prop}(I:Inv X pins U H s) (hN:X.N.Nodup) (hi:X.N[i]?=some x) (hx:Loc X.env.scope x) (r:au v u)
  (h:∀ s',Inv X pins (U.set i (some v)) H s'->Q () s') (hf:X.fn x=true\/X.env.scope.names.lookup x=some .local:=by first|exact .inl rfl|exact .inr rfl|assumption):wpAny M A (storeName X.env x u) Q E s :=
 y7 I hN hi hx r (λs' I' _=>h s' I') hf
theorem Inv.call' {s':Shared}{ch:List Addr}(I:Inv X pins U H s) (ho:s'.os=s.os) (u:Un (frs X.stack) ch H H' s.heap s'.heap) (hok:HOk X.prog X.w H' s'.heap) (hg:AllBare s'.gens)
  (O2:∀ b∈ch,(b∈X.ex\/X.s₀.heap.objs.size<=b)/\b≠X.env.locals/\(∀ x c,X.env.cells.lookup x=some c->c≠b)/\∀ p∈X.pn++pins,p.1≠b):Inv X pins U H' s':=by
 obtain ⟨h',g',d',t',o'⟩:=s'
 have e:o'=s.os:=ho
 subst e
 exact I.call (g':=g') (t':=t') (d':=d') u hok hg O2
end
abbrev XK:=Value->Option Addr->Hp->Prop
abbrev St:=List (Option V)
abbrev VK:=V->Hp->Prop
abbrev TE:=St->Hp->VK->Prop
abbrev TT:=St->Hp->(Bool->Hp->Prop)->Prop
abbrev TA:=St->Hp->(List V->Hp->Prop)->Prop
structure Ends where
 nx:St->Hp->Prop
 rt:VK
 bk:St->Hp->Prop:=λ_ _=>False
 ct:St->Hp->Prop:=λ_ _=>False
abbrev TS:=Ends->St->Hp->Prop
def EP (X:Cx) (pins:List (Addr×Obj)) (U:St) (Q:VK) (u:Value) (s':Shared):Prop:=∃ v H',Inv X pins U H' s'/\au v u/\Q v H'
def TP (X:Cx) (pins:List (Addr×Obj)) (U:St) (Q:Bool->Hp->Prop) (b:Bool) (s':Shared):Prop:=∃ H',Inv X pins U H' s'/\Q b H'
def AP (X:Cx) (pins:List (Addr×Obj)) (U:St) (Q:List V->Hp->Prop) (us:List Value) (s':Shared):Prop:=∃ vs H',Inv X pins U H' s'/\am vs us/\Q vs H'
def SP (X:Cx) (pins:List (Addr×Obj)) (D:Ends) (f:Flow) (s':Shared):Prop :=
 match f with
 |.next=>∃ LR H',Inv X pins LR H' s'/\D.nx LR H'
 |.brk=>∃ LR H',Inv X pins LR H' s'/\D.bk LR H'
 |.cont=>∃ LR H',Inv X pins LR H' s'/\D.ct LR H'
 |.ret u=>∃ v LR H',Inv X pins LR H' s'/\au v u/\D.rt v H'
def PE (X:Cx) (e:Expr) (t:TE):Prop :=
 ∀ (pins:List (Addr×Obj)) (s:Shared) (U:St) (H:Hp) (Q:VK),Inv X pins U H s->t U H Q->wpAny (model X.prog X.w) X.A (eval e X.env) (EP X pins U Q) X.xe s
def PT (X:Cx) (e:Expr) (t:TT):Prop :=
 ∀ (pins:List (Addr×Obj)) (s:Shared) (U:St) (H:Hp) (Q:Bool->Hp->Prop),Inv X pins U H s->t U H Q->wpAny (model X.prog X.w) X.A (isTrue e X.env (eval e X.env)) (TP X pins U Q) X.xe s
def PW (X:Cx) (e:Expr) (t:TT):Prop :=
 ∀ (whole:Sem Value) (pins:List (Addr×Obj)) (s:Shared) (U:St) (H:Hp) (Q:Bool->Hp->Prop),Inv X pins U H s->t U H Q->wpAny (model X.prog X.w) X.A (isTrue e X.env whole) (TP X pins U Q) X.xe s
def PA (X:Cx) (es:List Expr) (t:TA):Prop :=
 ∀ (pos:Pos) (pins:List (Addr×Obj)) (s:Shared) (U:St) (H:Hp) (Q:List V->Hp->Prop),Inv X pins U H s->t U H Q->wpAny (model X.prog X.w) X.A (spliced (backTo pos (starEach es X.env))) (AP X pins U Q) X.xe s
def PS (X:Cx) (st:Stmt) (t:TS):Prop :=
 ∀ (pins:List (Addr×Obj)) (s:Shared) (U:St) (H:Hp) (D:Ends),Inv X pins U H s->t D U H->wpAny (model X.prog X.w) X.A (exec st X.env) (SP X pins D) X.xe s
def PSs (X:Cx) (st:List Stmt) (t:TS):Prop :=
 ∀ (pins:List (Addr×Obj)) (s:Shared) (U:St) (H:Hp) (D:Ends),Inv X pins U H s->t D U H->wpAny (model X.prog X.w) X.A (execs st X.env) (SP X pins D) X.xe s
theorem thn {α:Type}{t:Sem α}{Q Q':α->Shared->Prop}{M:Model}{A:Around}{E:Value->Shared->Prop}{s:Shared}(h:wpAny M A t Q E s) (hQ:∀ a s,Q a s->Q' a s):wpAny M A t Q' E s:=wpAny_mono h hQ λ_ _ x=>x
section
variable {X:Cx}
def v1 (i:Nat):TE:=λU H Q=>∃ v,U[i]?=some (some v)/\Q v H
def tC (v:V):TE:=λ_ H Q=>Q v H
theorem Eo {i:Nat}{x:Str}{pos:Pos}(hN:X.N[i]?=some x) (hv:Vis X.env.scope x) (hd:(x==("__debug__":Str))=false:=by decide) (Qm:(x==("__classdict__":Str))=false:=by decide):PE X (.Name x pos) (v1 i):=by
 intro pins s U H Q I h
 obtain ⟨v,e,h⟩:=h
 obtain ⟨m,hn,hl⟩:=I.loc
 obtain ⟨u,r,l⟩:=hl i x v hN e hv
 have fin:EP X pins U Q u s:=⟨v,H,I,r,h⟩
 rcases l with ⟨hk,hm⟩|⟨hk,c,hc,Tf⟩
 ·exact wpAny_Name (wpAny_loadName_local I.ok.kind hk hn hm fin) hd
 ·rcases hk with hk|hk
  ·exact wpAny_Name (wpAny_loadName_cell I.ok.kind hk hc Tf fin) hd
  ·exact wpAny_Name (wpAny_loadName_free I.ok.kind hk hc Tf fin Qm) hd
theorem Ep {i j pos}:PE X (.Constant (.int i) j pos) (tC (.int i)):=λ_ _ _ H _ I h=>wpAny_Constant_int ⟨.int i,H,I.tok _,⟨_,rfl⟩,h⟩
theorem HM {b j pos}:PE X (.Constant (.bool b) j pos) (tC (.bl b)):=λ_ _ _ H _ I h=>Constant_bool ⟨.bl b,H,I,rfl,h⟩
theorem Er {j pos}:PE X (.Constant .none j pos) (tC .non):=λ_ _ _ H _ I h=>Constant_none ⟨.non,H,I,rfl,h⟩
theorem jh {x j pos}:PE X (.Constant (.str x) j pos) (tC (.str x)):=λ_ _ _ H _ I h=>Calls.Constant_str ⟨.str x,H,I.tok _,⟨_,rfl⟩,h⟩
def Gl (X:Cx) (x:Str):Prop:=X.env.kindOf x=some .globalImplicit
theorem c6 {E:Value->Shared->Prop}{pins:List (Addr×Obj)}{s:Shared}{U:St}{H:Hp}{x:Str}{u:Value}{pos:Pos}{Q:Value->Shared->Prop}(I:Inv X pins U H s) (hg:Gl X x) (hm:X.mg x=some u) (h:Q u s)
  (hd:(x==("__debug__":Str))=false:=by decide):wpAny (model X.prog X.w) X.A (eval (.Name x pos) X.env) Q E s :=
 Calls.Name_function_global I.ok.kind hg (Calls.loadGlobal_global (by rw [I.ok.glob];exact I.mod.glob.keeps I.bk) hm h) hd
theorem fj {E:Value->Shared->Prop}{pins:List (Addr×Obj)}{s:Shared}{U:St}{H:Hp}{x:Str}{u:Value}{pos:Pos}{Q:Value->Shared->Prop}(I:Inv X pins U H s) (hg:Gl X x) (hm:X.mg x=none) (hv:bootBuiltins x=some u) (h:Q u s)
  (hn:x ≠ "__name__":=by decide) (hd:(x==("__debug__":Str))=false:=by decide):wpAny (model X.prog X.w) X.A (eval (.Name x pos) X.env) Q E s:=by
 obtain ⟨mb,h1,h2⟩:=I.mod.blt
 exact Calls.Name_function_global I.ok.kind hg (Calls.loadGlobal_builtin (by rw [I.ok.glob];exact I.mod.glob.keeps I.bk) hm (by rw [I.ok.blt];exact h1.keeps I.bk) ((h2 x hn).trans hv) h) hd
theorem rK {x:Str}{v:V}{u:Value}{pos:Pos}(hg:Gl X x) (hm:X.mg x=some u) (r:au v u) (hd:(x==("__debug__":Str))=false:=by decide):PE X (.Name x pos) (tC v) :=
 λ_ _ _ H _ I h=>c6 I hg hm ⟨v,H,I,r,h⟩ hd
theorem BP {x:Str}{v:V}{u:Value}{pos:Pos}(hg:Gl X x) (hm:X.mg x=none) (hv:bootBuiltins x=some u) (r:au v u) (hn:x ≠ "__name__":=by decide) (hd:(x==("__debug__":Str))=false:=by decide):PE X (.Name x pos) (tC v) :=
 λ_ _ _ H _ I h=>fj I hg hm hv ⟨v,H,I,r,h⟩ hn hd
variable {a b:Expr}{ta tb:TE}{pos:Pos}
def tB (t:TE):TT:=λU H Q=>t U H λx H1=>∃ c,x=.bl c/\Q c H1
theorem Es {e:Expr}{t:TE}(h:PE X e t) (he:∀ whole,isTrue e X.env whole=(do let v <- whole;standAt e.pos;holding [v] (truthy v)):=by intro _;rfl):PT X e (tB t):=by
 intro pins s U H Q I hw
 refine isTrue_plain (thn (h pins s U H _ I hw) λv s1 ⟨x,H1,I1,r1,q1⟩=>?_) (he _)
 obtain ⟨d,rfl,q⟩:=q1
 cases r1
 exact wpAny_truthy_bool ⟨H1,I1,q⟩
variable {tA tB':TT}{rest:List Expr}
def KA (t u:TT):TT:=λU H Q=>t U H λc H1=>if c=true then u U H1 Q else Q false H1
def tOr (t u:TT):TT:=λU H Q=>t U H λc H1=>if c=true then Q true H1 else u U H1 Q
def KB (t:TT):TT:=λU H Q=>t U H λc H1=>Q (!c) H1
theorem BQ (ha:PT X a tA):PW X (.BoolOp .And [a] pos) tA:=by
 intro wh pins s U H Q I h
 refine isTrue_and (thn (ha pins s U H Q I h) λc s1 e=>?_)
 cases c with
 |true=>exact isTrue_and_nil e
 |false=>exact e
theorem Et (ha:PT X a tA):PW X (.BoolOp .Or [a] pos) tA:=by
 intro wh pins s U H Q I h
 refine isTrue_or (thn (ha pins s U H Q I h) λc s1 e=>?_)
 cases c with
 |false=>exact isTrue_or_nil e
 |true=>exact e
theorem Eu (ha:PT X a tA) (hb:PW X (.BoolOp .And (b::rest) pos) tB'):PW X (.BoolOp .And (a::b::rest) pos) (KA tA tB'):=by
 intro wh pins s U H Q I h
 refine isTrue_and (thn (ha pins s U H _ I h) λc s1 zz2=>?_)
 obtain ⟨H1,I1,q1⟩:=zz2
 cases c with
 |true=>exact hb wh pins s1 U H1 Q I1 q1
 |false=>exact ⟨H1,I1,q1⟩
theorem HN (ha:PT X a tA) (hb:PW X (.BoolOp .Or (b::rest) pos) tB'):PW X (.BoolOp .Or (a::b::rest) pos) (tOr tA tB'):=by
 intro wh pins s U H Q I h
 refine isTrue_or (thn (ha pins s U H _ I h) λc s1 zz3=>?_)
 obtain ⟨H1,I1,q1⟩:=zz3
 cases c with
 |true=>exact ⟨H1,I1,q1⟩
 |false=>exact hb wh pins s1 U H1 Q I1 q1
theorem Ev (ha:PT X a tA):PT X (.UnaryOp .Not a pos) (KB tA):=by
 intro pins s U H Q I h
 exact isTrue_not (ha pins s U H (λc H1=>Q (!c) H1) I h)
def HP (ta tb:TE):TE:=λU H Q=>ta U H λx H1=>∃ c,x=.bl c/\if c=true then tb U H1 Q else Q (.bl false) H1
def KC (ta tb:TE):TE:=λU H Q=>ta U H λx H1=>∃ c,x=.bl c/\if c=true then Q (.bl true) H1 else tb U H1 Q
def HQ (ta:TE):TE:=λU H Q=>ta U H λx H1=>∃ c,x=.bl c/\Q (.bl (!c)) H1
theorem Ew {op}{t:TE}(h:PE X a t):PE X (.BoolOp op [a] pos) t:=λpins s U H Q I hw=>BoolOp_one (h pins s U H Q I hw)
theorem Ex (ha:PE X a ta) (hb:PE X (.BoolOp .And (b::rest) pos) tb):PE X (.BoolOp .And (a::b::rest) pos) (HP ta tb):=by
 intro pins s U H Q I h
 refine BoolOp_and (thn (ha pins s U H _ I h) λv s1 zz4=>?_)
 obtain ⟨x,H1,I1,r1,q1⟩:=zz4
 obtain ⟨c,rfl,q1⟩:=q1
 cases r1
 refine wpAny_truthy_bool ?_
 cases c with
 |true=>exact hb pins s1 U H1 Q I1 q1
 |false=>exact ⟨.bl false,H1,I1,rfl,q1⟩
theorem HR (ha:PE X a ta) (hb:PE X (.BoolOp .Or (b::rest) pos) tb):PE X (.BoolOp .Or (a::b::rest) pos) (KC ta tb):=by
 intro pins s U H Q I h
 refine BoolOp_or (thn (ha pins s U H _ I h) λv s1 zz5=>?_)
 obtain ⟨x,H1,I1,r1,q1⟩:=zz5
 obtain ⟨c,rfl,q1⟩:=q1
 cases r1
 refine wpAny_truthy_bool ?_
 cases c with
 |false=>exact hb pins s1 U H1 Q I1 q1
 |true=>exact ⟨.bl true,H1,I1,rfl,q1⟩
theorem Ey (ha:PE X a ta):PE X (.UnaryOp .Not a pos) (HQ ta):=by
 intro pins s U H Q I h
 refine UnaryOp_ (thn (ha pins s U H _ I h) λv s1 zz6=>?_)
 obtain ⟨x,H1,I1,r1,q1⟩:=zz6
 obtain ⟨c,rfl,q1⟩:=q1
 cases r1
 exact not_of (wpAny_truthy_bool ⟨.bl (!c),H1,I1,rfl,q1⟩)
def tIf (t:TT) (ta tb:TE):TE:=λU H Q=>t U H λc H1=>if c=true then ta U H1 Q else tb U H1 Q
theorem Ai {c:Expr}(hc:PT X c tA) (ha:PE X a ta) (hb:PE X b tb):PE X (.IfExp c a b pos) (tIf tA ta tb):=by
 intro pins s U H Q I h
 refine wpAny_IfExp (thn (hc pins s U H _ I h) λd s1 zz7=>?_)
 obtain ⟨H1,I1,q1⟩:=zz7
 cases d with
 |true=>exact ha pins s1 U H1 Q I1 q1
 |false=>exact hb pins s1 U H1 Q I1 q1
end
def SqL (K:PySem.W.Frag) (H:Hp) (a:Addr) (xs:List V):Prop :=
 Rd H a (.lst xs) \/
  ∃ (o:Obj) (its:Array Value) (n:Nat),K.lookup a=some o/\o.cls=.type "list" /\ o.dict=none/\o.data=.seq its n/\its.size<=sizeLine/\am xs its.toList
def SqT (K:PySem.W.Frag) (H:Hp) (a:Addr) (xs:List V):Prop :=
 Rd H a (.tup xs) \/
  ∃ (o:Obj) (its:Array Value) (n:Nat),K.lookup a=some o/\o.cls=.type "tuple" /\ o.data=.seq its n/\its.size<=sizeLine/\am xs its.toList
noncomputable def KD:Value->Option V
 |.none=>some .non
 |.bool b=>some (.bl b)
 |.int i _=>some (.int i)
 |.str x _=>some (.str x)
 |.bytes b _=>some (.byt b)
 |.float b _=>some (.flt b)
 |.ref a=>some (.ref a)
 |.type n=>some (.ty n)
 |_=>none
theorem au.abs {x:V}{u:Value}(r:au x u):KD u=some x:=by
 cases x with
 |non=>cases r;rfl
 |bl _=>cases r;rfl
 |int _=>obtain ⟨t,rfl⟩:=r;rfl
 |str _=>obtain ⟨t,rfl⟩:=r;rfl
 |byt _=>obtain ⟨t,rfl⟩:=r;rfl
 |flt _=>obtain ⟨t,rfl⟩:=r;rfl
 |ref _=>cases r;rfl
 |ty _=>cases r;rfl
theorem au.inj {x y:V}{u:Value}(r:au x u) (q:au y u):x=y:=Option.some.inj (r.abs.symm.trans q.abs)
theorem am.inj:∀ {xs ys:List V}{us:List Value},am xs us->am ys us->xs=ys
 |_,_,_,.nil,.nil=>rfl
 |_,_,_,.cons r t,.cons r' t'=>by rw [r.inj r',am.inj t t']
section
variable {X:Cx}{pins:List (Addr×Obj)}{U:St}{H:Hp}{s:Shared}{a:Addr}{xs ys:List V}
theorem SqL.of {K:PySem.W.Frag}(h:H a=some (.lst xs)):SqL K H a xs:=.inl (.inl h)
theorem SqT.of {K:PySem.W.Frag}(h:H a=some (.tup xs)):SqT K H a xs:=.inl (.inl h)
theorem Inv.list (I:Inv X pins U H s) (h:SqL X.K H a xs):∃ its:List Value,am xs its/\PlainL s.heap a its.toArray/\xs.length<=sizeLine:=by
 rcases h with h|⟨o,its,n,hk,hc,hd,hs,hz,r⟩
 ·obtain ⟨z,its,n,r,e⟩:=h.ok I.hok
  exact ⟨its,r,⟨_,n,e,rfl,rfl,rfl⟩,z⟩
 ·refine ⟨its.toList,r,⟨o,n,I.kIn a o hk,hc,hd,by simpa using hs⟩,?_⟩
  have e:=r.length
  simp only [Array.length_toList] at e
  omega
theorem Inv.tuple (I:Inv X pins U H s) (h:SqT X.K H a xs):∃ its:List Value,am xs its/\IsTup s.heap a its.toArray/\xs.length<=sizeLine:=by
 rcases h with h|⟨o,its,n,hk,hc,hs,hz,r⟩
 ·obtain ⟨z,its,r,p⟩:=h.ok I.hok
  exact ⟨its,r,p,z⟩
 ·refine ⟨its.toList,r,⟨o,I.kIn a o hk,hc,n,by simpa using hs⟩,?_⟩
  have e:=r.length
  simp only [Array.length_toList] at e
  omega
theorem Inv.list_inj (I:Inv X pins U H s) (h:SqL X.K H a xs) (h':SqL X.K H a ys):xs=ys:=by
 obtain ⟨its,r,⟨o,n,e,_,_,d⟩,_⟩:=I.list h
 obtain ⟨its',r',⟨o',n',e',_,_,d'⟩,_⟩:=I.list h'
 rw [e] at e';cases e'
 rw [d] at d'
 injection d' with d1 _
 have:its=its':=by simpa using congrArg Array.toList d1
 subst this
 exact r.inj r'
end
noncomputable abbrev Cx.wish (X:Cx) (E:Value->Shared->Prop):Cx:={ X with xe:=E }
noncomputable abbrev Cx.nox (X:Cx):Cx:=X.wish λ_ _=>False
theorem Cx.Ok.wish {X:Cx}(ok:X.Ok) (E:Value->Shared->Prop):(X.wish E).Ok :=
 ⟨ok.mod,ok.kind,ok.glob,ok.blt,ok.above,ok.inj,ok.has,ok.cab,ok.hd,ok.frames,ok.stk,ok.exf,ok.bs,ok.bsz,ok.noex,ok.exfs,ok.funs,ok.frf⟩
theorem Cx.Ok.unwish {X:Cx}{E:Value->Shared->Prop}(ok:(X.wish E).Ok):X.Ok :=
 ⟨ok.mod,ok.kind,ok.glob,ok.blt,ok.above,ok.inj,ok.has,ok.cab,ok.hd,ok.frames,ok.stk,ok.exf,ok.bs,ok.bsz,ok.noex,ok.exfs,ok.funs,ok.frf⟩
section
variable {X:Cx}{pins:List (Addr×Obj)}{U:St}{H:Hp}{s:Shared}{E:Value->Shared->Prop}
theorem Inv.wish (I:Inv X pins U H s) (E:Value->Shared->Prop):Inv (X.wish E) pins U H s:=⟨I.ok.wish E,I.os,I.bare,I.base,I.loc,I.cell,I.free,I.freeC,I.pin,I.hok,I.len⟩
theorem Inv.unwish (I:Inv (X.wish E) pins U H s):Inv X pins U H s:=⟨I.ok.unwish,I.os,I.bare,I.base,I.loc,I.cell,I.free,I.freeC,I.pin,I.hok,I.len⟩
theorem SP.unwish {D:Ends}{f:Flow}{s':Shared}(h:SP (X.wish E) pins D f s'):SP X pins D f s':=by
 cases f with
 |next=>obtain ⟨LR,H',I,q⟩:=h;exact ⟨LR,H',I.unwish,q⟩
 |brk=>obtain ⟨LR,H',I,q⟩:=h;exact ⟨LR,H',I.unwish,q⟩
 |cont=>obtain ⟨LR,H',I,q⟩:=h;exact ⟨LR,H',I.unwish,q⟩
 |ret u=>obtain ⟨v,LR,H',I,r,q⟩:=h;exact ⟨v,LR,H',I.unwish,r,q⟩
theorem PSs.nox {st:List Stmt}{t:TS}(h:PSs X.nox st t):PSs X st t:=λpins s U H D I hw =>
 wpAny_mono (h pins s U H D (I.wish _) hw) (λ_ _ q=>q.unwish) λ_ _ z=>False.elim z
end
section
variable {X:Cx}{st:Stmt}{rest:List Stmt}{t u:TS}{e:Expr}{te:TE}{pos:Pos}
def HS:TS:=λD U H=>D.nx U H
def KF (t u:TS):TS:=λD U H=>t { D with nx:=u D } U H
theorem BR:PSs X [] HS:=λ_ _ U H _ I h=>wpAny_execs_nil ⟨U,H,I,h⟩
theorem Aj (h1:PS X st t) (h2:PSs X rest u):PSs X (st::rest) (KF t u):=by
 intro pins s U H D I h
 refine wpAny_execs_cons (thn (h1 pins s U H { D with nx:=u D } I h) λf s1 q=>?_)
 cases f with
 |next =>
  obtain ⟨LR,H',I',q⟩:=q
  exact h2 pins s1 LR H' D I' q
 |ret v=>exact q
 |brk=>exact q
 |cont=>exact q
theorem BS (h1:PS X st t):PSs X [st] t:=by
 intro pins s U H D I h
 refine wpAny_execs_cons (thn (h1 pins s U H D I h) λf s1 q=>?_)
 cases f with
 |next=>exact wpAny_execs_nil q
 |ret v=>exact q
 |brk=>exact q
 |cont=>exact q
theorem Inv.quiet {pins:List (Addr×Obj)}{U:St}{H:Hp}{s:Shared}(I:Inv X pins U H s):interactive X.env=false:=by simp [interactive,I.ok.kind]
def HU (te:TE):TS:=λD U H=>te U H λ_ H1=>D.nx U H1
theorem BU (he:PE X e te) (hs:swapsWith e none pos.line X.env=pure false:=by rfl):PS X (.Expr e pos) (HU te):=by
 intro pins s U H D I h
 exact wpAny_Expr_any (thn (he pins s U H _ I h) λv s1 zz10=>by obtain ⟨x,H1,I1,r1,q1⟩:=zz10;exact ⟨U,H1,I1,q1⟩) I.quiet hs
def KG (te:TE):TS:=λD U H=>te U H D.rt
theorem Ez (he:PE X e te):PS X (.Return (some e) pos) (KG te):=by
 intro pins s U H D I h
 exact wpAny_Return_some (thn (he pins s U H _ I h) λv s1 zz11=>by obtain ⟨x,H1,I1,r1,q1⟩:=zz11;exact ⟨x,U,H1,I1,r1,q1⟩)
def KH (c:TT) (t u:TS):TS:=λD U H=>c U H λb H1=>if b=true then t D U H1 else u D U H1
theorem HV {c:Expr}{a b:List Stmt}{tc:TT}(hc:PT X c tc) (ha:PSs X a t) (hb:PSs X b u):PS X (.If c a b pos) (KH tc t u):=by
 intro pins s U H D I h
 refine wpAny_If (thn (hc pins s U H _ I h) λd s1 zz12=>?_)
 obtain ⟨H1,I1,q1⟩:=zz12
 cases d with
 |true=>exact ha pins s1 U H1 D I1 q1
 |false=>exact hb pins s1 U H1 D I1 q1
end
abbrev TG:=V->St->Hp->(St->Hp->Prop)->Prop
abbrev TGs:=List V->St->Hp->(St->Hp->Prop)->Prop
def PG (X:Cx) (LV:Expr) (t:TG):Prop :=
 ∀ (pins:List (Addr×Obj)) (s:Shared) (U:St) (H:Hp) (v:V) (u:Value) (Q:St->Hp->Prop),Inv X pins U H s->au v u->t v U H Q ->
  wpAny (model X.prog X.w) X.A (assign LV X.env u) (λ_ s'=>∃ LR H',Inv X pins LR H' s'/\Q LR H') X.xe s
def PGs (X:Cx) (ts:List Expr) (t:TGs):Prop :=
 ∀ (pins:List (Addr×Obj)) (s:Shared) (U:St) (H:Hp) (vs:List V) (us:List Value) (Q:St->Hp->Prop),Inv X pins U H s->am vs us->t vs U H Q ->
  wpAny (model X.prog X.w) X.A (assignInOrder ((assignEach ts X.env).map (·.2)) us) (λ_ s'=>∃ LR H',Inv X pins LR H' s'/\Q LR H') X.xe s
abbrev jQ:=V->V->V->Hp->(Hp->Prop)->Prop
def c3 (X:Cx) (t:jQ):Prop :=
 ∀ (pins:List (Addr×Obj)) (s:Shared) (U:St) (H:Hp) (o i v:V) (ov iv u:Value) (Q:Hp->Prop),Inv X pins U H s->au o ov->au i iv->au v u->t o i v H Q ->
  wpAny (model X.prog X.w) X.A (setItem ov iv u) (λ_ s'=>∃ H',Inv X pins U H' s'/\Q H') X.xe s
section
variable {X:Cx}{pos:Pos}
def jz (i:Nat):TG:=λv U H Q=>Q (U.set i (some v)) H
theorem BV {i:Nat}{x:Str}(hN:X.N.Nodup) (hi:X.N[i]?=some x) (hx:Loc X.env.scope x) (hf:X.fn x=true\/X.env.scope.names.lookup x=some .local:=by first|exact .inl rfl|exact .inr rfl|assumption):PG X (.Name x pos) (jz i):=by
 intro pins s U H v u Q I r h
 exact wpAny_assign_Name (fZ I hN hi hx r (λs' I'=>⟨_,H,I',h⟩) hf)
def KI:TGs:=λvs U H Q=>vs=[]/\Q U H
def uM (t:TG) (u:TGs):TGs:=λvs U H Q=>∃ v r,vs=v::r/\t v U H λLR H'=>u r LR H' Q
theorem BW:PGs X [] KI:=by
 intro pins s U H vs us Q I r h
 obtain ⟨e,h⟩:=h
 subst e
 cases r
 exact assignInOrder_nil ⟨U,H,I,h⟩
theorem cy {e:Expr}{es:List Expr}{t:TG}{u:TGs}(h1:PG X e t) (h2:PGs X es u)
  (hs:(assignEach (e::es) X.env).map (·.2)=assign e X.env::(assignEach es X.env).map (·.2):=by rfl):PGs X (e::es) (uM t u):=by
 intro pins s U H vs us Q I r h
 obtain ⟨v,vr,e1,h⟩:=h
 subst e1
 cases r with
 |cons r rr =>
  rw [hs]
  refine assignInOrder_cons (thn (h1 pins s U H _ _ _ I r h) λ_ s1 zz13=>?_)
  obtain ⟨σ1,H1,I1,q1⟩:=zz13
  exact h2 pins s1 σ1 H1 _ _ Q I1 rr q1
def oU (K:PySem.W.Frag) (n:Nat) (t:TGs):TG:=λv U H Q=>∃ a xs,v=.ref a/\SqT K H a xs/\xs.length=n/\t xs U H Q
theorem EA {es:List Expr}{k:Nat}{t:TGs}{n:Nat}(hc:X.calm=true) (h:PGs X es t)
  (hn:(assignEach es X.env).length=n:=by rfl) (PC:(assignEach es X.env).findIdx? (·.1)=none:=by rfl):PG X (.Tuple es k pos) (oU X.K n t):=by
 intro pins s U H v u Q I r hw
 obtain ⟨a,xs,e1,hq,hl,hw⟩:=hw
 subst e1
 cases r
 obtain ⟨its,rv,ht,hz⟩:=I.tuple hq
 refine assign_Tuple_tuple (I.ok.hd hc) ht (by simp [hn,<- hl,rv.length]) PC λh' hx=>?_
 have I1:Inv X pins U H { s with heap:=h' }:=I.kept (t':=s.toks) λb o e=>hx b o (Nat.ne_of_lt (Heap.lt_size e)) e
 exact h pins _ U H xs _ Q I1 (by simpa using rv) hw
def eD (to ti:TE) (t:jQ):TG:=λv U H Q=>to U H λo H1=>ti U H1 λi H2=>t o i v H2 λH3=>Q U H3
theorem EB {o i:Expr}{to ti:TE}{t:jQ}(ho:PE X o to) (hi:PE X i ti) (hs:c3 X t)
  (ha:∀ v,assign (.Subscript o i pos) X.env v=(do
   let ov <- holding [v] (eval o X.env)
   let iv <- holding [v,ov] (eval i X.env)
   standAt pos
   holding [v,ov,iv] (setItem ov iv v)
   release [v,ov,iv] []):=by intro _;rfl):PG X (.Subscript o i pos) (eD to ti t):=by
 intro pins s U H v u Q I r h
 rw [ha]
 refine wpAny_bind (wpAny_holding (thn (ho pins s U H _ I h) λov s1 zz14=>?_))
 obtain ⟨x,H1,I1,r1,q1⟩:=zz14
 refine wpAny_bind (wpAny_holding (thn (hi pins s1 U H1 _ I1 q1) λiv s2 zz15=>?_))
 obtain ⟨y,H2,I2,r2,q2⟩:=zz15
 refine wpAny_bind (wpAny_standAt (wpAny_bind (wpAny_holding (thn (hs pins s2 U H2 x y v ov iv u _ I2 r1 r2 r q2) λ_ s3 zz16=>?_))))
 obtain ⟨H3,I3,q3⟩:=zz16
 exact wpAny_release ⟨U,H3,I3,q3⟩
def fS (te:TE) (g:TG):TS:=λD U H=>te U H λx H1=>g x U H1 D.nx
theorem EC {tg e:Expr}{te:TE}{g:TG}(he:PE X e te) (hg:PG X tg g) (hs:swapsWithSole [tg] e pos.line X.env=pure false:=by rfl) (hw:swappedStores [tg] e X.env=pure none:=by rfl)
  (h1:(assignEach [tg] X.env).map (·.2)=[assign tg X.env]:=by rfl):PS X (.Assign [tg] e pos) (fS te g):=by
 intro pins s U H D I h
 refine wpAny_Assign_stores (thn (he pins s U H _ I h) λv s1 ⟨x,H1,I1,r1,q1⟩=>?_) hs hw
 rw [h1]
 exact thn (hg pins s1 U H1 x v _ I1 r1 q1) λ_ s2 q=>q
theorem ED {i:Nat}{x:Str}{e:Expr}{te:TE}{MT:Pos}(hN:X.N.Nodup) (hi:X.N[i]?=some x) (hx:Loc X.env.scope x) (he:PE X e te) (hs:swapsWith e (some (.Name x MT)) pos.line X.env=pure false:=by rfl) (hf:X.fn x=true\/X.env.scope.names.lookup x=some .local:=by first|exact .inl rfl|exact .inr rfl|assumption) :
  PS X (.Assign [.Name x MT] e pos) (fS te (jz i)):=by
 intro pins s U H D I h
 refine wpAny_Assign_Name (thn (he pins s U H _ I h) λv s1 ⟨y,H1,I1,r1,q1⟩=>?_) hs
 exact fZ I1 hN hi hx r1 (λs2 I2=>⟨_,H1,I2,q1⟩) hf
end
section
variable {X:Cx}{pos:Pos}
end
structure It where
 go:Nat->Hp->Prop
 yld:Nat->Hp->V->Hp->Prop
 stop:Nat->Hp->Prop
def bO (X:Cx) (pins:List (Addr×Obj)) (H:Hp) (b:Addr):Prop :=
 H b=none/\b≠X.env.locals/\b∉X.fs/\(b∈X.ex\/X.s₀.heap.objs.size<=b)/\(∀ x c,X.env.cells.lookup x=some c->c≠b)/\∀ p∈X.pn++pins,p.1≠b
theorem Inv.fpOk {X:Cx}{pins:List (Addr×Obj)}{U:St}{H H':Hp}{s:Shared}{b:Addr}(I:Inv X pins U H s) (hb:s.heap.objs.size<=b) (hn:H' b=none):bO X pins H' b:=by
 refine ⟨hn,Nat.ne_of_gt (Nat.lt_of_lt_of_le I.lt hb),I.nofs hb,.inr (Nat.le_trans I.sz hb),λx c e z=>?_,λp hp z=>?_⟩
 ·obtain ⟨v,q⟩:=I.cell x c e
  exact absurd (Nat.lt_of_lt_of_le q.lt (by rw [z];exact hb)) (Nat.lt_irrefl _)
 ·exact absurd (Nat.lt_of_lt_of_le (Heap.lt_size (I.pin p hp).1) (by rw [z];exact hb)) (Nat.lt_irrefl _)
structure Turn (P:Program) (w:World) (K:PySem.W.Frag) (tg:Expr) (J:It) (fp:List Addr) (it:Addr) (tn:Nat->Heap->Prop):Prop where
 mem:it∈fp
 obj:∀ i h,tn i h->∀ b∈fp,∃ o,h.get? b=some o/\∀ v,o.data≠.cell v
 keep:∀ i h h',tn i h->(∀ b∈fp,∀ o,h.get? b=some o->h'.get? b=some o)->tn i h'
 item:∀ (X:Cx),X.prog=P->X.w=w->X.K=K->X.calm=true->∀ (i:Nat) (pins:List (Addr×Obj)) (s:Shared) (U:St) (H:Hp) (E:Value->Shared->Prop),Inv X pins U H s->(∀ b∈fp,bO X pins H b)->tn i s.heap->J.go i H ->
  wpAny (model P w) X.A (pyNext (.ref it)) (λr s1=>∃ u,r=some u /\
   wpAny (model P w) X.A (letOwnedTupleGo tg (.ref it) u) (λ_ s2=>∃ x H',Inv X pins U H' s2/\au x u/\J.yld i H x H'/\tn (i+1) s2.heap/\∀ b∈fp,H' b=none) E s1) E s
 done:∀ (X:Cx),X.prog=P->X.w=w->X.K=K->X.calm=true->∀ (i:Nat) (pins:List (Addr×Obj)) (s:Shared) (U:St) (H:Hp) (E:Value->Shared->Prop),Inv X pins U H s->(∀ b∈fp,bO X pins H b)->tn i s.heap->J.stop i H ->
  wpAny (model P w) X.A (pyNext (.ref it)) (λr s1=>r=none/\Inv X pins U H s1) E s
 self:∀ (A:Around) (i:Nat) (s:Shared) (Q:Value->Shared->Prop) (E:Value->Shared->Prop),tn i s.heap->Q (.ref it) s->wpAny (model P w) A (pyIter (.ref it)) Q E s
abbrev TI:=St->Hp->(It->Hp->Prop)->Prop
def PIE (X:Cx) (pins:List (Addr×Obj)) (U:St) (tg:Expr) (R:It->Hp->Prop) (itv:Value) (s2:Shared):Prop :=
 ∃ (it:Addr) (fp:List Addr) (tn:Nat->Heap->Prop) (J:It) (H':Hp),itv=.ref it/\Inv X pins U H' s2/\Turn X.prog X.w X.K tg J fp it tn/\tn 0 s2.heap/\(∀ b∈fp,bO X pins H' b)/\R J H'
def PI (X:Cx) (tg Mg:Expr) (wi:TI):Prop :=
 ∀ (pins:List (Addr×Obj)) (s:Shared) (U:St) (H:Hp) (R:It->Hp->Prop),Inv X pins U H s->wi U H R ->
  wpAny (model X.prog X.w) X.A (eval Mg X.env) (λv s1=>wpAny (model X.prog X.w) X.A (pyIter v) (PIE X pins U tg R) X.xe s1) X.xe s
theorem nU {M:Model}{A:Around}{E:Value->Shared->Prop}{s:Shared}{tg:Expr}{it:Addr}{u:Value}{o:Obj}{n:String}{vs:Array Value}{Q:Unit->Shared->Prop}(ho:s.heap.get? it=some o) (hc:o.cls=.type n) (hd:o.data=.fields vs)
  (hn:["enumerate","zip","dict_itemiterator","dict_reverseitemiterator","odict_iterator","itertools.zip_longest","itertools.pairwise"].contains n=false) (hQ:Q () s):wpAny M A (letOwnedTupleGo tg (.ref it) u) Q E s:=by
 unfold letOwnedTupleGo
 cases tg<;>first
  |exact wpAny_pure hQ
  |(cases u<;>first
    |exact wpAny_pure hQ
    |(refine wpAny_bind (wpAny_load ho ?_)
      rw [hc,hd]
      show wpAny M A (if (["enumerate","zip","dict_itemiterator","dict_reverseitemiterator","odict_iterator","itertools.zip_longest","itertools.pairwise"].contains n&&vs[0]?==some (rawInt _))=true then _ else _) Q E s
      rw [if_neg (by intro h;rw [hn,Bool.false_and] at h;cases h)]
      exact wpAny_pure hQ))
def Itl (K:PySem.W.Frag) (a:Addr):It :=
 ⟨λi H=>∃ xs x,SqL K H a xs/\xs[i]?=some x,λi H x H'=>H'=H/\∀ xs,SqL K H a xs->xs[i]?=some x,λi H=>∃ xs,SqL K H a xs/\xs.length<=i⟩
def Itr (lo:Int) (n:Nat):It:=⟨λi _=>i<n,λi H x H'=>H'=H/\x=.int (lo+i),λi _=>n<=i⟩
theorem y8 {P:Program}{w:World}{K:PySem.W.Frag}{tg:Expr}(a it:Addr):Turn P w K tg (Itl K a) [it] it (λi h=>h.IsListIter it a i) where
 mem:=by simp
 obj:=λi h st b hb=>by
  have e:b=it:=by simpa using hb
  subst e
  obtain ⟨o,e,c,d⟩:=st
  exact ⟨o,e,λv z=>by rw [d] at z;cases z⟩
 keep:=λi h h' st k=>st.at λo e=>k it (by simp) o e
 item:=by
  intro X hP hw hK hc i pins s U H E I hf st hg
  subst hP hw hK
  obtain ⟨xs,x,hq,hx⟩:=hg
  obtain ⟨its,rv,p,hz⟩:=I.list hq
  obtain ⟨u,hu,ru⟩:=rv.get hx
  obtain ⟨f0,f1,f2,f3,f4,f5⟩:=hf it (by simp)
  refine wpAny_pyNext_list_item st p.isList (x:=u) (by simpa using hu) λh' Q7 sb=>?_
  have I1:Inv X pins U H { s with heap:=h' }:=I.turned (t':=s.toks) (λb o hb e=>(sb.2 b hb).trans e) f0 f1 f3 f4 f5
  obtain ⟨o,e,c,d⟩:=id Q7
  exact ⟨u,rfl,nU (s:={ s with heap:=h' }) e c d (by decide) ⟨x,H,I1,ru,⟨rfl,λys hy=>by rw [I.list_inj hy hq];exact hx⟩,Q7,λb hb=>(hf b hb).1⟩⟩
 done:=by
  intro X hP hw hK hc i pins s U H E I hf st hg
  subst hP hw hK
  obtain ⟨xs,hq,hx⟩:=hg
  obtain ⟨its,rv,p,hz⟩:=I.list hq
  obtain ⟨f0,f1,f2,f3,f4,f5⟩:=hf it (by simp)
  have hl:=rv.length
  exact wpAny_pyNext_list_end (I.ok.hd hc) st p.isList (by simp;omega) λh' eb=>⟨rfl,I.turned (t':=s.toks) (λb o hb e=>eb b o hb e) f0 f1 f3 f4 f5⟩
 self:=λ_ _ _ _ _ st h=>wpAny_pyIter_listiter st h
theorem yA {P:Program}{w:World}{K:PySem.W.Frag}{tg:Expr}(it:Addr) (lo:Int) (n:Nat):Turn P w K tg (Itr lo n) [it] it (λi h=>IsRangeIter h it (lo+(i:Nat) * 1) ((n:Int) - (i:Nat)) 1) where
 mem:=by simp
 obj:=λi h st b hb=>by
  have e:b=it:=by simpa using hb
  subst e
  exact ⟨_,st,λv z=>by
   have z':Data.fields _=Data.cell v:=z
   cases z'⟩
 keep:=λi h h' st k=>k it (by simp) _ st
 item:=by
  intro X hP hw hK hc i pins s U H E I hf st hg
  subst hP hw hK
  obtain ⟨f0,f1,f2,f3,f4,f5⟩:=hf it (by simp)
  have W:=Walks.range (prog:=X.prog) (w:=X.w) (I.ok.hd hc) it lo 1 n
  refine W.item i s _ _ hg st λv h' tk hv Q7 kk=>?_
  obtain ⟨t,rfl⟩:=hv
  have I1:Inv X pins U H { s with heap:=h',toks:=tk }:=I.turned (λb o hb e=>kk b o (by simpa using hb) e) f0 f1 f3 f4 f5
  refine ⟨_,rfl,nU (s:={ s with heap:=h',toks:=tk }) (n:="range_iterator") Q7 rfl rfl (by decide) ⟨.int (lo+i),H,I1,⟨t,?_⟩,⟨rfl,rfl⟩,Q7,λb hb=>(hf b hb).1⟩⟩
  rw [Int.mul_one]
 done:=by
  intro X hP hw hK hc i pins s U H E I hf st hg
  subst hP hw hK
  obtain ⟨f0,f1,f2,f3,f4,f5⟩:=hf it (by simp)
  exact wpAny_pyNext_range_end (I.ok.hd hc) st (by have:n<=i:=hg;omega) λh' eb=>⟨rfl,I.turned (t':=s.toks) (λb o hb e=>eb b o hb e) f0 f1 f3 f4 f5⟩
 self:=λ_ _ _ _ _ st h=>wpAny_pyIter_rangeiter st h
section
variable {X:Cx}{tg:Expr}
def HW (K:PySem.W.Frag) (tl:TE):TI:=λU H R=>tl U H λx H1=>∃ a,x=.ref a/\(∃ xs,SqL K H1 a xs)/\R (Itl K a) H1
theorem BX {l:Expr}{tl:TE}(hl:PE X l tl):PI X tg l (HW X.K tl):=by
 intro pins s U H R I h
 refine thn (hl pins s U H _ I h) λv s1 zz17=>?_
 obtain ⟨x,H1,I1,r1,q1⟩:=zz17
 obtain ⟨a,e,⟨xs,hq⟩,q⟩:=q1
 subst e
 cases r1
 obtain ⟨its,rv,p,hz⟩:=I1.list hq
 refine wpAny_pyIter_list p.isList ?_
 refine ⟨s1.heap.objs.size,[s1.heap.objs.size],_,_,H1,rfl,I1.kept (t':=s1.toks) λb o e=>Heap.get?_push_of_some _ e,y8 a _,⟨_,Heap.get?_push_size _ rfl,rfl,rfl⟩,λb hb=>?_,q⟩
 have e:b=s1.heap.objs.size:=by simpa using hb
 subst e
 exact I1.fpOk (Nat.le_refl _) (I1.hok.fresh (Nat.le_refl _))
theorem Ak {pins:List (Addr×Obj)}{U:St}{H:Hp}{s:Shared}{R:It->Hp->Prop}{E:Value->Shared->Prop}{lo hi:Int}{t u v:Tok}{tk:Nat}(I:Inv X pins U H s) (h1:-(2 ^ 62)<=lo) (h2:lo<2 ^ 62) (h3:-(2 ^ 62)<=hi) (h4:hi<2 ^ 62)
  (q:R (Itr lo (hi - lo).toNat) H):wpAny (model X.prog X.w) X.A (pyIter (.ref s.heap.objs.size)) (PIE X pins U tg R) E { s with heap:=s.heap.push { cls:=.type "range",data:=.fields #[.int lo t,.int hi u,.int 1 v] },toks:=tk }:=by
 refine wpAny_pyIter_range (IsRange.new ..) (small_one h1 h2 h3 h4) ?_
 have I1:Inv X pins U H { s with heap:=s.heap.push { cls:=.type "range",data:=.fields #[.int lo t,.int hi u,.int 1 v] },toks:=tk }:=I.kept λb o e=>Heap.get?_push_of_some _ e
 refine ⟨(s.heap.push { cls:=.type "range",data:=.fields #[.int lo t,.int hi u,.int 1 v] }).objs.size,[(s.heap.push { cls:=.type "range",data:=.fields #[.int lo t,.int hi u,.int 1 v] }).objs.size],_,_,H,rfl,
  I1.kept (t':=tk) λb o e=>Heap.get?_push_of_some _ e,yA _ lo (hi - lo).toNat,?_,λb hb=>?_,q⟩
 ·have e1:lo+((0:Nat):Int) * 1=lo:=by simp
  have e2:(((hi - lo).toNat:Nat):Int) - ((0:Nat):Int)=Builtin.Range.rangeSize lo hi 1:=by rw [rangeSize_one];split<;>omega
  show IsRangeIter _ _ (lo+((0:Nat):Int) * 1) ((((hi - lo).toNat:Nat):Int) - ((0:Nat):Int)) 1
  rw [e1,e2]
  exact Heap.get?_push_size _ rfl
 ·have e:b=(s.heap.push { cls:=.type "range",data:=.fields #[.int lo t,.int hi u,.int 1 v] }).objs.size:=by simpa using hb
  subst e
  exact I1.fpOk (Nat.le_refl _) (I1.hok.fresh (Nat.le_refl _))
def HX (ta:TA):TI:=λU H R=>ta U H λvs H1=>∃ j:Int,vs=[.int j] /\ -(2 ^ 62)<=j/\j<2 ^ 62/\R (Itr 0 j.toNat) H1
theorem y9 {a:Expr}{ta:TA}{p pos:Pos}(hg:Gl X "range") (hm:X.mg "range"=none) (ha:PA X [a] ta) (hs:starEach [a] X.env=[(false,eval a X.env)]:=by rfl):PI X tg (.Call (.Name "range" p) [a] [] pos) (HX ta):=by
 intro pins s U H R I h
 refine Call_ (fj I hg hm boot_range (PyProof.Rows.callWith_type1 (thn (ha pos pins s U H _ I h) λus s1 ⟨vs,H1,I1,r1,q1⟩=>?_) hs rfl))
 obtain ⟨j,e,q1,q2,q⟩:=q1
 subst e
 cases r1 with
 |cons r rr =>
  cases rr
  obtain ⟨t,rfl⟩:=r
  exact call_range_1 (Ak I1 (by omega) (by omega) q1 q2 (by simpa using q))
def v2 (wi:TI) (g:TG) (tb:TS):TS:=λD U H=>wi U H λJ H1=>∃ W:Nat->Nat->St->Hp->Prop,(∃ m,W 0 m U H1)/\∀ i m U H,W i m U H ->
 (J.stop i H/\D.nx U H)\/(J.go i H/\∃ N:St->Hp->Prop,(∀ LR H',N LR H'->∃ m',m'<m/\W (i+1) m' LR H')/\∀ x H',J.yld i H x H'->g x U H' λMR H2=>tb { D with nx:=N,ct:=N,bk:=D.nx } MR H2)
noncomputable def gG (fp:List Addr) (h:Heap):List (Addr×Obj):=fp.filterMap λb=>(h.get? b).map λo=>(b,o)
theorem iU {fp:List Addr}{h:Heap}{b:Addr}{o:Obj}(hb:b∈fp) (e:h.get? b=some o):(b,o)∈gG fp h:=List.mem_filterMap.mpr ⟨b,hb,by rw [e];rfl⟩
theorem y' {fp:List Addr}{h:Heap}{p:Addr×Obj}(hp:p∈gG fp h):p.1∈fp/\h.get? p.1=some p.2:=by
 obtain ⟨b,hb,e⟩:=List.mem_filterMap.mp hp
 cases q:h.get? b with
 |none=>rw [q] at e;cases e
 |some o =>
  rw [q] at e
  have e':(b,o)=p:=Option.some.inj e
  subst e'
  exact ⟨hb,q⟩
theorem Inv.pinned {pins:List (Addr×Obj)}{U:St}{H:Hp}{s:Shared}{fp:List Addr}(I:Inv X pins U H s) (hf:∀ b∈fp,bO X pins H b) (ho:∀ b∈fp,∃ o,s.heap.get? b=some o/\∀ v,o.data≠.cell v):Inv X (pins++gG fp s.heap) U H s :=
 I.pins_of λp hp=>(List.mem_append.mp hp).elim (λz=>I.pin p (List.mem_append_right _ z)) λz=>by
  obtain ⟨hb,e⟩:=y' z
  obtain ⟨f0,f1,f2,_⟩:=hf p.1 hb
  obtain ⟨o,e',d⟩:=ho p.1 hb
  rw [e] at e';cases e'
  exact ⟨e,f0,f1,f2,d⟩
theorem Inv.unpinned {pins pl:List (Addr×Obj)}{U:St}{H:Hp}{s:Shared}(I:Inv X (pins++pl) U H s):Inv X pins U H s:=I.pins_of λp hp=>I.pin p (List.mem_append_right _ (List.mem_append_left _ hp))
theorem EE {Mg:Expr}{body:List Stmt}{wi:TI}{g:TG}{tb:TS}{pos:Pos}(hp:PassesOwn (model X.prog X.w) X.A X.env X.xe) (hc:X.calm=true) (hi:PI X tg Mg wi) (hg:PG X tg g) (hb:PSs X body tb)
  (hs:∀ x,foldedSetIterable Mg X.env x=pure x:=by intro _;rfl):PS X (.For tg Mg body [] pos) (v2 wi g tb):=by
 intro pins s U H D I h
 refine wpAny_For (thn (hi pins s U H _ I h) λv s1 h1=>thn h1 λitv s2 h2=>?_) hs
 obtain ⟨it,fp,tn,J,H2,e,I2,T,st2,f2,W,⟨m0,w0⟩,turn⟩:=h2
 subst e
 -- what stays true of the To objects through the loop
 have stat:∀ {H':Hp},(∀ b∈fp,H' b=none)->∀ b∈fp,bO X pins H' b:=λhn b hb=>⟨hn b hb,(f2 b hb).2⟩
 refine codeAny_forLoop_any (λn s'=>∃ i LR H',Inv X pins LR H' s'/\tn i s'.heap/\(∀ b∈fp,H' b=none)/\W i n LR H') ?_ m0 ⟨0,U,H2,I2,st2,λb hb=>(f2 b hb).1,w0⟩
 rintro n s3 ⟨i,Sm,H3,I3,st3,fr3,w3⟩
 rcases turn i n Sm H3 w3 with ⟨stop,qn⟩|⟨go,N,hN,step⟩
 ·refine wpAny_passesOwn hp (thn (T.done X rfl rfl rfl hc i pins s3 Sm H3 X.xe I3 (stat fr3) st3 stop) λr s4 ⟨hr,I4⟩=>?_)
  subst hr
  exact wpAny_execs_nil ⟨Sm,H3,I4,qn⟩
 ·refine wpAny_passesOwn hp (thn (T.item X rfl rfl rfl hc i pins s3 Sm H3 X.xe I3 (stat fr3) st3 go) λr s4 ⟨u,hr,h4⟩=>?_)
  subst hr
  refine wpAny_passesOwn hp (thn h4 λ_ s5 zz18=>?_)
  obtain ⟨x,H5,I5,r5,y5,Tq,fr5⟩:=zz18
  have I5':=I5.pinned (stat fr5) (T.obj _ _ Tq)
  refine wpAny_passesOwn hp (thn (hg _ s5 Sm H5 x u _ I5' r5 (step x H5 y5)) λ_ s6 zz19=>?_)
  obtain ⟨Sw,H6,I6,q6⟩:=zz19
  refine wpAny_passesOwn hp (thn (hb _ s6 Sw H6 _ I6 q6) λf s7 q7=>?_)
  have again:∀ {Rv:St}{H7:Hp},Inv X (pins++gG fp s5.heap) Rv H7 s7->N Rv H7->∃ m,m<n/\∃ i LR H',Inv X pins LR H' s7/\tn i s7.heap/\(∀ b∈fp,H' b=none)/\W i m LR H':=fun {Rv H7} I7 n7=>by
   obtain ⟨m',hm,w7⟩:=hN Rv H7 n7
   refine ⟨m',hm,i+1,Rv,H7,I7.unpinned,T.keep _ _ _ Tq λb hb o e=>(I7.pin (b,o) (List.mem_append_right _ (List.mem_append_right _ (iU hb e)))).1,λb hb=>?_,w7⟩
   obtain ⟨o,e,d⟩:=T.obj _ _ Tq b hb
   exact (I7.pin (b,o) (List.mem_append_right _ (List.mem_append_right _ (iU hb e)))).2.1
  cases f with
  |next=>obtain ⟨Rv,H7,I7,n7⟩:=q7;exact again I7 n7
  |cont=>obtain ⟨Rv,H7,I7,n7⟩:=q7;exact again I7 n7
  |brk=>obtain ⟨Rv,H7,I7,q7⟩:=q7;exact ⟨Rv,H7,I7.unpinned,q7⟩
  |ret v=>obtain ⟨x7,Rv,H7,I7,r7,q7⟩:=q7;exact ⟨x7,Rv,H7,I7.unpinned,r7,q7⟩
end
abbrev R2:=V->V->Hp->VK->Prop
def OpR (X:Cx) (f:Value->Value->Sem Value) (r:R2):Prop :=
 ∀ (pins:List (Addr×Obj)) (s:Shared) (U:St) (H:Hp) (x y:V) (v u:Value) (Q:VK),Inv X pins U H s->au x v->au y u->r x y H Q ->
  wpAny (model X.prog X.w) X.A (f v u) (EP X pins U Q) X.xe s
def UnR (X:Cx) (f:Value->Sem Value) (r:V->Hp->VK->Prop):Prop :=
 ∀ (pins:List (Addr×Obj)) (s:Shared) (U:St) (H:Hp) (x:V) (v:Value) (Q:VK),Inv X pins U H s->au x v->r x H Q ->
  wpAny (model X.prog X.w) X.A (f v) (EP X pins U Q) X.xe s
def a8 (X:Cx) (f:Value) (r:List V->Hp->VK->Prop):Prop :=
 ∀ (pins:List (Addr×Obj)) (s:Shared) (U:St) (H:Hp) (xs:List V) (us:List Value) (Q:VK),Inv X pins U H s->am xs us->r xs H Q ->
  wpAny (model X.prog X.w) X.A (call f us) (EP X pins U Q) X.xe s
def KJ (X:Cx) (r:V->Hp->(Bool->Hp->Prop)->Prop):Prop :=
 ∀ (pins:List (Addr×Obj)) (s:Shared) (U:St) (H:Hp) (x:V) (v:Value) (Q:Bool->Hp->Prop),Inv X pins U H s->au x v->r x H Q ->
  wpAny (model X.prog X.w) X.A (truthy v) (TP X pins U Q) X.xe s
def tOp (r:R2) (ta tb:TE):TE:=λU H Q=>ta U H λx H1=>tb U H1 λy H2=>r x y H2 Q
def tUn (r:V->Hp->VK->Prop) (ta:TE):TE:=λU H Q=>ta U H λx H1=>r x H1 Q
def rI (C:Int->Int->Prop) (g:Int->Int->V):R2:=λx y H Q=>∃ i j,x=.int i/\y=.int j/\C i j/\Q (g i j) H
def rI0 (g:Int->Int->V):R2:=λx y H Q=>∃ i j,x=.int i/\y=.int j/\Q (g i j) H
def rU (g:Int->V):V->Hp->VK->Prop:=λx H Q=>∃ i,x=.int i/\Q (g i) H
section
variable {X:Cx}{a b c:Expr}{ta tb tc:TE}{pos:Pos}
theorem oV (ha:PE X a ta) (hb:PE X b tb){pins:List (Addr×Obj)}{s:Shared}{U:St}{H:Hp}{R:V->V->Hp->Prop}(I:Inv X pins U H s)
  (h:ta U H λx H1=>tb U H1 λy H2=>R x y H2){Q:Value->Shared->Prop}{f:Value->Value->Sem Value}
  (hf:∀ v u s2 x y H2,Inv X pins U H2 s2->au x v->au y u->R x y H2->wpAny (model X.prog X.w) X.A (f v u) Q X.xe s2) :
  wpAny (model X.prog X.w) X.A (eval a X.env) (λv L6=>wpAny (model X.prog X.w) X.A (eval b X.env) (λu PD=>wpAny (model X.prog X.w) X.A (f v u) Q X.xe PD) X.xe L6) X.xe s:=by
 refine thn (ha pins s U H _ I h) λv s1 zz20=>?_
 obtain ⟨x,H1,I1,r1,q1⟩:=zz20
 refine thn (hb pins s1 U H1 _ I1 q1) λu s2 zz21=>?_
 obtain ⟨y,H2,I2,r2,q2⟩:=zz21
 exact hf v u s2 x y H2 I2 r1 r2 q2
theorem HY {op:Operator}{r:R2}(ho:OpR X (binaryOp op) r) (ha:PE X a ta) (hb:PE X b tb):PE X (.BinOp a op b pos) (tOp r ta tb):=by
 intro pins s U H Q I h
 exact wpAny_BinOp (oV ha hb I h λv u s2 x y H2 I2 rx ry q=>ho pins s2 U H2 x y v u Q I2 rx ry q)
theorem HZ {op:UnaryOp}{r:V->Hp->VK->Prop}(ho:UnR X (unaryOp op) r) (ha:PE X a ta):PE X (.UnaryOp op a pos) (tUn r ta):=by
 intro pins s U H Q I h
 exact UnaryOp_ (thn (ha pins s U H _ I h) λv s1 zz22=>by obtain ⟨x,H1,I1,r1,q1⟩:=zz22;exact ho pins s1 U H1 x v Q I1 r1 q1)
theorem opI {f:Value->Value->Sem Value}{C:Int->Int->Prop}{g:Int->Int->Int}
  (rule:∀ (i j:Int) (t u:Tok) (s:Shared) (Q:Value->Shared->Prop) (E:Value->Shared->Prop),C i j->Q (.int (g i j) s.toks) { s with toks:=s.toks+1 }->wpAny (model X.prog X.w) X.A (f (.int i t) (.int j u)) Q E s) :
  OpR X f (rI C λi j=>.int (g i j)):=by
 intro pins s U H x y v u Q I rx ry h
 obtain ⟨i,j,rfl,rfl,hc,q⟩:=h
 obtain ⟨t,rfl⟩:=rx
 obtain ⟨t',rfl⟩:=ry
 exact rule i j t t' s _ _ hc ⟨.int (g i j),H,I.tok _,⟨_,rfl⟩,q⟩
theorem v3 {f:Value->Value->Sem Value}{g:Int->Int->Int}
  (rule:∀ (i j:Int) (t u:Tok) (s:Shared) (Q:Value->Shared->Prop) (E:Value->Shared->Prop),Q (.int (g i j) s.toks) { s with toks:=s.toks+1 }->wpAny (model X.prog X.w) X.A (f (.int i t) (.int j u)) Q E s) :
  OpR X f (rI0 λi j=>.int (g i j)):=by
 intro pins s U H x y v u Q I rx ry h
 obtain ⟨i,j,rfl,rfl,q⟩:=h
 obtain ⟨t,rfl⟩:=rx
 obtain ⟨t',rfl⟩:=ry
 exact rule i j t t' s _ _ ⟨.int (g i j),H,I.tok _,⟨_,rfl⟩,q⟩
theorem jS {f:Value->Value->Sem Value}{g:Int->Int->Bool}
  (rule:∀ (i j:Int) (t u:Tok) (s:Shared) (Q:Value->Shared->Prop) (E:Value->Shared->Prop),Q (.bool (g i j)) s->wpAny (model X.prog X.w) X.A (f (.int i t) (.int j u)) Q E s) :
  OpR X f (rI0 λi j=>.bl (g i j)):=by
 intro pins s U H x y v u Q I rx ry h
 obtain ⟨i,j,rfl,rfl,q⟩:=h
 obtain ⟨t,rfl⟩:=rx
 obtain ⟨t',rfl⟩:=ry
 exact rule i j t t' s _ _ ⟨.bl (g i j),H,I,rfl,q⟩
def v4 (i j:Int):Prop:=0<=j/\j<=1000000/\i.natAbs<2 ^ 64
def hW (i j:Int):Prop:=(-(2 ^ 64)<i/\i<2 ^ 64)\/(-(2 ^ 64)<j/\j<2 ^ 64)
theorem hW.ok {i j:Int}(h:hW i j):IntMulOk i j:=by
 rcases h with ⟨h1,h2⟩|⟨h1,h2⟩
 ·exact .of_left (intBits_le_64 h1 h2)
 ·exact .of_right (intBits_le_64 h1 h2)
theorem yB (k:Nat):(0:Int)<=2 ^ k:=by
 rw [two_pow_cast]
 exact Int.natCast_nonneg _
theorem EF:OpR X (binaryOp .Add) (rI0 λi j=>.int (i+j)):=v3 λ_ _ _ _ _ _ _ q=>add_int q
theorem EG:OpR X (binaryOp .Sub) (rI0 λi j=>.int (i - j)):=v3 λ_ _ _ _ _ _ _ q=>sub_int q
theorem EH:OpR X (binaryOp .Mult) (rI hW λi j=>.int (i * j)):=opI λ_ _ _ _ _ _ _ hc q=>mul_int q hc.ok
theorem EI:OpR X (binaryOp .Mod) (rI (λ_ j=>0<j) λi j=>.int (i % j)):=opI λi j _ _ _ _ _ hc q=>by
 have h1:(0:Int)<j:=hc
 exact mod_int' (by omega) (by rw [Int.fmod_eq_emod_of_nonneg i (by omega)];exact q)
theorem EJ:OpR X (binaryOp .Pow) (rI v4 λi j=>.int (i ^ j.toNat)):=opI λ_ _ _ _ _ _ _ hc q=>pow_int_small hc.1 hc.2.1 hc.2.2 q
theorem EK:OpR X (binaryOp .RShift) (rI (λ_ j=>0<=j) λi j=>.int (i / 2 ^ j.toNat)):=opI λi j _ _ _ _ _ hc q =>
 rshift_int hc (by rw [Int.fdiv_eq_ediv_of_nonneg i (yB _)];exact q)
theorem unI {f:Value->Sem Value}{g:Int->Int}
  (rule:∀ (i:Int) (t:Tok) (s:Shared) (Q:Value->Shared->Prop) (E:Value->Shared->Prop),Q (.int (g i) s.toks) { s with toks:=s.toks+1 }->wpAny (model X.prog X.w) X.A (f (.int i t)) Q E s) :
  UnR X f (rU λi=>.int (g i)):=by
 intro pins s U H x v Q I rx h
 obtain ⟨i,rfl,q⟩:=h
 obtain ⟨t,rfl⟩:=rx
 exact rule i t s _ _ ⟨.int (g i),H,I.tok _,⟨_,rfl⟩,q⟩
theorem EL:UnR X (unaryOp .USub) (rU λi=>.int (-i)):=unI λ_ _ _ _ _ q=>neg_int q
end
noncomputable def v5:V->V->Bool
 |.non,.non=>true|.non,.int _=>true|.int _,.non=>true|.non,.bl _=>true|.bl _,.non=>true|.non,.str _=>true|.str _,.non=>true
 |.int _,.int _=>true|.bl _,.bl _=>true|.str _,.str _=>true|.byt _,.byt _=>true
 |.int _,.str _=>true|.str _,.int _=>true|.bl _,.str _=>true|.str _,.bl _=>true
 |_,_=>false
def rEq:R2:=λx y H Q=>v5 x y=true/\Q (.bl (decide (x=y))) H
def rNe:R2:=λx y H Q=>v5 x y=true/\Q (.bl (!decide (x=y))) H
theorem rL {i j:Int}:decide (V.int i=V.int j)=(i==j):=by
 rw [Bool.eq_iff_iff]
 simp
theorem tj {i j:Bool}:decide (V.bl i=V.bl j)=(i==j):=by
 rw [Bool.eq_iff_iff]
 simp
theorem rM {i j:Str}:decide (V.str i=V.str j)=(i==j):=by
 rw [Bool.eq_iff_iff]
 simp
theorem rN {i j:Array UInt8}:decide (V.byt i=V.byt j)=(i.toList==j.toList):=by
 rw [Bool.eq_iff_iff]
 cases i
 cases j
 simp
section
variable {X:Cx}{a b c:Expr}{ta tb tc:TE}{pos:Pos}
theorem aO {pins:List (Addr×Obj)}{U:St}{H:Hp}{s:Shared}{Q:VK}{k k':Bool}(I:Inv X pins U H s) (q:Q (.bl k) H) (e:k=k'):EP X pins U Q (.bool k') s:=by
 subst e
 exact ⟨.bl k,H,I,rfl,q⟩
theorem nV:OpR X (compareOp .Eq) rEq:=by
 intro pins s U H x y v u Q I rx ry h
 obtain ⟨hs,q⟩:=h
 cases x with
 |non =>
  cases rx
  cases y with
  |non=>cases ry;exact PySem.EqNone.eq_none_none (aO I q (by simp))
  |bl j=>cases ry;exact PySem.EqNone.eq_none_bool (aO I q (by simp))
  |int j=>obtain ⟨t',rfl⟩:=ry;exact PySem.EqNone.eq_none_int (aO I q (by simp))
  |str j=>obtain ⟨t',rfl⟩:=ry;exact PySem.EqNone.eq_none_str (aO I q (by simp))
  |_=>exact absurd (show false=true from hs) Bool.false_ne_true
 |bl i =>
  cases rx
  cases y with
  |non=>cases ry;exact PySem.EqNone.eq_bool_none (aO I q (by simp))
  |bl j=>cases ry;exact eq_bool (aO I q tj)
  |str j=>obtain ⟨t',rfl⟩:=ry;exact PySem.EqMixed.eq_bool_str (aO I q (by simp))
  |_=>exact absurd (show false=true from hs) Bool.false_ne_true
 |int i =>
  obtain ⟨t,rfl⟩:=rx
  cases y with
  |non=>cases ry;exact PySem.EqNone.eq_int_none (aO I q (by simp))
  |int j=>obtain ⟨t',rfl⟩:=ry;exact eq_int (aO I q rL)
  |str j=>obtain ⟨t',rfl⟩:=ry;exact PySem.EqMixed.eq_int_str (aO I q (by simp))
  |_=>exact absurd (show false=true from hs) Bool.false_ne_true
 |str i =>
  obtain ⟨t,rfl⟩:=rx
  cases y with
  |non=>cases ry;exact PySem.EqNone.eq_str_none (aO I q (by simp))
  |bl j=>cases ry;exact PySem.EqMixed.eq_str_bool (aO I q (by simp))
  |int j=>obtain ⟨t',rfl⟩:=ry;exact PySem.EqMixed.eq_str_int (aO I q (by simp))
  |str j=>obtain ⟨t',rfl⟩:=ry;exact eq_str (aO I q rM)
  |_=>exact absurd (show false=true from hs) Bool.false_ne_true
 |byt i =>
  obtain ⟨t,rfl⟩:=rx
  cases y with
  |byt j=>obtain ⟨t',rfl⟩:=ry;exact PySem.W.eq_bytes (aO I q rN)
  |_=>exact absurd (show false=true from hs) Bool.false_ne_true
 |_=>cases y<;>exact absurd (show false=true from hs) Bool.false_ne_true
theorem nW:OpR X (compareOp .NotEq) rNe:=by
 intro pins s U H x y v u Q I rx ry h
 obtain ⟨hs,q⟩:=h
 cases x with
 |non =>
  cases rx
  cases y with
  |non=>cases ry;exact PySem.EqNone.ne_none_none (aO I q (by simp))
  |bl j=>cases ry;exact PySem.EqNone.ne_none_bool (aO I q (by simp))
  |int j=>obtain ⟨t',rfl⟩:=ry;exact PySem.EqNone.ne_none_int (aO I q (by simp))
  |str j=>obtain ⟨t',rfl⟩:=ry;exact PySem.EqNone.ne_none_str (aO I q (by simp))
  |_=>exact absurd (show false=true from hs) Bool.false_ne_true
 |bl i =>
  cases rx
  cases y with
  |non=>cases ry;exact PySem.EqNone.ne_bool_none (aO I q (by simp))
  |bl j=>cases ry;exact ne_bool (aO I q (congrArg not tj))
  |str j=>obtain ⟨t',rfl⟩:=ry;exact PySem.EqMixed.ne_bool_str (aO I q (by simp))
  |_=>exact absurd (show false=true from hs) Bool.false_ne_true
 |int i =>
  obtain ⟨t,rfl⟩:=rx
  cases y with
  |non=>cases ry;exact PySem.EqNone.ne_int_none (aO I q (by simp))
  |int j=>obtain ⟨t',rfl⟩:=ry;exact ne_int (aO I q (congrArg not rL))
  |str j=>obtain ⟨t',rfl⟩:=ry;exact PySem.EqMixed.ne_int_str (aO I q (by simp))
  |_=>exact absurd (show false=true from hs) Bool.false_ne_true
 |str i =>
  obtain ⟨t,rfl⟩:=rx
  cases y with
  |non=>cases ry;exact PySem.EqNone.ne_str_none (aO I q (by simp))
  |bl j=>cases ry;exact PySem.EqMixed.ne_str_bool (aO I q (by simp))
  |int j=>obtain ⟨t',rfl⟩:=ry;exact PySem.EqMixed.ne_str_int (aO I q (by simp))
  |str j=>obtain ⟨t',rfl⟩:=ry;exact ne_str (aO I q (congrArg not rM))
  |_=>exact absurd (show false=true from hs) Bool.false_ne_true
 |byt i =>
  obtain ⟨t,rfl⟩:=rx
  cases y with
  |byt j=>obtain ⟨t',rfl⟩:=ry;exact PySem.W.ne_bytes (aO I q (congrArg not rN))
  |_=>exact absurd (show false=true from hs) Bool.false_ne_true
 |_=>cases y<;>exact absurd (show false=true from hs) Bool.false_ne_true
theorem H0:OpR X (compareOp .Lt) (rI0 λi j=>.bl (decide (i<j))):=jS λ_ _ _ _ _ _ _ q=>lt_int q
theorem Ia:OpR X (compareOp .LtE) (rI0 λi j=>.bl (decide (i<=j))):=jS λ_ _ _ _ _ _ _ q=>le_int q
theorem Ib:OpR X (compareOp .Gt) (rI0 λi j=>.bl (decide (j<i))):=jS λ_ _ _ _ _ _ _ q=>gt_int q
theorem Ic:OpR X (compareOp .GtE) (rI0 λi j=>.bl (decide (j<=i))):=jS λ_ _ _ _ _ _ _ q=>ge_int q
theorem za:OpR X (compareOp .Lt) (λx y H Q=>∃ i j,x=.str i/\y=.str j/\Q (.bl (decide (i.cps.toList<j.cps.toList))) H):=by
 intro pins s U H x y v u Q I rx ry h
 obtain ⟨i,j,rfl,rfl,q⟩:=h
 obtain ⟨t,rfl⟩:=rx
 obtain ⟨t',rfl⟩:=ry
 exact lt_str (aO I q rfl)
theorem zb:OpR X (compareOp .In) (λx y H Q=>∃ i j,x=.str i/\y=.str j/\Q (.bl (!(Builtin.Str.occurrences j i 0 j.length 1).isEmpty)) H):=by
 intro pins s U H x y v u Q I rx ry h
 obtain ⟨i,j,rfl,rfl,q⟩:=h
 obtain ⟨t,rfl⟩:=rx
 obtain ⟨t',rfl⟩:=ry
 exact in_str (aO I q rfl)
theorem EM:OpR X (compareOp .Is) (λx y H Q=>y=.non/\Q (.bl (decide (x=.non))) H):=by
 intro pins s U H x y v u Q I rx ry h
 obtain ⟨rfl,q⟩:=h
 cases ry
 refine is_none_gen (aO I q ?_)
 cases x<;>first
  |(cases rx;rfl)
  |(obtain ⟨t,rfl⟩:=rx;rfl)
theorem xU:OpR X (compareOp .NotIn) (λx y H Q=>∃ i j,x=.str i/\y=.str j/\Q (.bl (!(!(Builtin.Str.occurrences j i 0 j.length 1).isEmpty))) H):=by
 intro pins s U H x y v u Q I rx ry h
 obtain ⟨i,j,rfl,rfl,q⟩:=h
 obtain ⟨t,rfl⟩:=rx
 obtain ⟨t',rfl⟩:=ry
 exact notIn_str (aO I q rfl)
theorem mT (b:Expr){op:CmpOp}(h:op≠.In:=by decide) (h2:op≠.NotIn:=by decide):behindInMarks op b=false:=by
 have e1:(op==CmpOp.In)=false:=by cases op<;>first|rfl|exact absurd rfl h
 have e2:(op==CmpOp.NotIn)=false:=by cases op<;>first|rfl|exact absurd rfl h2
 cases b<;>simp [behindInMarks,e1,e2]
theorem BY {op:CmpOp}{r:R2}(ho:OpR X (compareOp op) r) (ha:PE X a ta) (hb:PE X b tb) (hm:behindInMarks op b=false):PE X (.Compare a [op] [b] pos) (tOp r ta tb):=by
 intro pins s U H Q I h
 exact wpAny_Compare1 (oV ha hb I h λv u s2 x y H2 I2 rx ry q=>ho pins s2 U H2 x y v u Q I2 rx ry q) hm
def nX (t:TE):TT:=λU H Q=>t U H λx H'=>∃ k,x=.bl k/\Q k H'
theorem BZ {op:CmpOp}{r:R2}(ho:OpR X (compareOp op) r) (ha:PE X a ta) (hb:PE X b tb) (hm:behindInMarks op b=false):PT X (.Compare a [op] [b] pos) (nX (tOp r ta tb)):=by
 intro pins s U H Q I h
 refine wpAny_isTrue_Compare1 (thn (ha pins s U H _ I h) λv s1 ⟨x,H1,I1,r1,q1⟩=>thn (hb pins s1 U H1 _ I1 q1) λu s2 ⟨y,H2,I2,r2,q2⟩ =>
  thn (ho pins s2 U H2 x y v u _ I2 r1 r2 q2) λc s3 ⟨z,H3,I3,r3,k,e,q3⟩=>?_) hm
 subst e
 cases r3
 exact wpAny_truthy_bool ⟨H3,I3,q3⟩
def mU (r r':R2) (ta tb tc:TE):TE:=λU H Q=>ta U H λx H1=>tb U H1 λy H2=>r x y H2 λz H3=>∃ k,z=.bl k /\
 (if k=true then tc U H3 λw' H4=>r' y w' H4 Q else Q (.bl false) H3)
theorem Al {op Qz:CmpOp}{r r':R2}(ho:OpR X (compareOp op) r) (Qy:OpR X (compareOp Qz) r') (ha:PE X a ta) (hb:PE X b tb) (hc:PE X c tc)
  (hm:lastMarks [op,Qz] [b,c]=false:=by with_unfolding_all rfl):PE X (.Compare a [op,Qz] [b,c] pos) (mU r r' ta tb tc):=by
 intro pins s U H Q I h
 refine Compare_chain (thn (ha pins s U H _ I h) λv s1 ⟨x,H1,I1,r1,q1⟩=>chain_link (thn (hb pins s1 U H1 _ I1 q1) λu s2 ⟨y,H2,I2,r2,q2⟩ =>
  thn (ho pins s2 U H2 x y v u _ I2 r1 r2 q2) λd s3 ⟨z,H3,I3,r3,k,e,q3⟩=>?_)) hm
 subst e
 cases r3
 refine wpAny_truthy_bool ?_
 cases k with
 |false=>exact ite_ff ⟨.bl false,H3,I3,rfl,q3⟩
 |true=>exact ite_tt (chain_last (thn (hc pins s3 U H3 _ I3 q3) λw' s4 ⟨z',H4,I4,r4,q4⟩=>Qy pins s4 U H4 y z' u w' Q I4 r2 r4 q4))
theorem Am {op Qz:CmpOp}{r r':R2}(ho:OpR X (compareOp op) r) (Qy:OpR X (compareOp Qz) r') (ha:PE X a ta) (hb:PE X b tb) (hc:PE X c tc)
  (hm:lastMarks [op,Qz] [b,c]=false:=by with_unfolding_all rfl):PT X (.Compare a [op,Qz] [b,c] pos) (nX (mU r r' ta tb tc)):=by
 intro pins s U H Q I h
 refine isTrue_chain (thn (ha pins s U H _ I h) λv s1 ⟨x,H1,I1,r1,q1⟩=>test_link (thn (hb pins s1 U H1 _ I1 q1) λu s2 ⟨y,H2,I2,r2,q2⟩ =>
  thn (ho pins s2 U H2 x y v u _ I2 r1 r2 q2) λd s3 ⟨z,H3,I3,r3,k,e,q3⟩=>?_)) hm
 subst e
 cases r3
 refine wpAny_truthy_bool ?_
 cases k with
 |false =>
  obtain ⟨k',e',q'⟩:=q3
  cases e'
  exact ite_ff ⟨H3,I3,q'⟩
 |true =>
  refine ite_tt (test_last (thn (hc pins s3 U H3 _ I3 q3) λw' s4 zz23=>?_))
  obtain ⟨z',H4,I4,r4,q4⟩:=zz23
  refine thn (Qy pins s4 U H4 y z' u w' _ I4 r2 r4 q4) λd' s5 zz24=>?_
  obtain ⟨z2,H5,I5,r5,k2,e2,q5⟩:=zz24
  subst e2
  cases r5
  exact wpAny_truthy_bool ⟨H5,I5,q5⟩
def v6 (K:PySem.W.Frag) (x:V) (H:Hp) (k:Bool):Prop :=
 match x with
 |.non=>k=false
 |.bl b=>k=b
 |.int i=>k=(i != 0)
 |.str y=>y.length<=sizeLine/\k=((y.length:Int) != 0)
 |.byt y=>y.size<=sizeLine/\k=((y.size:Int) != 0)
 |.ref p=>(∃ xs,SqL K H p xs/\k=!xs.isEmpty)\/(∃ xs,SqT K H p xs/\k=!xs.isEmpty)\/∃ kvs,H p=some (.dK kvs)/\k=!kvs.isEmpty
 |_=>False
theorem yC {κ:Type}{kvs:List (κ×V)}{vs:List (κ×Value)}(r:KV kvs vs):(!vs.isEmpty)=!kvs.isEmpty:=by
 cases r<;>rfl
theorem qc {xs:List V}{its:List Value}(r:am xs its):(!its.toArray.isEmpty)=!xs.isEmpty:=by
 cases r<;>simp
theorem d6:(sizeLine:Nat)<2 ^ 63:=by rw [sizeLine_eq];decide
theorem EN:KJ X (λx H Q=>∃ k,v6 X.K x H k/\Q k H):=by
 intro pins s U H x v Q I rx h
 obtain ⟨k,e,q⟩:=h
 have hl:=d6
 have hs:sizeLine=16777216:=sizeLine_eq
 cases x with
 |non =>
  cases rx
  have e':k=false:=e
  subst e'
  exact truthy_none ⟨H,I,q⟩
 |bl b =>
  cases rx
  have e':k=b:=e
  subst e'
  exact wpAny_truthy_bool ⟨H,I,q⟩
 |int i =>
  obtain ⟨t,rfl⟩:=rx
  have e':k=(i != 0):=e
  subst e'
  exact PySem.P.truthy_int ⟨H,I,q⟩
 |str y =>
  obtain ⟨t,rfl⟩:=rx
  obtain ⟨hy,e'⟩:y.length<=sizeLine/\k=((y.length:Int) != 0):=e
  subst e'
  exact PySem.P.truthy_str (by omega) ⟨H,I.tok _,q⟩
 |byt y =>
  obtain ⟨t,rfl⟩:=rx
  obtain ⟨hy,e'⟩:y.size<=sizeLine/\k=((y.size:Int) != 0):=e
  subst e'
  exact PySem.W.truthy_bytes (by omega) ⟨H,I.tok _,q⟩
 |ref p =>
  cases rx
  have e':(∃ xs,SqL X.K H p xs/\k=!xs.isEmpty)\/(∃ xs,SqT X.K H p xs/\k=!xs.isEmpty)\/∃ kvs,H p=some (.dK kvs)/\k=!kvs.isEmpty:=e
  rcases e' with ⟨xs,hx,e'⟩|⟨xs,hx,e'⟩|⟨kvs,hx,e'⟩
  ·subst e'
   obtain ⟨its,r,pl,hz⟩:=I.list hx
   have MU:=r.length
   exact wpAny_truthy_list pl.isList (by simp only [List.size_toArray];omega) ⟨H,I.tok _,by rw [qc r];exact q⟩
  ·subst e'
   obtain ⟨its,r,pl,hz⟩:=I.tuple hx
   have MU:=r.length
   exact truthy_tuple pl (by simp only [List.size_toArray];omega) ⟨H,I.tok _,by rw [qc r];exact q⟩
  ·subst e'
   obtain ⟨hz,hS,vs,r,m⟩:kvs.length<=sizeLine/\(p==sysModules)=false/\∃ vs,KV kvs vs/\s.heap.DictOf (aW X.prog X.w) p vs:=I.hok p _ hx
   have MU:kvs.length=vs.length:=Paired.length r
   exact wpAny_truthy_dict hS m (by omega) ⟨H,I.tok _,by rw [yC r];exact q⟩
 |_=>exact (show False from e).elim
theorem An (ha:PE X a ta) (he:∀ whole,isTrue a X.env whole=(do let v <- whole;standAt a.pos;holding [v] (truthy v))) :
  PT X a (λU H Q=>ta U H λx H'=>∃ k,v6 X.K x H' k/\Q k H'):=by
 intro pins s U H Q I h
 exact isTrue_plain (thn (ha pins s U H _ I h) λv s1 zz25=>by obtain ⟨x,H1,I1,r1,q1⟩:=zz25;exact EN pins s1 U H1 x v Q I1 r1 q1) (he _)
theorem yD:OpR X (binaryOp .Add) (λx y H Q=>∃ i j,x=.str i/\y=.str j/\i.length+j.length<=sizeLine/\Q (.str (i++j)) H):=by
 intro pins s U H x y v u Q I rx ry h
 obtain ⟨i,j,rfl,rfl,hz,q⟩:=h
 obtain ⟨t,rfl⟩:=rx
 obtain ⟨t',rfl⟩:=ry
 exact add_str (λt' tk=>⟨.str (i++j),H,I.tok _,⟨_,rfl⟩,q⟩) hz
theorem yh:OpR X (inplaceOp .Add) (λx y H Q=>∃ i j,x=.str i/\y=.str j/\i.length+j.length<=sizeLine/\Q (.str (i++j)) H):=by
 intro pins s U H x y v u Q I rx ry h
 obtain ⟨i,j,rfl,rfl,hz,q⟩:=h
 obtain ⟨t,rfl⟩:=rx
 obtain ⟨t',rfl⟩:=ry
 exact iadd_str (λt' tk=>⟨.str (i++j),H,I.tok _,⟨_,rfl⟩,q⟩) hz
theorem bW {x:V}{us:List Value}(r:am [x] us):∃ u,us=[u]/\au x u:=by
 cases r with
 |cons r1 r2=>cases r2;exact ⟨_,rfl,r1⟩
theorem gQ {x y:V}{us:List Value}(r:am [x,y] us):∃ u w',us=[u,w']/\au x u/\au y w':=by
 cases r with
 |cons r1 r2 =>
  cases r2 with
  |cons r3 r4=>cases r4;exact ⟨_,_,rfl,r1,r3⟩
theorem zc (hc:X.calm=true):a8 X (.builtin "min") (λxs H Q=>∃ i j,xs=[.int i,.int j]/\Q (.int (if j<i then j else i)) H):=by
 intro pins s U H xs us Q I r h
 obtain ⟨i,j,rfl,q⟩:=h
 obtain ⟨u,w',rfl,⟨t,rfl⟩,⟨t',rfl⟩⟩:=gQ r
 refine min_two_ints (I.ok.hd hc) λh' tk k=>⟨_,H,I.kept k,?_,q⟩
 by_cases hj:j<i
 ·rw [if_pos hj,if_pos hj];exact ⟨_,rfl⟩
 ·rw [if_neg hj,if_neg hj];exact ⟨_,rfl⟩
end
structure ObjM (h:Heap) (x dx C:Addr) (mA:Str->Option Value):Prop where
 obj:h.get? x=some (PySem.W.instObj C dx)
 ns:h.Ns1 dx mA
 ne:dx≠x
theorem zd {h:Heap}{dx:Addr}{mA:Str->Option Value}(n:h.Ns1 dx mA):∃ od,h.get? dx=some od/\∀ name,PySem.W.lookIn name od=some (mA name):=by
 obtain ⟨o,es,ep,ho,hd,hk,_,hm⟩:=n
 refine ⟨o,ho,λname=>?_⟩
 have e:=hm name
 unfold nsFind findBy at e
 rw [<- Array.find?_toList] at e
 unfold PySem.W.lookIn
 rw [hd]
 dsimp only
 split
 ·rename_i y q
  rw [q] at e
  exact congrArg some e
 ·rename_i q
  rw [q] at e
  have a:es.toList.any (·.refKey)=false:=by
   rw [List.any_eq_false]
   intro y hy
   obtain ⟨z,t,Tr⟩:=hk y (Array.mem_toList_iff.mp hy)
   simp [DictEntry.refKey,Tr]
  have a':¬ es.toList.any (·.refKey)=true:=by rw [a];exact Bool.false_ne_true
  rw [if_neg a']
  exact congrArg some e
theorem ObjM.look {h:Heap}{x dx C:Addr}{mA:Str->Option Value}(I:ObjM h x dx C mA):∃ od,PySem.W.InstAt h x (PySem.W.instObj C dx) C (some od)/\∀ name,PySem.W.lookIn name od=some (mA name) :=
 let ⟨od,ho,hl⟩:=zd I.ns
 ⟨od,⟨I.obj,rfl,rfl,ho⟩,hl⟩
section
variable {prog:Program}{w:World}{A:Around}{E:Value->Shared->Prop}{s:Shared}{K:PySem.W.Frag}{x dx C f:Addr}{mA:Str->Option Value}{name:Str}{v:Value}
theorem B0 {Sx:Bool}{Q:Value->Shared->Prop}(X:K.In s.heap) (I:ObjM s.heap x dx C mA) (hg:PySem.W.plainGet K C name=true) (hh:PySem.W.hasDictIn K C=true)
  (ha:PySem.W.findIn K (.ref C) name=some none) (hv:mA name=some v) (Re:PySem.W.handedIn v=true) (h:Q v { s with toks:=s.toks+1 }) :
  wpAny (model prog w) A (getAttr (.ref x) name Sx) Q E s:=by
 obtain ⟨od,J,hl⟩:=I.look
 exact PySem.W.get_value X J (PySem.W.plainGet_of hg).1 (PySem.W.findObj_own hh ha rfl (by rw [hl,hv])) Re h
theorem Ao {pl:Sem Bool}{Q:Value×List Value->Shared->Prop}(X:K.In s.heap) (I:ObjM s.heap x dx C mA) (hg:PySem.W.plainGet K C name=true)
  (hf:PySem.W.findIn K (.ref C) name=some (some (.ref f))) (ht:PySem.W.isFn K (.ref f)=true) (hv:mA name=none) (h:Q (.ref f,[.ref x]) s) :
  wpAny (model prog w) A (getMethod (.ref x) name pl) Q E s:=by
 obtain ⟨od,J,hl⟩:=I.look
 exact PySem.W.method_fn X J (PySem.W.plainGet_of hg).1 (PySem.W.plainGet_of hg).2 hf (beq_iff_eq.mp ht) (by show (PySem.W.lookIn name od).map (·.isSome)=some false;rw [hl,hv];rfl) h
theorem B1 {ns:List Str}{Q:Unit->Shared->Prop}(X:K.In s.heap) (I:ObjM s.heap x dx C mA)
  (hs:PySem.W.findIn K (.ref C) "__setattr__"=some (some (.builtin "object.__setattr__"))) (hp:PySem.W.plainOver K C=true) (ht:PySem.W.takerIn K C name=some none) (hh:PySem.W.hasDictIn K C=true)
  (hw:PySem.Within mA ns) (hsz:ns.length<=sizeLine)
  (h:∀ h',ObjM h' x dx C (λy=>if y=name then some v else mA y)->Heap.SameBut dx s.heap h'->Q () { s with heap:=h',toks:=s.toks+2 }) :
  wpAny (model prog w) A (setAttr (.ref x) name v) Q E s:=by
 obtain ⟨od,J,hl⟩:=I.look
 refine PySem.W.set_plain X J hs (PySem.W.osa_open (s:={ s with toks:=s.toks+1 }) (r:=none) X J hp ht λb=>?_)
 obtain ⟨cd,hc,hd'⟩:=PySem.W.any_some hh
 have hx:s.heap.get? x=some ⟨.ref C,some dx,.plain,#[]⟩:=I.obj
 refine wpAny_bind (wpAny_pure (wpAny_bind (wpAny_bind (wpAny_loadPart hx (wpAny_bind (PySem.W.Looks.here (s:={ s with toks:=s.toks+1 }) (PySem.W.looks_clsIn X hc) ?_))))))
 rw [hd']
 refine wpAny_pure (a:=some dx) (wpAny_bind (wpAny_pure (wpAny_bind ?_)))
 refine wpAny_nsSet1 (s:={ s with toks:=s.toks+1 }) I.ns λh' Sn hs2=>?_
 obtain ⟨oD,esD,epD,hoD,hdD,Sy⟩:=Sn.count (PySem.Within.cons name v hw)
 refine wpAny_bind (wpAny_lookBehind hoD (by rw [hdD];exact pastItsLine_dict (Nat.le_trans Sy (by rw [List.length_cons];omega))) ?_)
 exact wpAny_pure (h _ ⟨(hs2.2 _ (Ne.symm I.ne)).trans I.obj,Sn,I.ne⟩ hs2)
theorem Ap {R:Result->Shared->Prop}{vs:List Value}{kw:List (Str×Value)}(X:K.In s.heap) (hm:PySem.W.makesIn K C=true)
  (hi:PySem.W.findIn K (.ref C) "__init__"=some (some (.ref f))) (hf:PySem.W.typeIn K (.ref f)=some (.type "function"))
  (h:codeAny (model prog w) (A.under (.builtin "type.__call__" ⟨.ref C::vs,kw⟩)) (.call (.ref f) ⟨.ref (s.heap.objs.size+1)::vs,kw⟩) (PySem.W.InitBack (s.heap.objs.size+1) R)
   { s with heap:=(s.heap.push PySem.W.emptyDict).push (PySem.W.instObj C s.heap.objs.size) }) :
  codeAny (model prog w) A (.call (.ref C) ⟨vs,kw⟩) R s:=by
 obtain ⟨hh,g,d,t,os⟩:=s
 exact PySem.W.make_core (PySem.W.makes_of X hm) (PySem.W.looks_findIn X hi) (λself=>PySem.W.bind_fn X self hf) (.inl rfl) h
end
noncomputable def bb (f:Str) (v:V):List (Str×V)->List (Str×V)
 |[]=>[(f,v)]
 |(g,x)::r=>if g=f then (g,v)::r else (g,x)::bb f v r
theorem pY (f g:Str) (v:V):∀ fs:List (Str×V),(bb f v fs).lookup g=if g=f then some v else fs.lookup g
 |[]=>by
  show List.lookup g [(f,v)]=_
  by_cases h:g=f
  ·have hb:(g==f)=true:=beq_iff_eq.mpr h
   simp only [List.lookup,hb,if_pos h]
  ·have hb:(g==f)=false:=beq_eq_false_iff_ne.mpr h
   simp only [List.lookup,hb,if_neg h]
 |(k,x)::r=>by
  have ih:=pY f g v r
  rw [show bb f v ((k,x)::r)=(if k=f then (k,v)::r else (k,x)::bb f v r) from rfl]
  by_cases hk:k=f
  ·rw [if_pos hk]
   by_cases h:g=k
   ·have hb:(g==k)=true:=beq_iff_eq.mpr h
    simp only [List.lookup,hb,if_pos (h.trans hk)]
   ·have hb:(g==k)=false:=beq_eq_false_iff_ne.mpr h
    simp only [List.lookup,hb,if_neg (λe:g=f=>h (e.trans hk.symm))]
  ·rw [if_neg hk]
   by_cases h:g=k
   ·have hb:(g==k)=true:=beq_iff_eq.mpr h
    simp only [List.lookup,hb,if_neg (λe:g=f=>hk (h.symm.trans e))]
   ·have hb:(g==k)=false:=beq_eq_false_iff_ne.mpr h
    simp only [List.lookup,hb]
    exact ih
theorem lD (f:Str) (v:V):∀ fs:List (Str×V),f∈(bb f v fs).map (·.1)/\∀ g,g∈fs.map (·.1)->g∈(bb f v fs).map (·.1)
 |[]=>⟨by simp [bb],λg h=>by simp at h⟩
 |(k,x)::r=>by
  obtain ⟨i1,i2⟩:=lD f v r
  rw [show bb f v ((k,x)::r)=(if k=f then (k,v)::r else (k,x)::bb f v r) from rfl]
  by_cases hk:k=f
  ·rw [if_pos hk]
   subst hk
   exact ⟨by simp,λg h=>by simpa using h⟩
  ·rw [if_neg hk]
   refine ⟨?_,λg h=>?_⟩
   ·rw [List.map_cons]
    exact List.mem_cons_of_mem _ i1
   ·rw [List.map_cons] at h ⊢
    rcases List.mem_cons.mp h with e|e
    ·exact List.mem_cons.mpr (.inl e)
    ·exact List.mem_cons_of_mem _ (i2 g e)
theorem pZ (f:Str) (v:V):∀ fs:List (Str×V),(bb f v fs).length<=fs.length+1
 |[]=>by simp [bb]
 |(k,x)::r=>by
  have ih:=pZ f v r
  rw [show bb f v ((k,x)::r)=(if k=f then (k,v)::r else (k,x)::bb f v r) from rfl]
  by_cases hk:k=f
  ·rw [if_pos hk,List.length_cons,List.length_cons];omega
  ·rw [if_neg hk,List.length_cons,List.length_cons];omega
theorem bw.some_of {v:V}{o:Option Value}(r:bw (some v) o):∃ u,o=some u/\au v u:=by
 cases o with
 |none=>exact (show False from r).elim
 |some u=>exact ⟨u,rfl,r⟩
theorem bw.none_of {o:Option Value}(r:bw none o):o=none:=by
 cases o with
 |none=>rfl
 |some u=>exact (show False from r).elim
theorem zh {v:V}{u:Value}(r:au v u):PySem.W.handedIn u=true:=by
 cases v with
 |non=>cases (show u=Value.none from r);rfl
 |bl b=>cases (show u=Value.bool b from r);rfl
 |int i=>obtain ⟨t,e⟩:=(show ∃ t,u=Value.int i t from r);cases e;rfl
 |str x=>obtain ⟨t,e⟩:=(show ∃ t,u=Value.str x t from r);cases e;rfl
 |byt b=>obtain ⟨t,e⟩:=(show ∃ t,u=Value.bytes b t from r);cases e;rfl
 |flt b=>obtain ⟨t,e⟩:=(show ∃ t,u=Value.float b t from r);cases e;rfl
 |ref a=>cases (show u=Value.ref a from r);rfl
 |ty n=>cases (show u=Value.type n from r);rfl
section
variable {P:Program}{w:World}{H H':Hp}{h h':Heap}{a C dx:Addr}{fs Nz:List (Str×V)}
theorem i5 (hok:HOk P w H h) (e:H a=some (.ins C dx fs)):∃ mA,ObjM h a dx C mA/\(∀ f,bw (fs.lookup f) (mA f))/\PySem.Within mA (fs.map (·.1))/\fs.length<=1000/\H dx=some (.own a):=by
 obtain ⟨d,z,ne,ob,mA,n,r,q⟩:=(show aP P w H h a (.ins C dx fs) from hok a _ e)
 exact ⟨mA,⟨ob,n,ne⟩,r,q,z,d⟩
end
structure Cls (K:PySem.W.Frag) (C:Addr):Prop where
 pg:PySem.W.plainGet K C Str.empty=true
 hd:PySem.W.hasDictIn K C=true
 po:PySem.W.plainOver K C=true
 sa:PySem.W.findIn K (.ref C) "__setattr__"=some (some (.builtin "object.__setattr__"))
theorem Cls.get {K:PySem.W.Frag}{C:Addr}(c:Cls K C) (f:Str):PySem.W.plainGet K C f=true:=c.pg
def aJ (K:PySem.W.Frag) (C:Addr) (f:Str):Prop:=PySem.W.findIn K (.ref C) f=some none
theorem aJ.taker {K:PySem.W.Frag}{C:Addr}{f:Str}(n:aJ K C f):PySem.W.takerIn K C f=some none:=by
 unfold PySem.W.takerIn
 rw [show PySem.W.findIn K (.ref C) f=some none from n]
 rfl
structure Con (K:PySem.W.Frag) (C:Addr) (f:Str) (v:V) (u:Value):Prop where
 at_:PySem.W.findIn K (.ref C) f=some (some u)
 rel:au v u
 get:PySem.W.specialIn K u "__get__"=some none
 cp:PySem.W.copiedNames.contains f=false
structure Meth (K:PySem.W.Frag) (C:Addr) (m:Str) (f:Addr):Prop where
 at_:PySem.W.findIn K (.ref C) m=some (some (.ref f))
 fn:PySem.W.isFn K (.ref f)=true
 kp:PySem.W.keepIn K (.ref f)=true
section
variable {X:Cx}{pins:List (Addr×Obj)}{U:St}{H:Hp}{s:Shared}{a C dx:Addr}{fs:List (Str×V)}{f:Str}{v:V}{A:Around}{E:Value->Shared->Prop}
theorem qd {b:Bool}{Q:Value->Shared->Prop}(I:Inv X pins U H s) (e:H a=some (.ins C dx fs)) (c:Cls X.K C) (n:aJ X.K C f) (l:fs.lookup f=some v)
  (h:∀ u s',Inv X pins U H s'->au v u->Q u s'):wpAny (model X.prog X.w) A (getAttr (.ref a) f b) Q E s:=by
 obtain ⟨mA,O,r,_,_,_⟩:=i5 I.hok e
 obtain ⟨u,hu,ru⟩:=bw.some_of (v:=v) (o:=mA f) (by rw [<- l];exact r f)
 exact B0 I.kIn O (c.get f) c.hd n hu (zh ru) (h u _ (I.tok _) ru)
theorem fW {m:Str}{g:Addr}{pl:Sem Bool}{Q:Value×List Value->Shared->Prop}(I:Inv X pins U H s) (e:H a=some (.ins C dx fs)) (c:Cls X.K C) (k:Meth X.K C m g) (l:fs.lookup m=none)
  (h:Q (.ref g,[.ref a]) s):wpAny (model X.prog X.w) A (getMethod (.ref a) m pl) Q E s:=by
 obtain ⟨mA,O,r,_,_,_⟩:=i5 I.hok e
 have hn:mA m=none:=bw.none_of (by rw [<- l];exact r m)
 exact Ao I.kIn O (c.get m) k.at_ k.fn hn h
theorem qe {y:V}{u:Value}{Q:Unit->Shared->Prop}(I:Inv X pins U H s) (e:H a=some (.ins C dx fs)) (c:Cls X.K C) (n:aJ X.K C f) (hl:fs.length<1000) (ry:au y u)
  (h:∀ s',Inv X pins U (upd H a (.ins C dx (bb f y fs))) s'->Q () s'):wpAny (model X.prog X.w) A (setAttr (.ref a) f u) Q E s:=by
 obtain ⟨mA,O,r,wi,_,ho⟩:=i5 I.hok e
 have hz:(fs.map (·.1)).length<=sizeLine:=by rw [List.length_map,sizeLine_eq];omega
 refine B1 I.kIn O c.sa c.po n.taker c.hd wi hz λh' O' sb=>h _ ?_
 have hd:∃ o,h'.get? dx=some o:=let ⟨o,_,_,e',_⟩:=O'.ns;⟨o,e'⟩
 refine I.write (x:=a) (e:=dx) (by rw [e];exact True.intro) (.inr ho) (λb q hb z=>(sb.2 b hb).trans z) hd ?_
 refine ⟨by rw [aB O.ne];exact ho,?_,O.ne,O'.obj,_,O'.ns,λg=>?_,λg hg=>?_⟩
 ·have:=pZ f y fs;omega
 ·show bw ((bb f y fs).lookup g) (if g=f then some u else mA g)
  rw [pY]
  by_cases q:g=f
  ·rw [if_pos q,if_pos q];exact ry
  ·rw [if_neg q,if_neg q];exact r g
 ·by_cases q:g=f
  ·rw [q];exact (lD f y fs).1
  ·refine (lD f y fs).2 g (wi g λz=>hg ?_)
   show (if g=f then some u else mA g)=none
   rw [if_neg q];exact z
theorem Inv.made (I:Inv X pins U H s):Inv X pins U (upd (upd H s.heap.objs.size (.own (s.heap.objs.size+1))) (s.heap.objs.size+1) (.ins C s.heap.objs.size []))
  { s with heap:=(s.heap.push PySem.W.emptyDict).push (PySem.W.instObj C s.heap.objs.size) }:=by
 have e1:(s.heap.push PySem.W.emptyDict).get? s.heap.objs.size=some PySem.W.emptyDict:=Heap.get?_push_size s.heap rfl
 have e2:((s.heap.push PySem.W.emptyDict).push (PySem.W.instObj C s.heap.objs.size)).get? (s.heap.objs.size+1)=some (PySem.W.instObj C s.heap.objs.size):=by
  have:=Heap.get?_push_size (s.heap.push PySem.W.emptyDict) (o:=PySem.W.instObj C s.heap.objs.size) rfl
  rwa [Heap.size_push] at this
 have e3:(s.heap.push PySem.W.emptyDict).Ns s.heap.objs.size (λ_=>none):=⟨PySem.W.emptyDict,#[],_,e1,rfl,(λe he=>absurd he (by simp)),λ_=>rfl⟩
 have I1:=I.laid (a:=s.heap.objs.size) (o:=.own (s.heap.objs.size+1)) (h':=s.heap.push PySem.W.emptyDict) (t':=s.toks) (λb u q=>Heap.get?_push_of_some _ q) (Nat.le_refl _) ⟨_,e1⟩
 refine I1.laid (a:=s.heap.objs.size+1) (o:=.ins C s.heap.objs.size []) (t':=s.toks) (λb u q=>Heap.get?_push_of_some _ q) (Nat.le_of_eq (Heap.size_push _ _)) ?_
 have ne:s.heap.objs.size≠s.heap.objs.size+1:=Nat.ne_of_lt (Nat.lt_succ_self _)
 refine ⟨by rw [aB ne,aM],Nat.zero_le _,ne,e2,λ_=>none,(Heap.Ns1.of_empty e3).at λo q=>Heap.get?_push_of_some _ q,λ_=>True.intro,λy hy=>absurd rfl hy⟩
theorem B2 {prog:Program}{w:World}{env:Env}{e:Expr}{f:Str}{pos:Pos}{s:Shared}{Q:Value->Shared->Prop}(hb:attributeBase e f env (eval e env)=eval e env)
  (h:wpAny (model prog w) A (eval e env) (λo L6=>wpAny (model prog w) A (getAttr o f true) Q E L6) E s):wpAny (model prog w) A (eval (.Attribute e f pos) env) Q E s :=
 Attribute_any_ h (by rw [arm_eval_Attribute,hb])
end
def KL (K:PySem.W.Frag) (ta:TE) (f:Str):TE:=λU H Q=>ta U H λx H1=>∃ a C dx fs v,x=.ref a/\H1 a=some (.ins C dx fs)/\Cls K C/\aJ K C f/\fs.lookup f=some v/\Q v H1
def KM (K:PySem.W.Frag) (ta tv:TE) (f:Str):TS:=λD U H=>tv U H λy H1=>ta U H1 λx H2=>∃ a C dx fs,x=.ref a/\H2 a=some (.ins C dx fs)/\Cls K C/\aJ K C f/\fs.length<1000 /\
 D.nx U (upd H2 a (.ins C dx (bb f y fs)))
def oX (X:Cx) (op:Operator) (rd:V->V->Hp->VK->Prop):Prop :=
 ∀ (pins:List (Addr×Obj)) (s:Shared) (U:St) (H:Hp) (x y:V) (u v:Value) (Q:VK),Inv X pins U H s->au x u->au y v->rd x y H Q->wpAny (model X.prog X.w) X.A (inplaceOp op u v) (EP X pins U Q) X.xe s
def B3 (K:PySem.W.Frag) (ta tv:TE) (rd:V->V->Hp->VK->Prop) (f:Str):TS:=λD U H=>ta U H λx H1=>∃ a C dx fs v,x=.ref a/\H1 a=some (.ins C dx fs)/\Cls K C/\aJ K C f/\fs.lookup f=some v /\
 tv U H1 λy H2=>rd v y H2 λz H3=>∃ dx' Nz,H3 a=some (.ins C dx' Nz)/\Nz.length<1000/\D.nx U (upd H3 a (.ins C dx' (bb f z Nz)))
section
variable {X:Cx}{o e value:Expr}{f:Str}{pos MT NA:Pos}{ta tv:TE}
theorem EO (he:PE X e ta) (hb:attributeBase e f X.env (eval e X.env)=eval e X.env):PE X (.Attribute e f pos) (KL X.K ta f):=by
 intro pins s U H Q I h
 refine B2 hb (thn (he pins s U H _ I h) λu s1 zz26=>?_)
 obtain ⟨x,H1,I1,rx,a,C,dx,fs,v,ex,ea,c,n,l,q⟩:=zz26
 subst ex
 obtain rfl:u=Value.ref a:=rx
 exact qd I1 ea c n l λu' s2 I2 ru=>⟨v,H1,I2,ru,q⟩
theorem EQ (ha:PE X o ta) (hv:PE X value tv) (hs:swapsWith value (some (.Attribute o f MT)) pos.line X.env=pure false):PS X (.Assign [.Attribute o f MT] value pos) (KM X.K ta tv f):=by
 intro pins s U H D I h
 refine plainObj_wpAny_Assign_Attribute (thn (hv pins s U H _ I h) λu s1 ⟨y,H1,I1,ry,q⟩=>thn (ha pins s1 U H1 _ I1 q) λov s2 ⟨x,H2,I2,rx,a,C,dx,fs,ex,ea,c,n,l,q2⟩=>?_) hs
 subst ex
 obtain rfl:ov=Value.ref a:=rx
 exact qe I2 ea c n l ry λs3 I3=>⟨U,_,I3,q2⟩
theorem qk {op:Operator}{rd:V->V->Hp->VK->Prop}(ha:PE X o ta) (hv:PE X value tv) (hop:oX X op rd):PS X (.AugAssign (.Attribute o f NA) op value pos) (B3 X.K ta tv rd f):=by
 intro pins s U H D I h
 refine wpAny_AugAssign_AttributeAny (thn (ha pins s U H _ I h) λov s1 zz27=>?_)
 obtain ⟨x,H1,I1,rx,a,C,dx,fs,v,ex,ea,c,n,l,q⟩:=zz27
 subst ex
 obtain rfl:ov=Value.ref a:=rx
 refine qd I1 ea c n l λu s2 I2 ru=>thn (hv pins s2 U H1 _ I2 q) λw3 s3 zz28=>?_
 obtain ⟨y,H2,I3,ry,q3⟩:=zz28
 refine thn (hop pins s3 U H2 v y u w3 _ I3 ru ry q3) λw4 s4 zz29=>?_
 obtain ⟨z,H3,I4,rz,dx',Nz,ea',l',q4⟩:=zz29
 exact qe I4 ea' c n l' rz λs5 I5=>⟨U,_,I5,q4⟩
def KN:V->V->Hp->VK->Prop:=λx y H Q=>∃ i j,x=.int i/\y=.int j/\Q (.int (i+j)) H
theorem ER:oX X .Add KN:=by
 rintro pins s U H x y u v Q I rx ry ⟨i,j,rfl,rfl,q⟩
 obtain ⟨t,rfl⟩:=(show ∃ t,u=Value.int i t from rx)
 obtain ⟨t',rfl⟩:=(show ∃ t',v=Value.int j t' from ry)
 exact PyProof.Rows.iadd_int ⟨.int (i+j),H,I.tok _,⟨_,rfl⟩,q⟩
end
section
variable {X:Cx}{pins:List (Addr×Obj)}{U:St}{H:Hp}{s:Shared}{A:Around}{E:Value->Shared->Prop}{Q:Value->Shared->Prop}{c:Value}{b:Bool}
inductive TyOf (K:PySem.W.Frag) (H:Hp):V->Value->Prop where
 |non:TyOf K H .non (.type "NoneType")
 |bl (x:Bool):TyOf K H (.bl x) (.type "bool")
 |int (i:Int):TyOf K H (.int i) (.type "int")
 |str (x:Str):TyOf K H (.str x) (.type "str")
 |flt (x:UInt64):TyOf K H (.flt x) (.type "float")
 |lst {a:Addr}{xs:List V}(e:H a=some (.lst xs)):TyOf K H (.ref a) (.type "list")
 |frz {a:Addr}{o:Obj}{xs:List V}(e:H a=some (.frz o (.lst xs))):TyOf K H (.ref a) (.type "list")
 |tup {a:Addr}{xs:List V}(e:H a=some (.tup xs)):TyOf K H (.ref a) (.type "tuple")
 |dK {a:Addr}{kvs:List (Key×V)}(e:H a=some (.dK kvs)):TyOf K H (.ref a) (.type "dict")
 |dT {a:Addr}{kvs:List (List Key×V)}(e:H a=some (.dT kvs)):TyOf K H (.ref a) (.type "dict")
 |ins {a C dx:Addr}{fs:List (Str×V)}(e:H a=some (.ins C dx fs)) (cl:Cls K C) (ha:PySem.W.findIn K (.ref C) "__class__"=some (some (.builtin "object.__class__")))
   (hn:PySem.W.specialIn K (.builtin "object.__class__") "__get__"=some (some (.builtin "getset_descriptor.__get__"))) (htk:PySem.W.takesIn K (.builtin "object.__class__")=some true)
   (hm:PySem.W.mroIn K C (.type "object")=some true):TyOf K H (.ref a) (.ref C)
theorem zi {x:V}{u t:Value}(I:Inv X pins U H s) (rx:au x u) (ty:TyOf X.K H x t) (e:PySem.W.kitOne X.K t c=some b) (h:∀ tk,Q (.bool b) { s with toks:=tk }) :
  wpAny (model X.prog X.w) A (call (.builtin "isinstance") [u,c]) Q E s:=by
 cases ty with
 |non=>cases (show u=Value.none from rx);exact PySem.W.kia_one PySem.W.kitx_none I.kIn True.intro e (λz=>nomatch z) h
 |bl y=>cases (show u=Value.bool y from rx);exact PySem.W.kia_one PySem.W.kitx_bool I.kIn True.intro e (λz=>nomatch z) h
 |int i=>obtain ⟨t,q⟩:=(show ∃ t,u=Value.int i t from rx);cases q;exact PySem.W.kia_one PySem.W.kitx_int I.kIn True.intro e (λz=>nomatch z) h
 |str y=>obtain ⟨t,q⟩:=(show ∃ t,u=Value.str y t from rx);cases q;exact PySem.W.kia_one PySem.W.kitx_str I.kIn True.intro e (λz=>nomatch z) h
 |flt y=>obtain ⟨t,q⟩:=(show ∃ t,u=Value.float y t from rx);cases q;exact PySem.W.kia_one PySem.W.kitx_float I.kIn True.intro e (λz=>nomatch z) h
 |@lst a xs ea =>
  cases (show u=Value.ref a from rx)
  obtain ⟨_,_,n,_,h1⟩:=(show aP X.prog X.w H s.heap a (.lst xs) from I.hok a _ ea)
  exact PySem.W.kia_one PySem.W.kitx_list I.kIn ⟨_,h1,rfl⟩ e (λz=>nomatch z) h
 |@frz a ob xs ea =>
  cases (show u=Value.ref a from rx)
  obtain ⟨_,_,_,n,_,h1⟩:=(show aP X.prog X.w H s.heap a (.frz ob (.lst xs)) from I.hok a _ ea)
  exact PySem.W.kia_one PySem.W.kitx_list I.kIn ⟨_,h1,rfl⟩ e (λz=>nomatch z) h
 |@tup a xs ea =>
  cases (show u=Value.ref a from rx)
  obtain ⟨_,_,_,p⟩:=(show aP X.prog X.w H s.heap a (.tup xs) from I.hok a _ ea)
  obtain ⟨o,h1,h2,_⟩:=p
  exact PySem.W.kia_one PySem.W.kitx_tuple I.kIn ⟨o,h1,h2⟩ e (λz=>nomatch z) h
 |@dK a kvs ea =>
  cases (show u=Value.ref a from rx)
  obtain ⟨_,_,vs,_,p⟩:=(show aP X.prog X.w H s.heap a (.dK kvs) from I.hok a _ ea)
  obtain ⟨o,es,ep,h1,h2,_⟩:=p
  exact PySem.W.kia_one PySem.W.kitx_dict I.kIn ⟨o,h1,h2.1⟩ e (λz=>nomatch z) h
 |@dT a kvs ea =>
  cases (show u=Value.ref a from rx)
  obtain ⟨_,_,xs,_,o,es,ep,h1,h2,_⟩:=(show aP X.prog X.w H s.heap a (.dT kvs) from I.hok a _ ea)
  exact PySem.W.kia_one PySem.W.kitx_dict I.kIn ⟨o,h1,h2.1⟩ e (λz=>nomatch z) h
 |@ins a C dx fs ea cl ha hn htk hm =>
  cases (show u=Value.ref a from rx)
  obtain ⟨mA,O,_⟩:=i5 I.hok ea
  obtain ⟨od,J,_⟩:=O.look
  exact PySem.W.kia_one (PySem.W.kitx_own (cl.get _) cl.hd ha hn htk hm) I.kIn J e (λz=>nomatch z) h
end
structure Room (k:Nat) (A:Around):Prop where
 hd:A.handled=none
 dp:A.depth+3 * k+5<recursionLimit
 un:A.units+16 * k+200<cLine
 gd:A.guards=some []
theorem Room.mono {j k:Nat}{A:Around}(r:Room k A) (h:j<=k):Room j A:=⟨r.hd,by have:=r.dp;omega,by have:=r.un;omega,r.gd⟩
theorem Room.m {j k:Nat} {A:Around} (r:Room k A) (h:j<=k:=by decide):Room j A:=r.mono h
theorem Room.deeper {k:Nat}{A:Around}(r:Room (k+1) A) (env:Env):Room k (A.deeper env) :=
 ⟨r.hd,by have:=r.dp;show A.depth+1+3 * k+5<_;omega,by have:=r.un;show A.units+3+16 * k+200<_;omega,r.gd⟩
theorem Room.in1 {k:Nat}{A:Around}(r:Room (k+1) A):Room k A.in1 :=
 ⟨r.hd,by have:=r.dp;show A.depth+3 * k+5<_;omega,by have:=r.un;show A.units+1+16 * k+200<_;omega,r.gd⟩
theorem yE {A:Around}{C:Addr}{us:List Value}{kw:List (Str×Value)}:(A.under (.builtin "type.__call__" ⟨.ref C::us,kw⟩)).depth=A.depth+1:=by
 first|rfl|simp [Around.under,Code.weight,Code.isCreation,Code.isGuard,Code.isCaller,Code.frames,Code.isFrame,guardIds]
theorem yF {A:Around}{C:Addr}{us:List Value}{kw:List (Str×Value)}:(A.under (.builtin "type.__call__" ⟨.ref C::us,kw⟩)).units=A.units+1:=by
 first|rfl|simp [Around.under,Code.cUnits,Code.frames,Code.isFrame]
theorem yi {A:Around}{C:Addr}{us:List Value}{kw:List (Str×Value)}:(A.under (.builtin "type.__call__" ⟨.ref C::us,kw⟩)).guards=A.guards:=by
 first|rfl|simp [Around.under,Code.isGuard,guardIds]
theorem Room.make {k:Nat}{A:Around}(r:Room (k+1) A) (C:Addr) (us:List Value) (kw:List (Str×Value)):Room k (A.under (.builtin "type.__call__" ⟨.ref C::us,kw⟩)) :=
 ⟨r.hd,by have:=r.dp;rw [yE];omega,by have:=r.un;rw [yF];omega,by rw [yi];exact r.gd⟩
theorem Room.depth {k:Nat}{A:Around}(r:Room k A):A.depth<recursionLimit:=by have:=r.dp;omega
theorem Room.units {k:Nat}{A:Around}(r:Room k A):A.units+64<cLine:=by have:=r.un;omega
def dn:TA:=λ_ H Q=>Q [] H
def nY (ta:TE) (tr:TA):TA:=λU H Q=>ta U H λx H1=>tr U H1 λxs H2=>Q (x::xs) H2
section
variable {X:Cx}{e:Expr}{es:List Expr}{te:TE}{t:TA}{pos:Pos}
theorem mV:PA X [] dn:=λ_ _ _ _ H Q I h=>Calls.spliced_nil ⟨[],H,I,.nil,h⟩
theorem mC (ha:PE X e te) (hr:PA X es t) (hs:starEach (e::es) X.env=(false,eval e X.env)::starEach es X.env:=by rfl):PA X (e::es) (nY te t):=by
 intro pos pins s U H Q I h
 rw [hs]
 show wpAny _ _ (spliced ((false,eval e X.env)::backTo pos (starEach es X.env))) _ _ s
 refine Calls.spliced_cons (thn (ha pins s U H _ I h) λu s1 zz30=>?_)
 obtain ⟨x,H1,I1,r1,q1⟩:=zz30
 exact thn (hr pos pins s1 U H1 _ I1 q1) λus s2 zz31=>by obtain ⟨xs,H2,I2,r2,q2⟩:=zz31;exact ⟨x::xs,H2,I2,.cons r1 r2,q2⟩
def KO (t:TA):TE:=λU H Q=>t U H λxs H1=>xs.length<=sizeLine/\∀ p,H1 p=none->Q (.ref p) (upd H1 p (.tup xs))
def KP (t:TA):TE:=λU H Q=>t U H λxs H1=>xs.length<=sizeLine/\∀ p,H1 p=none->Q (.ref p) (upd H1 p (.lst xs))
theorem ES {x1}(h:PA X es t):PE X (.Tuple es x1 pos) (KO t):=by
 intro pins s U H Q I hq
 refine wpAny_Tuple_spliced (thn (h pos pins s U H _ I hq) λus s1 ⟨xs,H1,I1,r,z,q⟩=>⟨by rw [<- r.length];exact z,?_⟩)
 have hf:H1 s1.heap.objs.size=none:=I1.hok.fresh (Nat.le_refl _)
 refine ⟨.ref s1.heap.objs.size,upd H1 s1.heap.objs.size (.tup xs),I1.laid (t':=s1.toks) (λb u e=>Heap.get?_push_of_some _ e) (Nat.le_refl _) ?_,rfl,q _ hf⟩
 exact ⟨z,us,r,⟨_,Heap.get?_push_size _ rfl,rfl,_,rfl⟩⟩
theorem tm (h:PA X es t):PE X (.List es pos) (KP t):=by
 intro pins s U H Q I hq
 refine wpAny_List_spliced (thn (h pos pins s U H _ I hq) λus s1 ⟨xs,H1,I1,r,z,q⟩=>⟨by rw [<- r.length];exact z,?_⟩)
 have hf:H1 s1.heap.objs.size=none:=I1.hok.fresh (Nat.le_refl _)
 refine ⟨.ref s1.heap.objs.size,upd H1 s1.heap.objs.size (.lst xs),I1.laid (t':=s1.toks) (λb u e=>Heap.get?_push_of_some _ e) (Nat.le_refl _) ?_,rfl,q _ hf⟩
 exact ⟨z,us,0,r,Heap.get?_push_size _ rfl⟩
end
abbrev Sp:=List V->Hp->VK->XK->Prop
abbrev CXT:=List Env->Hp->Shared->XK->Value->Shared->Prop
structure Env0 (P:Program) (w:World) (K:PySem.W.Frag) (mg:Str->Option Value) (base:Heap) (A:Around) (outer:List Env) (s:Shared) (H:Hp):Prop where
 frames:A.frames=some outer
 mod:Mod K mg base
 bs:∀ b o,base.get? b=some o->s.heap.get? b=some o/\H b=none
 bsz:base.objs.size<=s.heap.objs.size
 funs:s.heap.FunFrames base outer
 frf:∀ b∈frs outer,H b=none
 hok:HOk P w H s.heap
 bare:AllBare s.gens
def CE (outer:List Env) (P:Program) (w:World) (H:Hp) (s:Shared) (Q:VK) (u:Value) (s':Shared):Prop :=
 ∃ v H',s'.os=s.os/\AllBare s'.gens/\Un (frs outer) [] H H' s.heap s'.heap/\HOk P w H' s'.heap/\au v u/\Q v H'
def CR (CX:CXT) (outer:List Env) (P:Program) (w:World) (H:Hp) (s:Shared) (Q:VK) (E:XK) (r:Result) (s':Shared):Prop :=
 match r with
 |.ok (.ret u)=>CE outer P w H s Q u s'
 |.ok _=>False
 |.error e=>CX outer H s E e s'
structure FnOk (P:Program) (w:World) (K:PySem.W.Frag) (mg:Str->Option Value) (base:Heap) (CX:CXT) (k:Nat) (f:Addr) (fd:FuncData) (ps:List Str) (sp:Sp):Prop where
 len:∀ vs H Q E,sp vs H Q E->vs.length=ps.length
 run:∀ (A:Around) (outer:List Env) (s:Shared) (H:Hp) (args:Args) (us:List Value) (vs:List V) (Q:VK) (E:XK),Room k A->Env0 P w K mg base A outer s H->BindsTo s fd args (ps.zip us)->am vs us->sp vs H Q E ->
  codeAny (model P w) A (.call (.ref f) args) (CR CX outer P w H s Q E) s
theorem FnOk.mono {P:Program}{w:World}{K:PySem.W.Frag}{mg:Str->Option Value}{base:Heap}{CX:CXT}{j k:Nat}{f:Addr}{fd:FuncData}{ps:List Str}{sp:Sp}(F:FnOk P w K mg base CX j f fd ps sp) (h:j<=k) :
  FnOk P w K mg base CX k f fd ps sp:=⟨F.len,λA outer s H args us vs Q E hr=>F.run A outer s H args us vs Q E (hr.mono h)⟩
theorem FnOk.imp {P:Program}{w:World}{K:PySem.W.Frag}{mg:Str->Option Value}{base:Heap}{CX:CXT}{k:Nat}{f:Addr}{fd:FuncData}{ps:List Str}{sp sp':Sp}(F:FnOk P w K mg base CX k f fd ps sp)
  (h:∀ vs H Q E,sp' vs H Q E->sp vs H Q E):FnOk P w K mg base CX k f fd ps sp' :=
 ⟨λvs H Q E q=>F.len vs H Q E (h _ _ _ _ q),λA outer s H args us vs Q E hr he hb hv hs=>F.run A outer s H args us vs Q E hr he hb hv (h _ _ _ _ hs)⟩
theorem Env0.make {P:Program}{w:World}{K:PySem.W.Frag}{mg:Str->Option Value}{base:Heap}{A:Around}{outer:List Env}{s:Shared}{H:Hp}(e:Env0 P w K mg base A outer s H) (C:Addr) (us:List Value) (kw:List (Str×Value)) :
  Env0 P w K mg base (A.under (.builtin "type.__call__" ⟨.ref C::us,kw⟩)) outer s H:=⟨by first|exact e.frames|(simpa [Around.under,Code.envs,Code.isFrame,pushEnvs] using e.frames),e.mod,e.bs,e.bsz,e.funs,e.frf,e.hok,e.bare⟩
theorem Env0.in1 {P:Program}{w:World}{K:PySem.W.Frag}{mg:Str->Option Value}{base:Heap}{A:Around}{outer:List Env}{s:Shared}{H:Hp}(e:Env0 P w K mg base A outer s H) :
  Env0 P w K mg base A.in1 outer s H:=⟨e.frames,e.mod,e.bs,e.bsz,e.funs,e.frf,e.hok,e.bare⟩
section
variable {X:Cx}{pins:List (Addr×Obj)}{U:St}{H:Hp}{s s':Shared}
theorem Inv.env0 (I:Inv X pins U H s):Env0 X.prog X.w X.K X.mg X.base X.A X.stack s H :=
 ⟨I.ok.frames,I.ok.mod,I.bs,Nat.le_trans I.ok.bsz I.sz,I.stack,I.stkFree,I.hok,I.bare⟩
theorem Inv.after {Q:VK}{u:Value}(I:Inv X pins U H s) (h:CE X.stack X.prog X.w H s Q u s'):EP X pins U Q u s':=by
 obtain ⟨v,H',os,bare,un,hok,r,q⟩:=h
 obtain ⟨hh,g,d,t,os'⟩:=s'
 obtain rfl:os'=s.os:=os
 exact ⟨v,H',I.call (h':=hh) (g':=g) (d':=d) (t':=t) (ch:=[]) un hok bare (λb z=>absurd z (by simp)),r,q⟩
end
def nZ (sp:Sp) (dvs:List V) (E:XK) (t:TA):TE:=λU H Q=>t U H λvs H1=>sp (vs++dvs) H1 Q E
def jA (C:Addr) (sp:Sp) (dvs:List V) (E:XK) (t:TA):TE:=λU H Q=>t U H λvs H1=>∀ x dx,H1 x=none->H1 dx=none->dx≠x ->
 sp (.ref x::(vs++dvs)) (upd (upd H1 dx (.own x)) x (.ins C dx [])) (λv H2=>v=.non/\Q (.ref x) H2) E
def ao (K:PySem.W.Frag) (fd:FuncData) (ps:List Str) (ds:List Value):Prop :=
 ∀ (s:Shared) (us:List Value),K.In s.heap->(us++ds).length=ps.length->BindsTo s fd ⟨us,[]⟩ (ps.zip (us++ds))
theorem ao.all {K:PySem.W.Frag}{fd:FuncData}{ps:List Str}(h:∀ us:List Value,us.length=ps.length->bindArgs fd ⟨us,[]⟩=pure (ps.zip us)):ao K fd ps []:=λs us _ hl=>by
 rw [List.append_nil] at hl ⊢
 exact .of_eq (h us hl)
def dF (CX:CXT) (X:Cx) (E:XK):Prop:=∀ (pins:List (Addr×Obj)) (U:St) (H:Hp) (s:Shared) (e:Value) (s':Shared),Inv X pins U H s->CX X.stack H s E e s'->X.xe e s'
section
variable {X:Cx}{CX:CXT}{k:Nat}{f C:Addr}{fd:FuncData}{ps:List Str}{sp:Sp}{dvs:List V}{ds:List Value}{E:XK}{x m:Str}{p pos apos:Pos}{e o:Expr}{es:List Expr}{ta:TE}{t:TA}
theorem mW {pins:List (Addr×Obj)}{U:St}{H:Hp}{s:Shared}{Q:VK}{us:List Value}{vs:List V}(F:FnOk X.prog X.w X.K X.mg X.base CX k f fd ps sp) (hr:Room k X.A) (hb:ao X.K fd ps ds) (hd:am dvs ds) (hx:dF CX X E)
  (I:Inv X pins U H s) (r:am vs us) (h:sp (vs++dvs) H Q E):wpAny (model X.prog X.w) X.A (call (.ref f) us) (EP X pins U Q) X.xe s:=by
 have r2:am (vs++dvs) (us++ds):=r.append hd
 have hl:(us++ds).length=ps.length:=by rw [<- r2.length];exact F.len _ _ _ _ h
 refine wpAny_call (codeAny_mono (F.run X.A X.stack s H ⟨us,[]⟩ (us++ds) (vs++dvs) Q E hr I.env0 (hb s us I.kIn hl) r2 h) λr s' hq=>?_)
 cases r with
 |error e=>exact hx pins U H s e s' I hq
 |ok fl =>
  cases fl with
  |ret u=>exact I.after hq
  |next=>exact False.elim hq
  |brk=>exact False.elim hq
  |cont=>exact False.elim hq
theorem B4 (F:FnOk X.prog X.w X.K X.mg X.base CX k f fd ps sp) (hr:Room k X.A) (hg:Gl X x) (hm:X.mg x=some (.ref f)) (hk:PySem.W.keepIn X.K (.ref f)=true) (hb:ao X.K fd ps ds) (hd:am dvs ds) (hx:dF CX X E)
  (ha:PA X (e::es) t) (MV:(x==("__debug__":Str))=false:=by decide) (he:starEach (e::es) X.env=(false,eval e X.env)::starEach es X.env:=by rfl) (MS:(backTo pos (starEach es X.env)).any (·.1)=false:=by rfl) :
  PE X (.Call (.Name x p) (e::es) [] pos) (nZ sp dvs E t):=by
 intro pins s U H Q I h
 refine wpAny_Call_Name_kw (c6 I hg hm ?_ MV)
 refine PySem.W.callWith_K (h₀:=X.base) I.ok.mod.kin hk (thn (ha pos pins s U H _ I h) λus s1 ⟨vs,H1,I1,r,q⟩=>⟨I1.kIn,?_⟩) he MS
 exact mW F hr hb hd hx I1 r q
structure Mk (K:PySem.W.Frag) (C f:Addr):Prop where
 makes:PySem.W.makesIn K C=true
 init:PySem.W.findIn K (.ref C) "__init__"=some (some (.ref f))
 fn:PySem.W.isFn K (.ref f)=true
 kp:PySem.W.keepIn K (.ref C)=true
theorem qN {pins:List (Addr×Obj)}{U:St}{H:Hp}{s:Shared}{Q:VK}{us:List Value}{vs:List V}(M:Mk X.K C f) (F:FnOk X.prog X.w X.K X.mg X.base CX k f fd ps sp) (hr:Room (k+1) X.A) (hb:ao X.K fd ps ds) (hd:am dvs ds)
  (hx:dF CX X E) (I:Inv X pins U H s) (r:am vs us)
  (h:∀ x dx,H x=none->H dx=none->dx≠x->sp (.ref x::(vs++dvs)) (upd (upd H dx (.own x)) x (.ins C dx [])) (λv H2=>v=.non/\Q (.ref x) H2) E) :
  wpAny (model X.prog X.w) X.A (call (.ref C) us) (EP X pins U Q) X.xe s:=by
 have hq:=h (s.heap.objs.size+1) s.heap.objs.size (I.hok.fresh (Nat.le_succ _)) (I.hok.fresh (Nat.le_refl _)) (Nat.ne_of_lt (Nat.lt_succ_self _))
 have I2:=Inv.made (C:=C) I
 have r2:am (V.ref (s.heap.objs.size+1)::(vs++dvs)) (Value.ref (s.heap.objs.size+1)::(us++ds)):=.cons rfl (r.append hd)
 have hl:(Value.ref (s.heap.objs.size+1)::us++ds).length=ps.length:=by
  have e:=r2.length
  rw [F.len _ _ _ _ hq] at e
  exact e.symm
 refine wpAny_call (Ap (f:=f) I.kIn M.makes M.init (beq_iff_eq.mp M.fn) (codeAny_mono (F.run _ X.stack _ _ ⟨Value.ref (s.heap.objs.size+1)::us,[]⟩ (Value.ref (s.heap.objs.size+1)::(us++ds)) _ _ E (hr.make C us [])
  (I2.env0.make C us []) (hb _ (Value.ref (s.heap.objs.size+1)::us) I2.kIn hl) r2 hq) λr s' hq'=>?_))
 cases r with
 |error e=>exact hx pins U _ _ e s' I2 hq'
 |ok fl =>
  cases fl with
  |ret u =>
   obtain ⟨v,H',I3,rv,ev,q3⟩:=I2.after hq'
   subst ev
   exact ⟨rv,⟨V.ref (s.heap.objs.size+1),H',I3,rfl,q3⟩⟩
  |next=>exact False.elim hq'
  |brk=>exact False.elim hq'
  |cont=>exact False.elim hq'
theorem B5 (M:Mk X.K C f) (F:FnOk X.prog X.w X.K X.mg X.base CX k f fd ps sp) (hr:Room (k+1) X.A) (hg:Gl X x) (hm:X.mg x=some (.ref C)) (hb:ao X.K fd ps ds) (hd:am dvs ds) (hx:dF CX X E)
  (ha:PA X (e::es) t) (MV:(x==("__debug__":Str))=false:=by decide) (he:starEach (e::es) X.env=(false,eval e X.env)::starEach es X.env:=by rfl) (MS:(backTo pos (starEach es X.env)).any (·.1)=false:=by rfl) :
  PE X (.Call (.Name x p) (e::es) [] pos) (jA C sp dvs E t):=by
 intro pins s U H Q I h
 refine wpAny_Call_Name_kw (c6 I hg hm ?_ MV)
 refine PySem.W.callWith_K (h₀:=X.base) I.ok.mod.kin M.kp (thn (ha pos pins s U H _ I h) λus s1 ⟨vs,H1,I1,r,q⟩=>⟨I1.kIn,?_⟩) he MS
 exact qN M F hr hb hd hx I1 r q
theorem Aq (M:Mk X.K C f) (F:FnOk X.prog X.w X.K X.mg X.base CX k f fd ps sp) (hr:Room (k+1) X.A) (hg:Gl X x) (hm:X.mg x=some (.ref C)) (hb:ao X.K fd ps ds) (hd:am dvs ds) (hx:dF CX X E)
  (MV:(x==("__debug__":Str))=false:=by decide):PE X (.Call (.Name x p) [] [] pos) (jA C sp dvs E dn):=by
 intro pins s U H Q I h
 refine wpAny_Call_Name_kw (c6 I hg hm ?_ MV)
 exact PySem.W.callWith_K0 I.kIn M.kp (qN (us:=[]) M F hr hb hd hx I .nil h)
end
def PK (X:Cx) (Rx:List Keyword) (t:TA):Prop :=
 ∀ (pos:Pos) (pins:List (Addr×Obj)) (s:Shared) (U:St) (H:Hp) (Q:List V->Hp->Prop),Inv X pins U H s->t U H Q->wpAny (model X.prog X.w) X.A (evalAll ((backToKw pos (keywordEach Rx X.env)).map (·.2))) (AP X pins U Q) X.xe s
section
variable {X:Cx}{CX:CXT}{k:Nat}{f C:Addr}{fd:FuncData}{ps ks:List Str}{sp:Sp}{E:XK}{x m:Str}{p pos apos Rf:Pos}{e o:Expr}{es:List Expr}{Rx:List Keyword}{te ta:TE}{t tk:TA}{nm:Option Str}
theorem ET:PK X [] dn:=λ_ _ _ _ H Q I h=>wpAny_evalAll_nil ⟨[],H,I,.nil,h⟩
theorem B6 (ha:PE X e te) (hr:PK X Rx t):PK X (⟨nm,e,Rf⟩::Rx) (nY te t):=by
 intro pos pins s U H Q I h
 show wpAny _ _ (evalAll ((do let v <- eval e X.env;standAt pos;pure v)::(backToKw pos (keywordEach Rx X.env)).map (·.2))) _ _ s
 refine wpAny_evalAll_cons (wpAny_bind (thn (ha pins s U H _ I h) λu s1 zz32=>?_))
 obtain ⟨x,H1,I1,r1,q1⟩:=zz32
 refine wpAny_bind (wpAny_standAt (wpAny_pure ?_))
 exact thn (hr pos pins s1 U H1 _ I1 q1) λus s2 zz33=>by obtain ⟨xs,H2,I2,r2,q2⟩:=zz33;exact ⟨x::xs,H2,I2,.cons r1 r2,q2⟩
structure KBinds (K:PySem.W.Frag) (fd:FuncData) (ps ks:List Str) (g:List Value->List Value->List Value) (gV:List V->List V->List V):Prop where
 to:∀ (s:Shared) (us ws:List Value),K.In s.heap->(g us ws).length=ps.length->BindsTo s fd ⟨us,ks.zip ws⟩ (ps.zip (g us ws))
 rel:∀ {vs:List V}{us:List Value}{zs:List V}{ws:List Value},am vs us->am zs ws->am (gV vs zs) (g us ws)
variable {g:List Value->List Value->List Value}{gV:List V->List V->List V}
end
structure FnScope (N P:List Str) (sc:Scope):Prop where
 kind:sc.kind=.function
 co:sc.isCoroutine=false
 gen:sc.isGenerator=false
 nd:N.Nodup
 pre:N.take P.length=P
 par:∀ x∈P,sc.names.lookup x=some .local\/sc.names.lookup x=some .cell
 nofree:∀ y∈sc.names,y.2≠.free
theorem qm {kindOf:Str->Option NameKind}{x:Str}:∀ {binds:List (Str×Value)}{m:Str->Option Value},(∀ v,(x,v)∉binds)->bindL kindOf binds m x=m x
 |[],_,_=>rfl
 |(n,v)::r,m,h=>by
  unfold bindL
  rw [qm λw hw=>h w (List.mem_cons_of_mem _ hw)]
  split
  ·have:x≠n:=by rintro rfl;exact h v List.mem_cons_self
   simp [this]
  ·rfl
theorem qo {kindOf:Str->Option NameKind}{x:Str}:∀ {binds:List (Str×Value)}{m:Str->Option Value},(∀ v,(x,v)∉binds)->bindC kindOf binds m x=m x
 |[],_,_=>rfl
 |(n,v)::r,m,h=>by
  unfold bindC
  rw [qo λw hw=>h w (List.mem_cons_of_mem _ hw)]
  split
  ·rfl
  ·have:x≠n:=by rintro rfl;exact h v List.mem_cons_self
   simp [this]
theorem qp {kindOf:Str->Option NameKind}{x:Str}{v:Value}:∀ {P:List Str}{vs:List Value}{i:Nat}{m:Str->Option Value},P.Nodup->P[i]?=some x->vs[i]?=some v->kindOf x=some .local ->
  bindL kindOf (P.zip vs) m x=some v
 |[],_,_,_,_,h,_,_=>by simp at h
 |_::_,[],_,_,_,_,h,_=>by simp at h
 |p::P,w::vs,0,m,nd,h1,h2,hk=>by
  simp at h1 h2;subst h1;subst h2
  show bindL kindOf ((p,w)::P.zip vs) m p=_
  unfold bindL
  rw [qm λv hv=>(List.nodup_cons.mp nd).1 (List.of_mem_zip hv).1,if_pos hk]
  simp
 |p::P,w::vs,i+1,m,nd,h1,h2,hk=>by
  show bindL kindOf ((p,w)::P.zip vs) m x=_
  unfold bindL
  exact qp (i:=i) (List.nodup_cons.mp nd).2 (by simpa using h1) (by simpa using h2) hk
theorem qq {kindOf:Str->Option NameKind}{x:Str}{v:Value}:∀ {P:List Str}{vs:List Value}{i:Nat}{m:Str->Option Value},P.Nodup->P[i]?=some x->vs[i]?=some v->kindOf x≠some .local ->
  bindC kindOf (P.zip vs) m x=some v
 |[],_,_,_,_,h,_,_=>by simp at h
 |_::_,[],_,_,_,_,h,_=>by simp at h
 |p::P,w::vs,0,m,nd,h1,h2,hk=>by
  simp at h1 h2;subst h1;subst h2
  show bindC kindOf ((p,w)::P.zip vs) m p=_
  unfold bindC
  rw [qo λv hv=>(List.nodup_cons.mp nd).1 (List.of_mem_zip hv).1,if_neg hk]
  simp
 |p::P,w::vs,i+1,m,nd,h1,h2,hk=>by
  show bindC kindOf ((p,w)::P.zip vs) m x=_
  unfold bindC
  exact qq (i:=i) (List.nodup_cons.mp nd).2 (by simpa using h1) (by simpa using h2) hk
noncomputable def bX (N:List Str) (vs:List V):St:=vs.map some++List.replicate (N.length - vs.length) none
noncomputable def cJ (CX:CXT) (P:Program) (w:World) (K:PySem.W.Frag) (mg:Str->Option Value) (base:Heap) (N:List Str) (qual:Str) (scope:Scope) (f:Addr) (cd:Value) (A:Around) (outer:List Env) (s:Shared) (H:Hp) (E:XK):Cx where
 prog:=P
 w:=w
 K:=K
 mg:=mg
 base:=base
 A:=A.deeper (envOfC qual scope s.heap.objs.size f cd)
 N:=N
 s₀:=s
 H₀:=H
 env:=envOfC qual scope s.heap.objs.size f cd
 outer:=outer
 stack:=envOfC qual scope s.heap.objs.size f cd::outer
 ex:=[]
 calm:=true
 fn:=λ_=>true
 pn:=[]
 xe:=λe s'=>wpAny (model P w) (A.deeper (envOfC qual scope s.heap.objs.size f cd)) (leaving (envOfC qual scope s.heap.objs.size f cd) e) (λ_ s''=>CX outer H s E e s'') (λe' s''=>CX outer H s E e' s'') s'
theorem qO {sc:Scope}{n:Nat}{x:Str}(h:sc.names.lookup x=some .cell):∃ c,(cellsFrom n sc.names []).lookup x=some c:=by
 have q:=PySem.W.cellsFrom_some sc.names n [] (.inl h)
 exact Option.isSome_iff_exists.mp q
theorem zj {CX:CXT}{P:Program}{w:World}{K:PySem.W.Frag}{mg:Str->Option Value}{base:Heap}{N ps:List Str}{qual:Str}{scope:Scope}{f:Addr}{cd:Value}{A:Around}{outer:List Env}{s s1:Shared}{H:Hp}{E:XK}{us:List Value}{vs:List V}
  (S:FnScope N ps scope) (hd:A.handled=none) (e0:Env0 P w K mg base A outer s H) (hl:vs.length=ps.length) (r:am vs us)
  (x:InCallC s s.heap.objs.size (bindL (envOfC qual scope s.heap.objs.size f cd).kindOf (ps.zip us) λ_=>none) (cellsFrom (s.heap.objs.size+1) scope.names []) (bindC (envOfC qual scope s.heap.objs.size f cd).kindOf (ps.zip us) λ_=>none) s1) :
  Inv (cJ CX P w K mg base N qual scope f cd A outer s H E) [] (bX N vs) H s1:=by
 have MS:ps.length<=N.length:=by have:=congrArg List.length S.pre;rw [List.length_take] at this;omega
 obtain ⟨h1,tk,rfl,hk⟩:=x.done
 have noA:∀ b:Addr,b∉(cJ CX P w K mg base N qual scope f cd A outer s H E).ex:=λb z=>absurd (show b∈([]:List Addr) from z) (by simp)
 refine ⟨⟨e0.mod,S.kind,rfl,rfl,Nat.le_refl _,λy z c h1 h2=>?_,λy hy=>?_,λy c _ h=>?_,λ_=>hd,Around.frames_deeper e0.frames,.inr ⟨rfl,rfl⟩,λb z=>absurd z (noA b),e0.bs,e0.bsz,λb _ _=>noA b,λb z=>absurd z (noA b),e0.funs,e0.frf⟩,
  rfl,e0.bare,Un.kept hk,⟨_,x.toInCall.ns,λi y v h1 h2 h3=>?_⟩,λy c h=>⟨_,x.cell y c h⟩,e0.hok.fresh (Nat.le_refl _),λy c h=>?_,λp hp=>absurd (show p∈([]:List (Addr×Obj)) from hp) (by simp),e0.hok.kept hk,?_⟩
 ·exact name_of_addr x.apart (PySem.mem_of_lookup h1) (PySem.mem_of_lookup h2)
 ·have hy:scope.names.lookup y=some .cell\/scope.names.lookup y=some .free:=hy
  rcases hy with hy|hy
  ·exact qO hy
  ·exact absurd rfl (S.nofree _ (PySem.mem_of_lookup hy))
 ·exact Nat.le_of_lt (x.above y c (PySem.mem_of_lookup h))
 ·have hi:i<vs.length:=by
   unfold bX at h2
   by_cases hi:i<vs.length
   ·exact hi
   ·rw [List.getElem?_append_right (by simpa using hi)] at h2
    rw [List.getElem?_replicate] at h2
    split at h2<;>cases h2
  have ha:vs[i]?=some v:=by
   unfold bX at h2
   rw [List.getElem?_append_left (by simpa using hi),List.getElem?_map] at h2
   cases e:vs[i]? with
   |none=>rw [e] at h2;cases h2
   |some a=>rw [e] at h2;cases h2;rfl
  obtain ⟨u,hu,rv⟩:=r.get ha
  have hp:ps[i]?=some y:=by
   rw [<- S.pre,List.getElem?_take_of_lt (by omega)];exact h1
  have ndP:ps.Nodup:=by rw [<- S.pre];exact S.nd.sublist (List.take_sublist _ _)
  refine ⟨u,rv,?_⟩
  rcases S.par y (List.mem_of_getElem? hp) with k|k
  ·exact .inl ⟨k,qp ndP hp hu k⟩
  ·obtain ⟨c,e⟩:=qO (n:=s.heap.objs.size+1) k
   refine .inr ⟨.inl k,c,e,?_⟩
   have q:=x.cell y c e
   rw [qq ndP hp hu (by show scope.names.lookup y≠_;rw [k];decide)] at q
   exact q
 ·exact e0.hok.fresh (Nat.le_of_lt (x.above y c (PySem.mem_of_lookup h)))
 ·unfold bX
  show _=N.length
  rw [List.length_append,List.length_map,List.length_replicate]
  omega
theorem n0 {CX:CXT}{P:Program}{w:World}{K:PySem.W.Frag}{mg:Str->Option Value}{base:Heap}{k:Nat}{f:Addr}{name qual:Str}{params:Arguments}{body:List Stmt}{scope:Scope}{dV kV doc pm cdv ct oc:Value}{an od:Option Addr}
  {osl:Array (Option Value)}{N ps:List Str}{sp:Sp}(lk:K.lookup f=some ⟨oc,od,.func (PySem.W.fnOf name qual params body scope dV kV doc pm an cdv ct),osl⟩) (Qm:PySem.W.codeIn K cdv qual=true) (S:FnScope N ps scope)
  (len:∀ vs H Q E,sp vs H Q E->vs.length=ps.length)
  (NL:∀ (A:Around) (outer:List Env) (s:Shared) (H:Hp) (vs:List V) (Q:VK) (E:XK),Room k (A.deeper (envOfC qual scope s.heap.objs.size f cdv))->sp vs H Q E ->
   ∃ t,PSs (cJ CX P w K mg base N qual scope f cdv A outer s H E) body t/\t { nx:=λ_ H'=>Q .non H',rt:=Q } (bX N vs) H) :
  FnOk P w K mg base CX (k+1) f (PySem.W.fnOf name qual params body scope dV kV doc pm an cdv ct) ps sp:=by
 refine ⟨len,λA outer s H args us vs Q E hr e0 hb r So=>?_⟩
 have hl:=len _ _ _ _ So
 have KX:K.In s.heap:=e0.mod.kin.keeps λb o e=>(e0.bs b o e).1
 have lim:s.heap.NoLimit:=e0.mod.nolimit.keeps λb o e=>(e0.bs b o e).1
 have hkind:∀ y∈ps.zip us,scope.names.lookup y.1=some .local\/(scope.names.lookup y.1=some .cell/\((cellsFrom (s.heap.objs.size+1) scope.names []).lookup y.1).isSome=true):=λzz34 hy=>by
  obtain ⟨n,v⟩:=zz34
  rcases S.par n (List.of_mem_zip hy).1 with q|q
  ·exact .inl q
  ·exact .inr ⟨q,PySem.W.cellsFrom_some _ _ _ (.inl q)⟩
 refine codeAny_call_function hr.depth (KX _ _ lk) rfl S.co S.gen rfl (PySem.W.codeRec_of KX Qm) (hb _ _ _ _ ?_)
 refine wpAny_newFunctionEnv_cells S.kind hkind λenv he s1 x=>?_
 subst he
 refine ⟨lim.keeps x.toInCall.keep,codeAny_func ?_⟩
 obtain ⟨t,ht,hq⟩:=NL A outer s H vs Q E (hr.deeper _) So
 have I:Inv (cJ CX P w K mg base N qual scope f cdv A outer s H E) [] (bX N vs) H s1:=zj S hr.hd e0 hl r x
 refine wpAny_mono (ht [] s1 (bX N vs) H _ I hq) (λfl s' hs=>?_) λe s' hs=>hs
 have fin:∀ {LR:St}{H':Hp}{v:V}{u:Value},Inv (cJ CX P w K mg base N qual scope f cdv A outer s H E) [] LR H' s'->au v u->Q v H'->CE outer P w H s Q u s' :=
  fun {LR H' v u} J rv q=>⟨v,H',J.os,J.bare,J.base,J.hok,rv,q⟩
 cases fl with
 |ret u =>
  obtain ⟨v,LR,H',J,rv,q⟩:=hs
  exact fin J rv q
 |next =>
  obtain ⟨LR,H',J,q⟩:=hs
  exact fin (v:=V.non) (u:=Value.none) J rfl q
 |brk =>
  obtain ⟨_,_,_,q⟩:=hs
  exact False.elim q
 |cont =>
  obtain ⟨_,_,_,q⟩:=hs
  exact False.elim q
section
variable {X:Cx}{x:Str}{p pos:Pos}{e:Expr}{es:List Expr}{t:TA}{id T:String}{r:List V->Hp->VK->Prop}
def tCB (r:List V->Hp->VK->Prop) (t:TA):TE:=λU H Q=>t U H λvs H1=>r vs H1 Q
theorem Ar (hc:a8 X (.builtin id) r) (hg:Gl X x) (hm:X.mg x=none) (hv:bootBuiltins x=some (.builtin id)) (ha:PA X (e::es) t) (hn:x ≠ "__name__":=by decide) (MV:(x==("__debug__":Str))=false:=by decide)
  (he:starEach (e::es) X.env=(false,eval e X.env)::starEach es X.env:=by rfl) (MS:(backTo pos (starEach es X.env)).any (·.1)=false:=by rfl):PE X (.Call (.Name x p) (e::es) [] pos) (tCB r t):=by
 intro pins s U H Q I h
 refine wpAny_Call_Name_kw (fj I hg hm hv ?_ hn MV)
 exact PyProof.Rows.callWith_builtin1 (thn (ha pos pins s U H _ I h) λus s1 zz35=>by obtain ⟨vs,H1,I1,r1,q1⟩:=zz35;exact hc pins s1 U H1 vs us Q I1 r1 q1) he MS
theorem zl (hc:a8 X (.type T) r) (hg:Gl X x) (hm:X.mg x=none) (hv:bootBuiltins x=some (.type T)) (ha:PA X (e::es) t) (hn:x ≠ "__name__":=by decide) (MV:(x==("__debug__":Str))=false:=by decide)
  (he:starEach (e::es) X.env=(false,eval e X.env)::starEach es X.env:=by rfl) (MS:(backTo pos (starEach es X.env)).any (·.1)=false:=by rfl):PE X (.Call (.Name x p) (e::es) [] pos) (tCB r t):=by
 intro pins s U H Q I h
 refine wpAny_Call_Name_kw (fj I hg hm hv ?_ hn MV)
 exact PyProof.Rows.callWith_type1 (thn (ha pos pins s U H _ I h) λus s1 zz36=>by obtain ⟨vs,H1,I1,r1,q1⟩:=zz36;exact hc pins s1 U H1 vs us Q I1 r1 q1) he MS
end
end L2
namespace HT
open PySem PyProof.Rows
section
open PySem.SeqAt
open PySem.AutoSeq1 (wpAny_loadPart')
open PySem.MeetsSeq PySem.MeetsSeq2 PySem.MeetsSeq3
end
section
variable {prog:Program}{w:World}{A:Around}{E:Value->Shared->Prop}{s:Shared}
theorem cat_tup {t b:Addr}{vs ws:List Value}{Q:Value->Shared->Prop}(ht:IsTup s.heap t vs.toArray) (hb:IsTup s.heap b ws.toArray) (hv:vs≠[])
  (h1:ws=[]->Q (.ref t) s) (h2:ws≠[]->Q (.ref s.heap.objs.size) { s with heap:=s.heap.push { cls:=.type "tuple",data:=.seq (vs++ws).toArray } })
  (hsz:vs.length+ws.length<=sizeLine):wpAny (model prog w) A (binaryOp .Add (.ref t) (.ref b)) Q E s:=by
 obtain ⟨⟨cls,dd,data,sl⟩,ho,hc,n,hd⟩:=id ht
 obtain ⟨⟨cls2,dd2,data2,sl2⟩,Sz,hc2,n2,hd2⟩:=id hb
 simp only at hc hd hc2 hd2
 subst hc hd hc2 hd2
 have e:vs.toArray++ws.toArray=(vs++ws).toArray:=by simp
 by_cases hw:ws=[]
 ·exact concat_meets ⟨_,ho,rfl⟩ ⟨_,Sz,rfl⟩ noFill_tuple_add seq_tuple_add PySem.F.slot_tuple_add PySem.F.entry_tuple_add (PySem.F.args_tuple_add_2 _ _)
   (tuple_addW1 t b vs.toArray ws.toArray n n2 dd dd2 sl sl2 (by simpa using hv) (by simp [hw])) ⟨ho,Sz,h1 hw⟩
 ·refine concat_meets ⟨_,ho,rfl⟩ ⟨_,Sz,rfl⟩ noFill_tuple_add seq_tuple_add PySem.F.slot_tuple_add PySem.F.entry_tuple_add (PySem.F.args_tuple_add_2 _ _)
   (tuple_addW2 t b vs.toArray ws.toArray n n2 dd dd2 sl sl2 (by simpa using hv) (by simpa using hw) (by rw [List.size_toArray,List.size_toArray];exact hsz)) ⟨ho,Sz,?_⟩
  rw [e]
  exact h2 hw
noncomputable def sIx (n d:Nat):Option Int->Nat
 |none=>d
 |some v=>if v<0 then (v+(n:Int)).toNat else min v.toNat n
theorem sIx_none (n d:Nat):sIx n d none=d:=rfl
theorem sIx_nat (n d k:Nat):sIx n d (some (k:Int))=min k n:=by
 show (if (k:Int)<0 then ((k:Int)+(n:Int)).toNat else min (k:Int).toNat n)=min k n
 rw [if_neg (by omega),Int.toNat_natCast]
end
end HT
namespace L2
open PySem PySem.Spec PyProof.Rows
abbrev TO:=St->Hp->(Option Int->Hp->Prop)->Prop
def PO (X:Cx) (e:Option Expr) (t:TO):Prop :=
 ∀ (pins:List (Addr×Obj)) (s:Shared) (U:St) (H:Hp) (Q:Option Int->Hp->Prop),Inv X pins U H s->t U H Q ->
  wpAny (model X.prog X.w) X.A (evalPart e X.env) (λu s'=>∃ o H',Inv X pins U H' s'/\IsPart u o/\Q o H') X.xe s
def B7:TO:=λ_ H Q=>Q none H
def Ie (t:TE):TO:=λU H Q=>t U H λx H1=>∃ i,x=.int i/\Q (some i) H1
section
variable {X:Cx}{e:Expr}{te:TE}{lo hi:Option Expr}{tl th:TO}{pos p2:Pos}
theorem B8:PO X none B7:=by
 intro pins s U H Q I h
 rw [evalPart_none]
 exact wpAny_pure ⟨none,H,I,.none,h⟩
theorem B9 (h:PE X e te):PO X (some e) (Ie te):=by
 intro pins s U H Q I hw
 rw [evalPart_some]
 refine thn (h pins s U H _ I hw) λu s1 zz37=>?_
 obtain ⟨x,H1,I1,r1,q1⟩:=zz37
 obtain ⟨i,rfl,q⟩:=q1
 obtain ⟨t,rfl⟩:=r1
 exact ⟨some i,H1,I1,.int i t,q⟩
def SlR (X:Cx) (r:V->Option Int->Option Int->Hp->VK->Prop):Prop :=
 ∀ (pins:List (Addr×Obj)) (s:Shared) (U:St) (H:Hp) (x:V) (v vl vu:Value) (lo hi:Option Int) (sl:Addr) (Q:VK),Inv X pins U H s->au x v->s.heap.IsSliceOf sl vl vu .none->IsPart vl lo->IsPart vu hi->r x lo hi H Q ->
  ∃ T id,typeLookup (.type T) "__getitem__"=pure (some (.builtin id))/\s.TypeIs v T/\wpAny (model X.prog X.w) X.A (getItem v (.ref sl)) (EP X pins U Q) X.xe s
def tSl (r:V->Option Int->Option Int->Hp->VK->Prop) (te:TE) (tl th:TO):TE:=λU H Q=>te U H λx H1=>tl U H1 λl H2=>th U H2 λu H3=>r x l u H3 Q
theorem Au {r:V->Option Int->Option Int->Hp->VK->Prop}(hr:SlR X r) (he:PE X e te) (hl:PO X lo tl) (hu:PO X hi th):PE X (.Subscript e (.Slice lo hi none p2) pos) (tSl r te tl th):=by
 intro pins s U H Q I h
 refine Subscript_ (thn (he pins s U H _ I h) λv s1 zz38=>?_)
 obtain ⟨x,H1,I1,r1,q1⟩:=zz38
 refine wpAny_Slice (thn (hl pins s1 U H1 _ I1 q1) λvl s2 zz39=>?_)
 obtain ⟨l,H2,I2,pl,q2⟩:=zz39
 refine thn (hu pins s2 U H2 _ I2 q2) λvu s3 zz40=>?_
 obtain ⟨u,H3,I3,pu,q3⟩:=zz40
 rw [evalPart_none]
 refine wpAny_pure ?_
 have I4:Inv X pins U H3 { s3 with heap:=s3.heap.push { cls:=.type "slice",data:=.fields #[vl,vu,.none] } }:=I3.kept (t':=s3.toks) λb ob q=>Heap.get?_push_of_some _ q
 obtain ⟨T,id,hT,ht,hg⟩:=hr pins { s3 with heap:=s3.heap.push { cls:=.type "slice",data:=.fields #[vl,vu,.none] } } U H3 x v vl vu l u s3.heap.objs.size Q I4 r1 (Heap.IsSliceOf.new ..) pl pu q3
 show wpAny (model X.prog X.w) X.A (subscriptTail e (.Slice lo hi none p2) v (.ref s3.heap.objs.size)) (EP X pins U Q) X.xe { s3 with heap:=s3.heap.push { cls:=.type "slice",data:=.fields #[vl,vu,.none] } }
 exact tail_any (ops:=[.ref s3.heap.objs.size,v]) ht hT hg (by with_unfolding_all rfl)
def fT (xs:List V) (lo hi:Option Int):List V:=(xs.drop (HT.sIx xs.length 0 lo)).take (HT.sIx xs.length xs.length hi - HT.sIx xs.length 0 lo)
theorem yj (xs:List V) (lo hi:Option Int):(fT xs lo hi).length<=xs.length:=by
 unfold fT
 rw [List.length_take,List.length_drop]
 omega
def Ig (K:PySem.W.Frag):R2:=λx y H Q=>∃ a b xs ys,x=.ref a/\y=.ref b/\SqT K H a xs/\SqT K H b ys/\xs≠[]/\xs.length+ys.length<=sizeLine /\
 (ys=[]->Q (.ref a) H)/\(ys≠[]->∀ p,H p=none->Q (.ref p) (upd H p (.tup (xs++ys))))
theorem am.nil_iff {xs:List V}{us:List Value}(r:am xs us):us=[] ↔ xs=[]:=by
 cases r with
 |nil=>simp
 |cons _ _=>simp
theorem B':OpR X (binaryOp .Add) (Ig X.K):=by
 intro pins s U H x y v u Q I rx ry h
 obtain ⟨a,b,xs,ys,rfl,rfl,ha,hb,hx,hz,q1,q2⟩:=h
 cases rx
 cases ry
 obtain ⟨its,r1,p1,_⟩:=I.tuple ha
 obtain ⟨Ts,r2,p2,_⟩:=I.tuple hb
 refine HT.cat_tup p1 p2 (λz=>hx (r1.nil_iff.mp z)) (λz=>⟨.ref a,H,I,rfl,q1 (r2.nil_iff.mp z)⟩) (λz=>?_) (by rw [<- r1.length,<- r2.length];exact hz)
 refine ⟨.ref s.heap.objs.size,_,I.laid (t':=s.toks) (o:=.tup (xs++ys)) (λb ob q=>Heap.get?_push_of_some _ q) (Nat.le_refl _) ?_,rfl,q2 (λw=>z (r2.nil_iff.mpr w)) _ (I.hok.fresh (Nat.le_refl _))⟩
 exact ⟨by rw [List.length_append];exact hz,_,r1.append r2,IsTup.new _ _⟩
end
noncomputable def ixN (n:Nat) (i:Int):Option Nat:=if 0<=i then (if i<n then some i.toNat else none) else if -(n:Int)<=i then some (i+n).toNat else none
def atI {α:Type}(xs:List α) (i:Int):Option α:=(ixN xs.length i).bind λj=>xs[j]?
theorem rO {n:Nat}{i:Int}{j:Nat}(h:ixN n i=some j):seqIndex? i n=some j/\j<n /\ -(n:Int)<=i/\i<n:=by
 unfold ixN at h
 by_cases h0:0<=i
 ·rw [if_pos h0] at h
  by_cases h1:i<n
  ·rw [if_pos h1] at h
   have e:i.toNat=j:=Option.some.inj h
   exact ⟨by rw [seqIndex_of h0 h1,e],by omega,by omega,h1⟩
  ·rw [if_neg h1] at h;cases h
 ·rw [if_neg h0] at h
  by_cases h1:-(n:Int)<=i
  ·rw [if_pos h1] at h
   have e:(i+n).toNat=j:=Option.some.inj h
   exact ⟨by rw [seqIndex_neg (by omega) h1,e],by omega,h1,by omega⟩
  ·rw [if_neg h1] at h;cases h
theorem mD {α:Type}{xs:List α}{i:Int}{v:α}(h:atI xs i=some v):∃ j,seqIndex? i xs.length=some j/\xs[j]?=some v/\j<xs.length /\ -(xs.length:Int)<=i/\i<xs.length:=by
 unfold atI at h
 cases e:ixN xs.length i with
 |none=>rw [e] at h;cases h
 |some j =>
  rw [e] at h
  obtain ⟨h1,h2,h3,h4⟩:=rO e
  exact ⟨j,h1,h,h2,h3,h4⟩
theorem i6 {α:Type}{xs:List α}{j:Nat}{v:α}(h:xs[j]?=some v):atI xs (j:Int)=some v:=by
 have hj:j<xs.length:=(List.getElem?_eq_some_iff.mp h).1
 have e:ixN xs.length (j:Int)=some j:=by
  unfold ixN
  rw [if_pos (by omega),if_pos (by omega)];simp
 unfold atI;rw [e];exact h
def mE (b:Expr):Prop:=∀ o i,subscripted b false o i=operate [o,i] (getItem o i)
def IxR (X:Cx) (r:R2):Prop :=
 ∀ (value slice:Expr) (pins:List (Addr×Obj)) (s:Shared) (U:St) (H:Hp) (x y:V) (v u:Value) (Q:VK),Inv X pins U H s->au x v->au y u->r x y H Q ->
  subscripted slice false v u=operate [v,u] (getItem v u)->wpAny (model X.prog X.w) X.A (subscriptTail value slice v u) (EP X pins U Q) X.xe s
def MtR (X:Cx) (id:String) (r:V->List V->Hp->VK->Prop):Prop :=
 ∀ (pins:List (Addr×Obj)) (s:Shared) (U:St) (H:Hp) (x:V) (xs:List V) (v:Value) (us:List Value) (Q:VK),Inv X pins U H s->au x v->am xs us->r x xs H Q ->
  wpAny (model X.prog X.w) X.A (call (.builtin id) (v::us)) (EP X pins U Q) X.xe s
section
variable {X:Cx}{a b:Expr}{ta tb:TE}{pos:Pos}
theorem Ih {r:R2}(hr:IxR X r) (ha:PE X a ta) (hb:PE X b tb) (hs:mE b):PE X (.Subscript a b pos) (tOp r ta tb):=by
 intro pins s U H Q I h
 exact Subscript_ (oV ha hb I h λv u s2 x y H2 I2 rx ry q=>hr a b pins s2 U H2 x y v u Q I2 rx ry q (hs _ _))
def KQ (K:PySem.W.Frag):R2:=λx y H Q=>∃ p xs i v,x=.ref p/\y=.int i/\SqL K H p xs/\atI xs i=some v/\Q v H
def KS (K:PySem.W.Frag):R2:=λx y H Q=>∃ p xs i v,x=.ref p/\y=.int i/\SqT K H p xs/\atI xs i=some v/\Q v H
def KU:R2:=λx y H Q=>∃ z i c,x=.str z/\y=.int i/\z.length<=sizeLine/\atI z.cps.toList i=some c/\Q (.str ⟨#[c]⟩) H
theorem Ca:IxR X (KQ X.K):=by
 intro value slice pins s U H x y v u Q I rx ry h hs
 obtain ⟨p,xs,i,z,rfl,rfl,hq,he,q⟩:=h
 cases rx
 obtain ⟨t,rfl⟩:=ry
 obtain ⟨its,r,pl,hz⟩:=I.list hq
 obtain ⟨j,h1,h2,h3,h4,h5⟩:=mD he
 obtain ⟨w,ew,QB⟩:=r.get h2
 have hl:=r.length
 have hn:=d6
 have fin:EP X pins U Q w s:=⟨z,H,I,QB,q⟩
 by_cases h0:0<=i
 ·have hj:i.toNat=j:=by
   rw [seqIndex_of h0 h5] at h1
   exact Option.some.inj h1
  exact item_listR pl.isList h0 (by omega) (by rw [hj];simpa using ew) fin hs
 ·have hj:(i+(its.toArray.size:Int)).toNat=j:=by
   rw [seqIndex_neg (by omega) h4] at h1
   rw [List.size_toArray,<- hl]
   exact Option.some.inj h1
  exact subscriptTail_builtinR (x:=w) pl.isList.typeIs slot_list_getitem.lookup
   (wpAny_getItem_list_neg (Q:=λr s'=>r=w/\EP X pins U Q r s') pl.isList (by omega) (by rw [List.size_toArray]<;>omega) (by omega) (by rw [hj];simpa using ew) ⟨rfl,fin⟩) hs
theorem EU:IxR X (KS X.K):=by
 intro value slice pins s U H x y v u Q I rx ry h hs
 obtain ⟨p,xs,i,z,rfl,rfl,hq,he,q⟩:=h
 cases rx
 obtain ⟨t,rfl⟩:=ry
 obtain ⟨its,r,pl,hz⟩:=I.tuple hq
 obtain ⟨j,h1,h2,h3,h4,h5⟩:=mD he
 obtain ⟨w,ew,QB⟩:=r.get h2
 have hl:=r.length
 have hn:=d6
 have fin:EP X pins U Q w s:=⟨z,H,I,QB,q⟩
 exact subscriptTail_builtinR (x:=w) pl.typeIs slot_tuple_getitem.lookup
  (getItem_tuple (j:=j) (Q:=λr s'=>r=w/\EP X pins U Q r s') pl (by omega) (by omega) (by rw [List.size_toArray,<- hl];exact h1) (by simpa using ew) ⟨rfl,fin⟩) hs
theorem EV:IxR X KU:=by
 intro value slice pins s U H x y v u Q I rx ry h hs
 obtain ⟨z,i,c,rfl,rfl,hz,he,q⟩:=h
 obtain ⟨t,rfl⟩:=rx
 obtain ⟨t',rfl⟩:=ry
 obtain ⟨j,h1,h2,h3,h4,h5⟩:=mD he
 have hl:z.cps.toList.length=z.length:=by simp [Str.length]
 rw [hl] at h1 h4 h5
 have hn:=d6
 exact tail_any (typeIs_str s z t) slot_str_getitem.lookup (getItem_str (c:=c) (by
  have e1:decide (i < -(2 ^ 63:Int))=false:=decide_eq_false (by omega)
  have e2:decide (i≥2 ^ 63)=false:=decide_eq_false (by omega)
  rw [e1,e2,Bool.or_false]) (by rw [h1];simpa using h2) ⟨.str ⟨#[c]⟩,H,I.tok _,⟨_,rfl⟩,q⟩) hs
theorem yG (its:List Value) (n j:Nat) (u:Value):Obj.mapSeq (·.setIfInBounds j u) { cls:=.type "list",data:=.seq its.toArray n }={ cls:=.type "list",data:=.seq (its.set j u).toArray n }:=by
 simp [Obj.mapSeq]
theorem Inv.lst {pins:List (Addr×Obj)}{U:St}{H:Hp}{s:Shared}{p:Addr}{xs:List V}(I:Inv X pins U H s) (h:H p=some (.lst xs)) :
  ∃ (its:List Value) (n:Nat),am xs its/\s.heap.get? p=some { cls:=.type "list",data:=.seq its.toArray n }/\xs.length<=sizeLine:=by
 obtain ⟨z,its,n,r,e⟩:=I.hok p _ h
 exact ⟨its,n,r,e,z⟩
theorem Inv.lstUpd {pins:List (Addr×Obj)}{U:St}{H:Hp}{s:Shared}{p:Addr}{xs ys:List V}{its its':List Value}{n n':Nat}{f:Obj->Obj}(I:Inv X pins U H s) (h:H p=some (.lst xs))
  (ho:s.heap.get? p=some { cls:=.type "list",data:=.seq its.toArray n }) (hf:f { cls:=.type "list",data:=.seq its.toArray n }={ cls:=.type "list",data:=.seq its'.toArray n' }) (r:am ys its') (hz:ys.length<=sizeLine) (t:Nat) :
  Inv X pins U (upd H p (.lst ys)) { s with heap:=s.heap.update p f,toks:=t }:=by
 have e:(s.heap.update p f).get? p=some { cls:=.type "list",data:=.seq its'.toArray n' }:=by
  rw [Heap.get?_update_self f ho (by rw [hf]<;>rfl),hf]
 refine I.write (x:=p) (e:=p) (by rw [h];trivial) (.inl rfl) (λb u hb q=>(Heap.get?_update_other _ _ (Ne.symm hb)).trans q) ⟨_,e⟩ ?_
 exact ⟨hz,its',n',r,e⟩
def Ii:V->V->V->Hp->(Hp->Prop)->Prop:=λo i v H Q=>∃ p xs k j,o=.ref p/\i=.int k/\H p=some (.lst xs)/\ixN xs.length k=some j/\Q (upd H p (.lst (xs.set j v)))
theorem Av:c3 X Ii:=by
 intro pins s U H o i v ov iv u Q I ro ri rv h
 obtain ⟨p,xs,k,j,rfl,rfl,hp,hj,q⟩:=h
 cases ro
 obtain ⟨t,rfl⟩:=ri
 obtain ⟨its,n,r,ho,hz⟩:=I.lst hp
 obtain ⟨h1,h2,h3,h4⟩:=rO hj
 have hl:=r.length
 have hn:=d6
 have I':Inv X pins U (upd H p (.lst (xs.set j v))) { s with heap:=s.heap.update p (Obj.mapSeq (·.setIfInBounds j u)) } :=
  I.lstUpd hp ho (yG its n j u) (r.set rv j) (by rw [List.length_set];exact hz) s.toks
 by_cases h0:0<=k
 ·have hk:k.toNat=j:=by
   rw [seqIndex_of h0 h4] at h1
   exact Option.some.inj h1
  exact PySem.W.ki_setAt ho h0 (by omega) (by rw [List.size_toArray,<- hl];exact h4) (by rw [hk];exact ⟨_,I',q⟩)
 ·have hk:(k+(its.toArray.size:Int)).toNat=j:=by
   rw [seqIndex_neg (by omega) h3] at h1
   rw [List.size_toArray,<- hl]
   exact Option.some.inj h1
  exact PySem.W.ki_setBack ho (by omega) (by rw [List.size_toArray,<- hl];exact h3) (by omega) (by rw [hk];exact ⟨_,I',q⟩)
theorem xV (lo hi:Option Int) (n:Nat):(sliceBounds lo hi none n).1=((HT.sIx n 0 lo:Nat):Int)/\(sliceBounds lo hi none n).2.1=((HT.sIx n n hi:Nat):Int)/\(sliceBounds lo hi none n).2.2=1:=by
 refine ⟨?_,?_,rfl⟩
 ·cases lo with
  |none=>simp [sliceBounds,HT.sIx]
  |some i =>
   simp only [sliceBounds,HT.sIx,Option.getD_none,show (1:Int)>0 by decide,if_true]
   by_cases h:i<0
   ·simp only [h,if_true]<;>omega
   ·simp only [h,if_false]<;>omega
 ·cases hi with
  |none=>simp [sliceBounds,HT.sIx]
  |some i =>
   simp only [sliceBounds,HT.sIx,Option.getD_none,show (1:Int)>0 by decide,if_true]
   by_cases h:i<0
   ·simp only [h,if_true]<;>omega
   ·simp only [h,if_false]<;>omega
theorem xG (its:List Value) (lo hi:Option Int):slicePick its.toArray lo hi none=((its.drop (HT.sIx its.length 0 lo)).take (HT.sIx its.length its.length hi - HT.sIx its.length 0 lo)).toArray:=by
 obtain ⟨h1,h2,h3⟩:=xV lo hi its.toArray.size
 unfold slicePick
 rw [h1,h2,h3]
 simp only [sliceRange_one,pick_run,List.size_toArray]<;>rfl
def v7 (K:PySem.W.Frag):V->Option Int->Option Int->Hp->VK->Prop:=λx lo hi H Q=>∃ a xs,x=.ref a/\SqL K H a xs/\∀ p,H p=none->Q (.ref p) (upd H p (.lst (fT xs lo hi)))
theorem Cb:SlR X (v7 X.K):=by
 intro pins s U H x v vl vu lo hi sl Q I rx hs pl pu h
 obtain ⟨a,xs,rfl,hx,q⟩:=h
 cases rx
 obtain ⟨its,r,ht,hz⟩:=I.list hx
 have MU:=r.length
 refine ⟨"list",_,slot_list_getitem.lookup,ht.isList.typeIs,?_⟩
 refine wpAny_getItem_list_slice ht.isList hs pl pu .none (by simp) ?_ (by rw [List.size_toArray]<;>omega)
 rw [xG,<- MU]
 refine ⟨.ref s.heap.objs.size,_,I.laid (t':=s.toks) (o:=.lst (fT xs lo hi)) (λb ob q=>Heap.get?_push_of_some _ q) (Nat.le_refl _) ?_,rfl,q _ (I.hok.fresh (Nat.le_refl _))⟩
 exact ⟨Nat.le_trans (yj xs lo hi) hz,_,0,(r.drop (HT.sIx xs.length 0 lo)).take (HT.sIx xs.length xs.length hi - HT.sIx xs.length 0 lo),Heap.get?_push_size _ rfl⟩
noncomputable def cT:V->Bool
 |.non=>true
 |.bl _=>true
 |.int _=>true
 |.str _=>true
 |_=>false
noncomputable def eqV:V->V->Bool
 |.non,.non=>true
 |.bl a,.bl b=>a==b
 |.bl a,.int b=>(if a then 1 else 0)==b
 |.int a,.bl b=>a==(if b then 1 else 0)
 |.int a,.int b=>a==b
 |.str a,.str b=>a==b
 |_,_=>false
theorem EW {A:Around}{s:Shared}{y x:V}{u v:Value}(ry:au y u) (rx:au x v) (fy:cT y=true) (fx:cT x=true):SeqAt.EqAt A s u v (eqV y x):=by
 cases y with
 |non =>
  cases ry
  cases x with
  |non=>cases rx;exact SeqAt.EqAt.same _
  |bl b=>cases rx;exact SeqAt.EqAt.none_bool b
  |int b=>obtain ⟨t,rfl⟩:=rx;exact SeqAt.EqAt.none_int b t
  |str b=>obtain ⟨t,rfl⟩:=rx;exact SeqAt.EqAt.none_str b t
  |_=>exact absurd (show false=true from fx) Bool.false_ne_true
 |bl a =>
  cases ry
  cases x with
  |non=>cases rx;exact SeqAt.EqAt.bool_none a
  |bl b=>cases rx;exact SeqAt.EqAt.bool_bool a b
  |int b=>obtain ⟨t,rfl⟩:=rx;exact SeqAt.EqAt.bool_int a b t
  |str b=>obtain ⟨t,rfl⟩:=rx;exact SeqAt.EqAt.bool_str a b t
  |_=>exact absurd (show false=true from fx) Bool.false_ne_true
 |int a =>
  obtain ⟨t',rfl⟩:=ry
  cases x with
  |non=>cases rx;exact SeqAt.EqAt.int_none a t'
  |bl b=>cases rx;exact SeqAt.EqAt.int_bool a t' b
  |int b=>obtain ⟨t,rfl⟩:=rx;exact SeqAt.EqAt.int_int a t' b t
  |str b=>obtain ⟨t,rfl⟩:=rx;exact SeqAt.EqAt.int_str a t' b t
  |_=>exact absurd (show false=true from fx) Bool.false_ne_true
 |str a =>
  obtain ⟨t',rfl⟩:=ry
  cases x with
  |non=>cases rx;exact SeqAt.EqAt.str_none a t'
  |bl b=>cases rx;exact SeqAt.EqAt.str_bool a t' b
  |int b=>obtain ⟨t,rfl⟩:=rx;exact SeqAt.EqAt.str_int a t' b t
  |str b=>obtain ⟨t,rfl⟩:=rx;exact SeqAt.EqAt.str_str a t' b t
  |_=>exact absurd (show false=true from fx) Bool.false_ne_true
 |_=>exact absurd (show false=true from fy) Bool.false_ne_true
noncomputable def eqU (x:V) (u:Value):Bool:=match u with
 |.none=>eqV .non x
 |.bool b=>eqV (.bl b) x
 |.int i _=>eqV (.int i) x
 |.str z _=>eqV (.str z) x
 |_=>false
theorem tq {x y:V}{u:Value}(r:au y u) (f:cT y=true):eqU x u=eqV y x:=by
 cases y with
 |non=>cases r;rfl
 |bl b=>cases r;rfl
 |int i=>obtain ⟨t,rfl⟩:=r;rfl
 |str z=>obtain ⟨t,rfl⟩:=r;rfl
 |_=>exact absurd (show false=true from f) Bool.false_ne_true
theorem gA {x:V}:∀ {xs:List V}{us:List Value},am xs us->xs.all cT=true->us.any (eqU x)=xs.any λy=>eqV y x
 |_,_,.nil,_=>rfl
 |y::xs,u::us,.cons r t,f=>by
  rw [List.all_cons,Bool.and_eq_true] at f
  rw [List.any_cons,List.any_cons,tq r f.1,gA t f.2]
theorem gi {A:Around}{s:Shared}{x:V}{v:Value}(rx:au x v) (fx:cT x=true):∀ {xs:List V}{us:List Value},am xs us->xs.all cT=true->∀ u∈us,SeqAt.EqAt A s u v (eqU x u)
 |_,_,.nil,_=>λu hu=>by cases hu
 |y::xs,u::us,.cons r t,f=>λu' hu=>by
  rw [List.all_cons,Bool.and_eq_true] at f
  rcases List.mem_cons.mp hu with rfl|hu
  ·rw [tq r f.1];exact EW r rx f.1 fx
  ·exact gi rx fx t f.2 u' hu
def inV (x:V) (xs:List V):Bool:=xs.any λy=>eqV y x
def rIn (K:PySem.W.Frag) (neg:Bool):R2:=λx y H Q=>∃ p xs,y=.ref p/\(SqL K H p xs\/SqT K H p xs)/\cT x=true/\xs.all cT=true/\Q (.bl (if neg then !inV x xs else inV x xs)) H
theorem qr:OpR X (compareOp .In) (rIn X.K false):=by
 intro pins s U H x y v u Q I rx ry h
 obtain ⟨p,xs,rfl,hq,fx,fs,q⟩:=h
 cases ry
 rcases hq with hq|hq
 ·obtain ⟨its,r,pl,hz⟩:=I.list hq
  refine SeqAt.in_listAt (eqU x) pl.isList (λw hw=>gi rx fx r fs w (by simpa using hw)) ⟨.bl _,H,I,rfl,?_⟩
  rw [show its.toArray.any (eqU x)=its.any (eqU x) by simp,gA r fs]
  exact q
 ·obtain ⟨its,r,pl,hz⟩:=I.tuple hq
  refine SeqAt.in_tupleAt (eqU x) pl (λw hw=>gi rx fx r fs w (by simpa using hw)) ⟨.bl _,H,I,rfl,?_⟩
  rw [show its.toArray.any (eqU x)=its.any (eqU x) by simp,gA r fs]
  exact q
theorem pS:OpR X (compareOp .NotIn) (rIn X.K true):=by
 intro pins s U H x y v u Q I rx ry h
 obtain ⟨p,xs,rfl,hq,fx,fs,q⟩:=h
 cases ry
 rcases hq with hq|hq
 ·obtain ⟨its,r,pl,hz⟩:=I.list hq
  refine SeqAt.notIn_listAt (eqU x) pl.isList (λw hw=>gi rx fx r fs w (by simpa using hw)) ⟨.bl _,H,I,rfl,?_⟩
  rw [show its.toArray.any (eqU x)=its.any (eqU x) by simp,gA r fs]
  exact q
 ·obtain ⟨its,r,pl,hz⟩:=I.tuple hq
  refine SeqAt.notIn_tupleAt (eqU x) pl (λw hw=>gi rx fx r fs w (by simpa using hw)) ⟨.bl _,H,I,rfl,?_⟩
  rw [show its.toArray.any (eqU x)=its.any (eqU x) by simp,gA r fs]
  exact q
theorem pT:a8 X (.builtin "len") (λxs H Q=>∃ p ys,xs=[.ref p]/\(SqL X.K H p ys\/SqT X.K H p ys)/\Q (.int ys.length) H):=by
 intro pins s U H xs us Q I r h
 obtain ⟨p,ys,rfl,hq,q⟩:=h
 obtain ⟨u,rfl,rx⟩:=bW r
 cases rx
 have hn:=d6
 rcases hq with hq|hq
 ·obtain ⟨its,r',pl,hz⟩:=I.list hq
  have MU:=r'.length
  exact Calls.call_len_list pl.isList (by simp only [List.size_toArray]<;>omega) ⟨.int ys.length,H,I.tok _,⟨s.toks+1,by rw [List.size_toArray,MU]⟩,q⟩
 ·obtain ⟨its,r',pl,hz⟩:=I.tuple hq
  have MU:=r'.length
  exact len_tuple pl (by simp only [List.size_toArray]<;>omega) ⟨.int ys.length,H,I.tok _,⟨s.toks+1,by rw [List.size_toArray,MU]⟩,q⟩
theorem xW:a8 X (.builtin "len") (λxs H Q=>∃ z,xs=[.str z]/\z.length<=sizeLine/\Q (.int z.length) H):=by
 intro pins s U H xs us Q I r h
 obtain ⟨z,rfl,hz,q⟩:=h
 obtain ⟨u,rfl,t,rfl⟩:=bW r
 have hn:=d6
 exact len_str (by omega) ⟨.int z.length,H,I.tok _,⟨_,rfl⟩,q⟩
theorem pU:a8 X (.type "list") (λxs H Q=>∃ p ys,xs=[.ref p]/\(SqL X.K H p ys\/SqT X.K H p ys)/\∀ l,H l=none->Q (.ref l) (upd H l (.lst ys))):=by
 intro pins s U H xs us Q I r h
 obtain ⟨p,ys,rfl,hq,q⟩:=h
 obtain ⟨u,rfl,rx⟩:=bW r
 cases rx
 have fin:∀ (its:List Value),am ys its->ys.length<=sizeLine->∀ (h':Heap) (c':Nat),(∀ b o',s.heap.get? b=some o'->h'.get? b=some o') ->
   h'.get? s.heap.objs.size=some { cls:=.type "list",dict:=none,data:=.seq its.toArray c',slots:=#[] }->EP X pins U Q (.ref s.heap.objs.size) { s with heap:=h' }:=λits r' hz h' c' kp e =>
  ⟨.ref s.heap.objs.size,_,I.laid (t':=s.toks) kp (Nat.le_refl _) (show aP X.prog X.w _ h' _ (.lst ys) from ⟨hz,its,c',r',e⟩),rfl,q _ (I.hok.fresh (Nat.le_refl _))⟩
 rcases hq with hq|hq
 ·obtain ⟨its,r',pl,hz⟩:=I.list hq
  have MU:=r'.length
  obtain ⟨o,ho,hc,n,hd⟩:=pl.isList
  exact call_list_seq p (.inl rfl) ho hc hd (λh' c' kp e=>fin its r' hz h' c' kp e) (by simp only [List.size_toArray]<;>omega)
 ·obtain ⟨its,r',pl,hz⟩:=I.tuple hq
  have MU:=r'.length
  obtain ⟨o,ho,hc,n,hd⟩:=pl
  exact call_list_seq p (.inr rfl) ho hc hd (λh' c' kp e=>fin its r' hz h' c' kp e) (by simp only [List.size_toArray]<;>omega)
def tyV (K:PySem.W.Frag) (T:String) (x:V) (H:Hp):Prop:=match x with
 |.str _=>T="str"
 |.int _=>T="int"
 |.ref p=>(T="list" /\ ∃ xs,SqL K H p xs)\/(T="tuple" /\ ∃ o,K.lookup p=some o/\o.cls=.type "tuple" /\ o.dict=none) \/
   (T="dict" /\ ((∃ kvs,H p=some (.dK kvs))\/∃ kvs,H p=some (.dT kvs)))\/(T="set" /\ ∃ S n,H p=some (.set S n))
 |_=>False
theorem tw {pins:List (Addr×Obj)}{U:St}{H:Hp}{s:Shared}{T:String}{x:V}{v:Value}(I:Inv X pins U H s) (r:au x v) (ty:tyV X.K T x H) :
  s.TypeIs v T/\∀ a,v=.ref a->∃ ob,s.heap.get? a=some ob/\ob.dict=none:=by
 cases x with
 |str z =>
  obtain ⟨t,rfl⟩:=r
  cases (show T="str" from ty)
  exact ⟨typeIs_str s z t,λ_ e=>nomatch e⟩
 |int i =>
  obtain ⟨t,rfl⟩:=r
  cases (show T="int" from ty)
  exact ⟨typeIs_int s i t,λ_ e=>nomatch e⟩
 |ref p =>
  cases r
  rcases ty with ⟨rfl,xs,hq⟩|⟨rfl,o,hk,hc,hd⟩|⟨rfl,hk⟩|⟨rfl,S,n,hk⟩
  ·obtain ⟨its,_,pl,_⟩:=I.list hq
   refine ⟨pl.isList.typeIs,λa e=>?_⟩
   cases e
   obtain ⟨o,n,e,c,hd,_⟩:=pl
   exact ⟨o,e,hd⟩
  ·refine ⟨⟨o,I.kIn p o hk,hc⟩,λa e=>?_⟩
   cases e
   exact ⟨o,I.kIn _ o hk,hd⟩
  ·have z:∃ o,s.heap.get? p=some o/\o.ExactDict:=by
    rcases hk with ⟨kvs,hk⟩|⟨kvs,hk⟩
    ·obtain ⟨_,_,_,_,o,_,_,e,ex,_⟩:=I.hok p _ hk
     exact ⟨o,e,ex⟩
    ·obtain ⟨_,_,_,_,o,_,_,e,ex,_⟩:=I.hok p _ hk
     exact ⟨o,e,ex⟩
   obtain ⟨o,e,ex⟩:=z
   refine ⟨⟨o,e,ex.1⟩,λa e2=>?_⟩
   cases e2
   exact ⟨o,e,ex.2.1⟩
  ·obtain ⟨o,_,_,_,e,ex,_⟩:=I.hok p _ hk
   refine ⟨⟨o,e,ex.1⟩,λa e2=>?_⟩
   cases e2
   exact ⟨o,e,ex.2.1⟩
 |_=>exact False.elim ty
def KW (K:PySem.W.Frag) (T:String) (r:V->List V->Hp->VK->Prop) (to:TE):TE:=λU H Q=>to U H λx H1=>tyV K T x H1/\r x [] H1 Q
def tBM (K:PySem.W.Frag) (T:String) (r:V->List V->Hp->VK->Prop) (to:TE) (t:TA):TE:=λU H Q=>to U H λx H1=>tyV K T x H1/\t U H1 λxs H2=>r x xs H2 Q
variable {o e:Expr}{es:List Expr}{to:TE}{t:TA}{name:Str}{apos cpos:Pos}{T id:String}{r:V->List V->Hp->VK->Prop}
theorem EX (pa:PlainAttrs T) (slot:Slot T name id) (Rr:typeOf (.builtin id)=pure (.type "method_descriptor")) (hm:MtR X id r) (ho:PE X o to)
  (NM:attributeBase o name X.env (eval o X.env)=eval o X.env:=by rfl) (N5:(apos.endLine==cpos.line)=true:=by rfl):PE X (.Call (.Attribute o name apos) [] [] cpos) (KW X.K T r to):=by
 intro pins s U H Q I h
 refine wpAny_Call_method0_late NM N5 (thn (ho pins s U H _ I h) λv s1 zz41=>?_)
 obtain ⟨x,H1,I1,r1,ty,q1⟩:=zz41
 obtain ⟨h1,h2⟩:=tw I1 r1 ty
 exact ⟨T,id,pa,slot,Rr,h1,h2,Calls.callWith_builtin rfl (PySem.evalArgs_none (hm pins s1 U H1 x [] v [] Q I1 r1 .nil q1))⟩
theorem Ij (pa:PlainAttrs T) (slot:Slot T name id) (Rr:typeOf (.builtin id)=pure (.type "method_descriptor")) (hm:MtR X id r) (ho:PE X o to) (ha:PA X (e::es) t)
  (NM:attributeBase o name X.env (eval o X.env)=eval o X.env:=by rfl)
  (Tt:((backTo cpos (starEach (e::es) X.env)).all (λx=>!x.1)&&(backToKw cpos (keywordEach [] X.env)).all (λx=>x.1.isSome)
   && decide ((e::es).length+([]:List Keyword).length+(if ([]:List Keyword).isEmpty then 0 else 1)<30))=true:=by rfl)
  (N5:(apos.endLine==cpos.line)=true:=by rfl) (hs:starEach (e::es) X.env=(false,eval e X.env)::starEach es X.env:=by rfl) (NY:(backTo cpos (starEach es X.env)).any (·.1)=false:=by rfl) :
  PE X (.Call (.Attribute o name apos) (e::es) [] cpos) (tBM X.K T r to t):=by
 intro pins s U H Q I h
 refine wpAny_Call_method_late NM Tt N5 rfl (thn (ho pins s U H _ I h) λv s1 zz42=>?_)
 obtain ⟨x,H1,I1,r1,ty,q1⟩:=zz42
 obtain ⟨h1,h2⟩:=tw I1 r1 ty
 refine ⟨T,id,pa,slot,Rr,h1,h2,?_⟩
 have hA:=ha cpos pins s1 U H1 _ I1 q1
 rw [hs] at hA ⊢
 refine Calls.callWith_builtin (by show (false || (backTo cpos (starEach es X.env)).any (·.1))=false;rw [NY]<;>rfl) (Calls.evalArgs_plain ?_)
 exact thn hA λus s2 zz43=>by obtain ⟨vs,H2,I2,r2,q2⟩:=zz43;exact hm pins s2 U H2 x vs v us Q I2 r1 r2 q2
end
def MtM (X:Cx) (id:String) (r:V->List V->Hp->VK->Prop):Prop :=
 ∀ (pins:List (Addr×Obj)) (s:Shared) (U:St) (H:Hp) (x:V) (xs:List V) (v:Value) (us:List Value) (Q:VK),Inv X pins U H s->au x v->am xs us->r x xs H Q ->
  wpAny (model X.prog X.w) X.A (call (.builtin id) (v::us)) (EP X pins U Q) X.xe s
theorem am.one:∀ {x:V}{us:List Value},am [x] us->∃ u,us=[u]/\au x u
 |_,_,.cons r .nil=>⟨_,rfl,r⟩
theorem am.rep {xs:List V}{us:List Value}(h:am xs us):∀ k:Nat,am (List.replicate k xs).flatten (List.replicate k us).flatten
 |0=>.nil
 |k+1=>by
  rw [List.replicate_succ,List.replicate_succ,List.flatten_cons,List.flatten_cons]
  exact am.append h (am.rep h k)
theorem qt (its:List Value):∀ (k:Nat) (LU:List Value),
  List.foldl (λx1 x2=>x1++x2) LU.toArray (List.replicate k its.toArray)=(LU++(List.replicate k its).flatten).toArray
 |0,LU=>by simp
 |k+1,LU=>by
  have e:LU.toArray++its.toArray=(LU++its).toArray:=by simp
  have e2:(LU++its)++(List.replicate k its).flatten=LU++(List.replicate (k+1) its).flatten:=by
   rw [List.replicate_succ,List.flatten_cons,List.append_assoc]
  rw [<- e2,<- qt its k (LU++its),<- e,List.replicate_succ,List.foldl_cons]
section
variable {X:Cx}{pins:List (Addr×Obj)}{U:St}{H:Hp}{s:Shared}{l b:Addr}{xs ys zs:List V}
theorem Inv.lset {its its':List Value}{n:Nat}{f:Array Value->Array Value}{t':Nat}(I:Inv X pins U H s) (hH:H l=some (.lst xs))
  (e:s.heap.get? l=some { cls:=.type "list",data:=.seq its.toArray n }) (hf:f its.toArray=its'.toArray) (hv:am ys its') (hz:ys.length<=sizeLine) :
  Inv X pins U (upd H l (.lst ys)) { s with heap:=s.heap.update l (Obj.mapSeq f),toks:=t' }:=by
 have q:=PySem.IsL.update e f
 rw [hf] at q
 refine I.write (x:=l) (e:=l) (by rw [hH];exact trivial) (.inl rfl) (λb' u hb hu=>(Heap.get?_update_other s.heap (Obj.mapSeq f) (Ne.symm hb)).trans hu) ⟨_,q⟩ ?_
 exact ⟨hz,its',_,hv,q⟩
theorem Inv.lnew {its:List Value}{t':Nat}(I:Inv X pins U H s) (hv:am ys its) (hz:ys.length<=sizeLine) :
  Inv X pins U (upd H s.heap.objs.size (.lst ys)) { s with heap:=s.heap.push { cls:=.type "list",data:=.seq its.toArray },toks:=t' } :=
 I.laid (λ_ _ q=>Heap.get?_push_of_some _ q) (Nat.le_refl _) ⟨hz,its,0,hv,Heap.get?_push_size _ rfl⟩
theorem Inv.fresh (I:Inv X pins U H s):H s.heap.objs.size=none:=I.hok.fresh (Nat.le_refl _)
theorem Inv.lstM (I:Inv X pins U H s) (hH:H l=some (.lst xs)):xs.length<=sizeLine/\∃ (its:List Value) (n:Nat),am xs its/\xs.length=its.length/\s.heap.get? l=some { cls:=.type "list",data:=.seq its.toArray n }:=by
 obtain ⟨z,its,n,r,e⟩:=I.hok l _ hH
 exact ⟨z,its,n,r,r.length,e⟩
theorem Aw {n:Nat}(h:n<=sizeLine):Builtin.List.listTooLong n=false:=by
 unfold Builtin.List.listTooLong
 exact decide_eq_false (by omega)
end
section
variable {X:Cx}
def Cc:V->List V->Hp->VK->Prop:=λx vs H Q=>∃ l xs y,x=.ref l/\vs=[y]/\H l=some (.lst xs)/\xs.length<sizeLine/\Q .non (upd H l (.lst (xs++[y])))
theorem qv:MtM X "list.append" Cc:=by
 intro pins s U H x vs v us Q I rx rv h
 obtain ⟨l,xs,y,rfl,rfl,hH,hz,q⟩:=h
 cases rx
 obtain ⟨u,rfl,ru⟩:=rv.one
 obtain ⟨z,its,n,r,hl,e⟩:=I.lstM hH
 refine call_meets F.slot_list_append ⟨_,e,rfl⟩ F.entry_list_append (F.args_list_append_2 _ _) (PySem.list_append l its.toArray n u (by rw [List.size_toArray];omega)) ⟨e,?_⟩
 refine ⟨.non,_,I.lset (its':=its++[u]) hH e (by simp) (r.append (.cons ru .nil)) ?_,rfl,q⟩
 rw [List.length_append,List.length_singleton]
 omega
def KY:R2:=λx y H Q=>∃ l b xs zs,x=.ref l/\y=.ref b/\H l=some (.lst xs)/\H b=some (.lst zs)/\xs.length+zs.length<=sizeLine/\∀ p,H p=none->Q (.ref p) (upd H p (.lst (xs++zs)))
theorem EY:OpR X (binaryOp .Add) KY:=by
 intro pins s U H x y v u Q I rx ry h
 obtain ⟨l,b,xs,zs,rfl,rfl,hH,hB,hz,q⟩:=h
 cases rx
 cases ry
 obtain ⟨z,its,n,r,hl,e⟩:=I.lstM hH
 obtain ⟨z2,Ts,n2,r2,hl2,e2⟩:=I.lstM hB
 refine PySem.P.add_list e e2 ?_ (by rw [List.size_toArray,List.size_toArray];omega)
 have ea:its.toArray++Ts.toArray=(its++Ts).toArray:=by simp
 rw [ea]
 exact ⟨.ref _,_,I.lnew (t':=s.toks) (r.append r2) (by rw [List.length_append];omega),rfl,q _ I.fresh⟩
def KZ:R2:=λx y H Q=>∃ l k xs,x=.ref l/\y=.int k/\H l=some (.lst xs) /\ -(2 ^ 63)<=k/\k<2 ^ 63/\xs.length * k.toNat<=sizeLine /\
 ∀ p,H p=none->Q (.ref p) (upd H p (.lst (List.replicate k.toNat xs).flatten))
theorem Cd {α:Type}(xs:List α) (k:Nat):(List.replicate k xs).flatten.length=k * xs.length:=by
 induction k with
 |zero=>simp
 |succ k ih=>rw [List.replicate_succ,List.flatten_cons,List.length_append,ih,Nat.succ_mul,Nat.add_comm]
theorem EZ:OpR X (binaryOp .Mult) KZ:=by
 intro pins s U H x y v u Q I rx ry h
 obtain ⟨l,k,xs,rfl,rfl,hH,h1,h2,hz,q⟩:=h
 cases rx
 obtain ⟨t,rfl⟩:=ry
 obtain ⟨z,its,n,r,hl,e⟩:=I.lstM hH
 have MU:its.toArray.size * k.toNat<=sizeLine:=by rw [List.size_toArray,<- hl];exact hz
 have hcap:¬ its.toArray.size * k.toNat>(2 ^ 63 - 1) / 8:=by
  have:(sizeLine:Nat)<=(2 ^ 63 - 1) / 8:=by decide
  omega
 have hfit:¬ (!Builtin.List.listFitsIndex k)=true:=by
  rw [fitsIndex_both h1 h2]
  exact Bool.false_ne_true
 have hlong:¬ Builtin.List.listTooLong (its.toArray.size * k.toNat)=true:=by
  rw [Aw MU]
  exact Bool.false_ne_true
 have hnew:List.foldl (λx1 x2=>x1++x2) #[] (List.replicate (if its.toArray.isEmpty=true then 0 else k.toNat) its.toArray)=(List.replicate k.toNat its).flatten.toArray:=by
  have f0:∀ m:Nat,List.foldl (λx1 x2=>x1++x2) #[] (List.replicate m its.toArray)=(List.replicate m its).flatten.toArray:=λm=>by
   have:=qt its m []
   rw [List.nil_append] at this
   exact this
  rw [f0]
  cases its with
  |nil=>simp
  |cons a r'=>rw [if_neg (by simp)]
 refine wpAny_binaryOp_repeat_ref (T:="list") (U:="int") (by decide) ⟨_,e,rfl⟩ (λs'=>typeIs_int s' k t) noFill_list_mul F.fills_int_mul F.slot_int_rmul repeat_list F.slot_int_index.lookup
  (call_meets F.slot_int_rmul (typeIs_int s k t) F.entry_int_rmul (F.args_int_rmul_2 _ _) (int___rmul___int_list k t l its.toArray n)
   ⟨e,rfl,⟨_,e,rfl⟩,call_meets F.slot_list_mul ⟨_,e,rfl⟩ F.entry_list_mul (F.args_list_mul_2 _ _) (AutoListH.list___mul___list_int_3 l its.toArray n k t hfit hcap hlong) ⟨e,?_⟩⟩)
 rw [hnew]
 exact ⟨.ref _,_,I.lnew (t':=s.toks) (r.rep k.toNat) (by rw [Cd,Nat.mul_comm];exact hz),rfl,q _ I.fresh⟩
end
section
variable {prog:Program}{w:World}{A:Around}{E:Value->Shared->Prop}{s:Shared}
end
section
variable {X:Cx}
end
end L2
namespace Att
open PySem PySem.W PySem.Calls PyProof.Rows
theorem xq {P:Params}{h:Heap}:∀ (ns:List Int) (vs:List Value),WellAll P h vs (ns.map WData.int)->IntsAre vs ns:=by
 intro ns
 induction ns with
 |nil =>
  intro vs w
  rw [List.map_nil] at w
  cases w
  exact .nil
 |cons n ns ih =>
  intro vs w
  rw [List.map_cons] at w
  cases w with
  |cons a b =>
   cases a
   exact .cons _ _ (ih _ b)
theorem zm {l:OpenLaw}{n:Nat}(hn:l.most=some n){P:Params}{h:Heap}{args:List WData}{vals:List Value}
  (SA:l.row.toRowW.claim.pre args=true) (hwl:WellAll P h vals args) :
  ∃ a vs ns,vals=[Value.ref a]/\args=[WData.list (ns.map WData.int)]/\h.get? a=some { cls:=.type "list",data:=.seq vs.toArray }/\IntsAre vs ns/\ns.length<=n:=by
 have hsh:WShape.hasAll [] args [.list .int]=true:=(pre_splitW SA).1
 have hc:l.pre.holds [] { args:=args }=true:=(pre_splitW SA).2
 obtain ⟨d,r,rfl,h1,h2⟩:=hasAllW_cons hsh
 obtain rfl:=hasAllW_nil h2
 obtain ⟨xs,rfl,h3⟩:=hasW_list h1
 obtain ⟨ns,rfl⟩:=items_int h3
 have MU:ns.length<=n:=by
  unfold OpenLaw.pre at hc
  have h4:(WTm.not (.lt (.lit (.int (n:Int))) (.len (.arg 0)))).holds [] { args:=[.list (ns.map .int)] }=true:=by
   have h4:=(holds_andW hc).1
   rw [hn] at h4
   exact h4
  have h5:=condW_of h4 (w_not (w_lt w_lit (w_len_list (w_arg rfl))))
  rw [List.length_map] at h5
  refine Nat.le_of_not_lt λq=>?_
  have q':(n:Int)<((ns.length:Nat):Int):=by omega
  first
   |(rw [decide_eq_true q'] at h5;exact absurd h5 (by decide))
   |(simp at h5;omega)
 cases hwl with
 |cons w1 w2 =>
  cases w2
  cases w1 with
  |list ho Ry=>exact ⟨_,_,ns,rfl,rfl,ho,xq ns _ Ry,MU⟩
theorem zn (l:OpenLaw) (args:List WData):l.row.toRowW.claim.post args (.bool true) args=true :=
 postW_of (r:=l.row.toRowW) (X:=(true==true))
  (show WShape.has [] (.bool true) .bool=true by first|rfl|decide|simp [WShape.has,WShape.arms,WShape.armsAll])
  (show (WTm.eq .res (.lit (.bool true))).value [] { args:=args,res:=some (.bool true),after:=args }=some (.bool (true==true)) from w_eq_bool (w_res rfl) w_lit) rfl
theorem attach_call {l:OpenLaw}{n:Nat}{q:Program}{loose:List Str}{XP:(Str->Option Value)->Heap->Prop}{YP:World->Heap->Prop}{d:DefRec}
  (hn:l.most=some n) (hdf:d.params.defaults=[])
  (call:∀ (w:World) (s₀ L6:Shared) (mg mb:Str->Option Value) (fa:Addr) (o:Obj) (pm cd doc:Value) (a:Addr) (vs:List Value) (ns:List Int),
   Ground q loose [] XP w s₀ mg mb L6.heap->YP w L6.heap ->
   L6.heap.get? fa=some o->o.data=.func (docDef d.name d.params d.body d.scope pm cd doc)->L6.heap.CodeRec cd d.name->mg d.name=some (.ref fa) ->
   L6.heap.get? a=some { cls:=.type "list",data:=.seq vs.toArray }->IntsAre vs ns->ns.length<=n->L6.gens=#[] ->
   codeAny (model l.prog w) callerA (.call (.ref fa) ⟨[.ref a],[]⟩) (λr s'=>r=.ok (.ret (.bool true))/\OldK L6.heap s'.heap/\s'.os=L6.os/\AllBare s'.gens) L6) :
  WalkO q loose XP YP l.row.toRowW d [] (λf vs=>PySem.call f vs):=by
 intro w s₀ L6 mg mb G Y fa o pm cd doc dV kV ho hd Qm hD hmg hg args vals as SA hlay hrd hwl Sq
 obtain rfl:dV=.none:=Dflts.none hD hdf
 obtain rfl:kV=.none:=Dflts.noKw hD
 obtain ⟨a,vs,ns,rfl,rfl,Tu,hints,MU⟩:=zm hn SA hwl
 refine enter_call (codeAny_mono (call w s₀ L6 mg mb fa o pm cd doc a vs ns G Y ho (fd_plain hd) Qm hmg Tu hints MU hg) λr s' hq=>?_)
 obtain ⟨rfl,h2,h3,h4⟩:=hq
 exact ⟨.inl ⟨.bool true,.bool true,[],rfl,λ_=>rfl,.bool true,zn l _,λ_=>⟨List.Pairwise.nil,λ_ hm=>(nomatch hm)⟩⟩,h2,h3,h4⟩
section
variable {prog:Program}{w:World}{A:Around}{E:Value->Shared->Prop}{s:Shared}{K:Frag}
end
end Att
namespace L2
open PySem PySem.Spec PyProof.Rows
theorem qw:∀ {vs:List Value}{ns:List Int},IntsAre vs ns->am (ns.map V.int) vs
 |_,_,.nil=>.nil
 |_,_,.cons n t h=>.cons ⟨t,rfl⟩ (qw h)
def jT (H:Hp):Prop:=∀ b,H b=none\/∃ o xs,H b=some (.frz o (.lst xs))
theorem Ax {P:Program}{w:World}{K:PySem.W.Frag}{mg mb:Str->Option Value}{CX:CXT}{k:Nat}{fa a:Addr}{fd:FuncData}{x:Str}{sp:Sp}{L6:Shared}{vs:List Value}{ns:List Int}
  (KX:K.In L6.heap) (SB:L6.heap.Ns mainGlobals mg) (hb:L6.heap.Ns builtinsNs mb) (hbb:∀ x:Str,x ≠ "__name__"->mb x=bootBuiltins x) (hlim:L6.heap.NoLimit) (hg:L6.gens=#[])
  (ha:L6.heap.get? a=some { cls:=.type "list",data:=.seq vs.toArray }) (hi:IntsAre vs ns) (hl:ns.length<=sizeLine) (hr:Room k callerA)
  (F:∀ base:Heap,K.In base->base.Ns mainGlobals mg->FnOk P w K mg base CX k fa fd [x] sp) (hbind:∀ (s:Shared) (u:Value),BindsTo s fd ⟨[u],[]⟩ [(x,u)])
  (So:∀ H:Hp,jT H->SqL K H a (ns.map V.int)->sp [.ref a] H (λv _=>v=.bl true) λ_ _ _=>False)
  (hCX:∀ H e s',CX [] H L6 (λ_ _ _=>False) e s'->False) :
  codeAny (model P w) callerA (.call (.ref fa) ⟨[.ref a],[]⟩) (λr s'=>r=.ok (.ret (.bool true))/\OldK L6.heap s'.heap/\s'.os=L6.os/\AllBare s'.gens) L6:=by
 have rv:=qw hi
 have lenV:=hi.length
 -- from an abstract heap in which nothing but the script may be tracked
 have core:∀ H:Hp,jT H->SqL K H a (ns.map V.int)->HOk P w H L6.heap->(∀ b,H b≠none->b=a)->(H a≠none->K.lookup a=none) ->
   codeAny (model P w) callerA (.call (.ref fa) ⟨[.ref a],[]⟩) (λr s'=>r=.ok (.ret (.bool true))/\OldK L6.heap s'.heap/\s'.os=L6.os/\AllBare s'.gens) L6:=by
  intro H hO hS hok hA hK
  have base_of:∀ {b:Addr}{o:Obj},L6.heap.get? b=some o->H b=none->(dm L6.heap H).get? b=some o:=λe n=>Ah e n
  have noA:∀ {b:Addr}{o:Obj}{es:Array DictEntry}{ep:Nat},L6.heap.get? b=some o->o.data=.dict es ep->H b=none:=fun {b o es ep} e d=>by
   cases q:H b with
   |none=>rfl
   |some u =>
    have e':b=a:=hA b (by rw [q];simp)
    subst e'
    rw [ha] at e;cases e
    have d':Data.seq vs.toArray _=Data.dict es ep:=d
    cases d'
  have nsK:∀ {b:Addr}{m:Str->Option Value},L6.heap.Ns b m->(dm L6.heap H).Ns b m:=fun {b m} ⟨o,es,ep,e,d,r⟩=>⟨o,es,ep,base_of e (noA e d),d,r⟩
  have hKb:K.In (dm L6.heap H):=λb o e=>base_of (KX b o e) (by
   cases q:H b with
   |none=>rfl
   |some u =>
    have e':b=a:=hA b (by rw [q];simp)
    subst e'
    rw [hK (by rw [q];simp)] at e;cases e)
  have hM:Mod K mg (dm L6.heap H):=⟨hKb,nsK SB,⟨mb,nsK hb,hbb⟩,let ⟨mc,h1,h2⟩:=hlim;⟨mc,nsK h1,h2⟩⟩
  have e0:Env0 P w K mg (dm L6.heap H) callerA [] L6 H:=⟨rfl,hM,λb o e=>BM e,Nat.le_of_eq (y6 _ _),trivial,λb hb=>absurd (show b∈([]:List Addr) from hb) (by simp),hok,.of_eq hg⟩
  refine codeAny_mono ((F _ hKb (nsK SB)).run callerA [] L6 H ⟨[.ref a],[]⟩ [.ref a] [.ref a] _ _ hr e0 (hbind L6 (.ref a)) (.cons rfl .nil) (So H hO hS)) λr s' h=>?_
  cases r with
  |error e=>exact (hCX H e s' h).elim
  |ok fl =>
   cases fl with
   |next=>exact False.elim h
   |brk=>exact False.elim h
   |cont=>exact False.elim h
   |ret u =>
    obtain ⟨v,H',os,bare,un,hok',r',q⟩:=h
    have q':v=.bl true:=q
    subst q'
    obtain rfl:u=Value.bool true:=r'
    refine ⟨rfl,OldK.of_keep λb o e=>?_,os,bare⟩
    cases q:H b with
    |none=>exact un.keep b o e q (by intro z;exact absurd (show b∈([]:List Addr) from z) (by simp)) (by simp)
    |some u =>
     rcases hO b with z|⟨ob,xs,z⟩
     ·rw [q] at z;cases z
     ·have z2:=un.frzs b ob _ z
      obtain ⟨e1,_⟩:=hok b _ z
      obtain ⟨e2,_⟩:=hok' b _ z2
      rw [e] at e1;cases e1
      exact e2
 cases hk:K.lookup a with
 |some o =>
  -- the script is one of the module's own objects
  have e:=KX a o hk
  rw [ha] at e
  cases e
  refine core (λ_=>none) (λ_=>.inl rfl) (.inr ⟨_,vs.toArray,_,hk,rfl,rfl,rfl,by rw [List.size_toArray,lenV];exact hl,by simpa using rv⟩) (λb u z=>by have z':(none:Option HO)=some u:=z;cases z') (λb z=>absurd rfl z) λz=>absurd rfl z
 |none =>
  refine core (λb=>if b=a then some (.frz { cls:=.type "list",data:=.seq vs.toArray } (.lst (ns.map V.int))) else none) (λb=>?_) (.inl (.inr ⟨{ cls:=.type "list",data:=.seq vs.toArray },if_pos rfl⟩)) (λb u z=>?_) (λb z=>?_) λ_=>hk
  ·by_cases hb:b=a
   ·exact .inr ⟨_,_,if_pos hb⟩
   ·exact .inl (if_neg hb)
  ·by_cases hb:b=a
   ·have z':=(if_pos hb).symm.trans z
    cases z'
    subst hb
    exact ⟨ha,by rw [List.length_map];exact hl,vs,_,rv,ha⟩
   ·have z':=(if_neg hb).symm.trans z
    cases z'
  ·by_cases hb:b=a
   ·exact hb
   ·exact absurd (if_neg hb) z
theorem Ce {l:PySem.W.OpenLaw}{n k:Nat}{q:Program}{loose:List Str}{XP:(Str->Option Value)->Heap->Prop}{YP:World->Heap->Prop}{d:DefRec}{K:Params->PySem.W.Frag}{CX:World->CXT}{sp:World->Sp}{x:Str}
  (hn:l.most=some n) (Sn:n<=sizeLine) (hdf:d.params.defaults=[]) (hr:Room k callerA)
  (hY:∀ (w:World) (h:Heap),YP w h->(K w.params).In h)
  (F:∀ (w:World) (mg:Str->Option Value) (fa:Addr) (h:Heap),(K w.params).In h->h.Ns mainGlobals mg->mg d.name=some (.ref fa) ->
   ∃ fd:FuncData,(∀ (s:Shared) (u:Value),BindsTo s fd ⟨[u],[]⟩ [(x,u)]) /\
    ∀ base:Heap,(K w.params).In base->base.Ns mainGlobals mg->FnOk l.prog w (K w.params) mg base (CX w) k fa fd [x] (sp w))
  (So:∀ (w:World) (H:Hp) (a:Addr) (ns:List Int),ns.length<=n->jT H->SqL (K w.params) H a (ns.map V.int)->sp w [.ref a] H (λv _=>v=.bl true) λ_ _ _=>False)
  (hCX:∀ (w:World) (H:Hp) (s:Shared) (e:Value) (s':Shared),CX w [] H s (λ_ _ _=>False) e s'->False) :
  PySem.W.WalkO q loose XP YP l.row.toRowW d [] (λf vs=>PySem.call f vs):=by
 refine Att.attach_call hn hdf λw s₀ L6 mg mb fa o pm cd doc a vs ns G Y ho hd Qm hmg Tu hints MU hg=>?_
 have KX:=hY w _ Y
 obtain ⟨fd,hb,hF⟩:=F w mg fa _ KX G.T.g hmg
 exact Ax KX G.T.g G.T.b G.T.builtins G.T.nolimit hg Tu hints (Nat.le_trans MU Sn) hr hF hb (λH hO hS=>So w H a ns MU hO hS) λH e s'=>hCX w H L6 e s'
abbrev CX0:CXT:=λ_ _ _ _ _ _=>False
abbrev E0:XK:=λ_ _ _=>False
theorem fL {X:Cx}:dF CX0 X E0:=λ_ _ _ _ _ _ _ h=>h.elim
structure Fun (K:PySem.W.Frag) (x qual:Str) (st:Stmt) (f:Addr) (fd:FuncData):Prop where
 ex:∃ (oc:Value) (od:Option Addr) (kV doc pm:Value) (an:Option Addr) (cdv ct:Value) (osl:Array (Option Value)),
  fd=PySem.W.fnOf x qual (ck st) (bG st) (aq st) .none kV doc pm an cdv ct/\K.lookup f=some ⟨oc,od,.func fd,osl⟩/\PySem.W.codeIn K cdv qual=true
 kp:PySem.W.keepIn K (.ref f)=true
section
variable {P:Program}{w:World}{K:PySem.W.Frag}{mg:Str->Option Value}{base:Heap}
theorem Fun.ok {x qual:Str}{st:Stmt}{f:Addr}{fd:FuncData}{N ps:List Str}{k:Nat}{sp:Sp}(F:Fun K x qual st f fd) (S:FnScope N ps (aq st)) (len:∀ vs H Q E,sp vs H Q E->vs.length=ps.length)
  (NL:∀ (cdv:Value) (A:Around) (outer:List Env) (s:Shared) (H:Hp) (vs:List V) (Q:VK) (E:XK),Room k (A.deeper (envOfC qual (aq st) s.heap.objs.size f cdv))->sp vs H Q E ->
   ∃ t,PSs (cJ CX0 P w K mg base N qual (aq st) f cdv A outer s H E).nox (bG st) t/\t { nx:=λ_ H'=>Q .non H',rt:=Q } (bX N vs) H):FnOk P w K mg base CX0 (k+1) f fd ps sp:=by
 obtain ⟨oc,od,kV,doc,pm,an,cdv,ct,osl,rfl,lk,Qm⟩:=F.ex
 refine n0 lk Qm S len λA outer s H vs Q E hr So=>?_
 obtain ⟨t,h,q⟩:=NL cdv A outer s H vs Q E hr So
 exact ⟨t,h.nox,q⟩
theorem Fun.binds {x qual:Str}{st:Stmt}{f:Addr}{fd:FuncData}{ps:List Str}(F:Fun K x qual st f fd)
  (h:∀ (kV doc pm:Value) (an:Option Addr) (cdv ct:Value) (us:List Value),us.length=ps.length->bindArgs (PySem.W.fnOf x qual (ck st) (bG st) (aq st) .none kV doc pm an cdv ct) ⟨us,[]⟩=pure (ps.zip us)):ao K fd ps []:=by
 obtain ⟨oc,od,kV,doc,pm,an,cdv,ct,osl,rfl,lk,Qm⟩:=F.ex
 exact .all (h kV doc pm an cdv ct)
theorem tD {x qual:Str}{st:Stmt}{f:Addr}{oc:Value}{od an:Option Addr}{osl:Array (Option Value)}{kV doc pm cdv ct:Value}(l:K.lookup f=some ⟨oc,od,.func (PySem.W.fnOf x qual (ck st) (bG st) (aq st) .none kV doc pm an cdv ct),osl⟩)
  (c:PySem.W.codeIn K cdv qual=true) (k:PySem.W.keepIn K (.ref f)=true):Fun K x qual st f (PySem.W.fnOf x qual (ck st) (bG st) (aq st) .none kV doc pm an cdv ct):=⟨⟨oc,od,kV,doc,pm,an,cdv,ct,osl,rfl,l,c⟩,k⟩
end
theorem eg {A:Around}{k:Nat}(hr:Room k A):A.units+1<cLine:=Nat.lt_of_le_of_lt (Nat.add_le_add_left (by decide:1<=64) _) hr.units
section
variable {X:Cx}
end
def LN (H H':Hp):Prop:=∀ b o,H b=some o->H' b=some o
def E1:Expr->Bool
 |.Starred ..=>true
 |_=>false
theorem Cf {e:Expr}{es:List Expr}{env:Env}(h:E1 e=false):starEach (e::es) env=(false,eval e env)::starEach es env:=by
 cases e<;>first|rfl|cases h
section
variable {X:Cx}
theorem Ay:OpR X (binaryOp .FloorDiv) (rI (λ_ j=>0<j/\j<18446744073709551616) λi j=>.int (i / j)):=opI λi j _ _ _ _ _ hc q=>by
 have h1:(0:Int)<j:=hc.1
 have h2:j<18446744073709551616:=hc.2
 refine floordiv_int (by omega) (by rw [Int.fdiv_eq_ediv_of_nonneg i (by omega)];exact q) (.inl (PyProof.noPylong_of_log2 ?_))
 have h0:j.natAbs≠0:=by omega
 have h3:j.natAbs<2 ^ 64:=by
  have e:(2:Nat) ^ 64=18446744073709551616:=by decide
  omega
 have h4:j.natAbs.log2<64:=(Nat.log2_lt h0).mpr h3
 omega
def Cg (K:PySem.W.Frag):List V->Hp->VK->Prop:=λxs H Q=>∃ x c t b,xs=[x,c]/\(∃ u,au c u/\(∀ z,au c z->z=u)/\PySem.W.kitOne K t u=some b)/\TyOf K H x t/\Q (.bl b) H
theorem yk:a8 X (.builtin "isinstance") (Cg X.K):=by
 intro pins s U H xs us Q I r h
 obtain ⟨x,c,t,b,rfl,⟨u,rc,hu,e⟩,ty,q⟩:=h
 obtain ⟨u1,u2,rfl,r1,r2⟩:=gQ r
 obtain rfl:=hu _ r2
 exact zi I r1 ty e λtk=>⟨.bl b,H,I.tok tk,rfl,q⟩
end
def Kp (p:Addr) (H H':Hp):Prop:=∀ b o,H b=some o->b≠p->H' b=some o
def n3 (H:Hp) (p:Addr):Prop:=∃ a b c d:Int,H p=some (.lst [.int a,.int b,.int c,.int d])
structure Df (K:PySem.W.Frag) (mg:Str->Option Value) (x:Str) (f:Addr) (fd:FuncData) (ps:List Str):Prop where
 hm:mg x=some (.ref f)
 kp:PySem.W.keepIn K (.ref f)=true
 b:ao K fd ps []
def Oth (p:Addr) (H H':Hp):Prop:=∀ b,b≠p->H' b=H b
def dG:Sp:=λvs H Q _=>∃ (p:Addr) (m:Int),vs=[.ref p,.int m]/\0<m/\m<18446744073709551616/\n3 H p /\
 ∀ (r:Int) (H':Hp),0<=r->r<m->n3 H' p->Oth p H H'->Q (.int r) H'
def jB:Sp:=λvs H Q _=>∃ c:Int,vs=[.int c]/\∀ p H',H p=none->n3 H' p->Oth p H H'->Q (.ref p) H'
def ji (K:PySem.W.Frag):Sp:=λvs H Q _=>∃ (a:Addr) (k:Int) (ns:List Int),vs=[.ref a,.int k]/\SqL K H a (ns.map V.int)/\0<=k/\∀ z:Int,Q (.int z) H
def e9:Sp:=λvs H Q _=>∃ (t:Addr) (c e f:Int),vs=[.ref t,.int f]/\H t=some (.tup [.int c,.int e])/\e<=f/\Q (.int (c / 2 ^ (f - e).toNat)) H
def gH:Sp:=λvs H Q _=>∃ (t:Addr) (c e f n:Int),vs=[.ref t,.int f,.int n]/\H t=some (.tup [.int c,.int e])/\e<=f /\
 ∀ p,H p=none->Q (.ref p) (upd H p (.tup [.int (c / 2 ^ (f - e).toNat+n),.int f]))
section
variable {prog:Program}{w:World}{A:Around}{R:Result->Shared->Prop}{s:Shared}
theorem yn {OH LV Mg:Expr}{Og:List Expr}{scope:Scope}{pos:Pos}{it LU:Value}{env:Env}(I:Nat->Shared->Prop)
  (turn:∀ n s,I n s->wpAny (model prog w) A (pyNext it) (λr L6=>match r with
   |none=>R (.ok .next) L6
   |some v=>wpAny (model prog w) A (letOwnedTupleGo LV it v) (λ_ Tg=>wpAny (model prog w) A (assign LV env v) (λ_ PD =>
     wpAny (model prog w) A (forIn Og true λc r=>if r=true then do let ok <- isTrue c env (eval c env);pure (ForInStep.yield ok) else pure (ForInStep.yield r)) (λok Qn =>
      if ok=true then wpAny (model prog w) A (eval OH env) (λx SD =>
       wpAny (model prog w) A (call (.builtin "list.append") [LU,x]) (λ_ s₅=>∃ m,m<n/\I m s₅) (λ_ _=>False) SD) (λ_ _=>False) Qn
      else ∃ m,m<n/\I m Qn) (λ_ _=>False) PD) (λ_ _=>False) Tg) (λ_ _=>False) L6) (λ_ _=>False) s)
  (n:Nat) (h:I n s) :
  codeAny (model prog w) A (.compLoop (.ListComp OH [⟨LV,Mg,Og,0⟩] scope pos) 0 it LU env) R s:=by
 refine codeAny_loop rfl I (λn s hI=>?_) n h
 show wpAny _ A ((compTurn (.ListComp OH [⟨LV,Mg,Og,0⟩] scope pos) 0 it LU env).onRaise (λx=>do noteFrame x env;theTreesLotGoes x)) _ _ s
 refine wpAny_noted ?_
 rw [compTurn_list]
 refine wpAny_bind (wpAny_standAt (wpAny_bind (wpAny_mono (turn n s hI) (λr L6 h₁=>?_) λ_ _ h'=>h'.elim)))
 cases r with
 |none=>exact wpAny_pure h₁
 |some v =>
  refine wpAny_bind (wpAny_mono h₁ (λ_ Tg h₁'=>?_) λ_ _ h'=>h'.elim)
  refine wpAny_bind (wpAny_mono h₁' (λ_ PD Rz=>wpAny_bind (wpAny_mono Rz (λok Qn SE=>?_) λ_ _ h'=>h'.elim)) λ_ _ h'=>h'.elim)
  cases ok with
  |false=>exact wpAny_pure ⟨rfl,SE⟩
  |true =>
   exact wpAny_bind (wpAny_bind (wpAny_mono SE (λx SD h₄=>wpAny_bind (wpAny_mono h₄ (λ_ s₅ h₅=>wpAny_pure (wpAny_pure ⟨rfl,h₅⟩)) λ_ _ h'=>h'.elim)) λ_ _ h'=>h'.elim))
end
noncomputable def dO (cells:List (Str×Addr)):List (Str×NameKind)->List (Str×Addr)->List (Str×Addr)
 |[],cs=>cs
 |(n,k)::r,cs=>dO cells r (if k==.free then (match cells.lookup n with|some a=>(n,a)::cs|none=>cs) else cs)
def cK (scope:Scope) (env:Env):List (Str×Addr):=dO env.cells scope.names []
theorem rP (env:Env):∀ (ns:List (Str×NameKind)) (cs:List (Str×Addr)),(∀ y∈ns,y.2=.free->∃ a,env.cells.lookup y.1=some a) ->
  (forIn ns cs λ(x:Str×NameKind) (r:List (Str×Addr))=>(if (x.2==NameKind.free)=true then (do let a <- cellOf env x.1;pure (ForInStep.yield ((x.1,a)::r))) else pure (ForInStep.yield r):Sem (ForInStep (List (Str×Addr)))))=(pure (dO env.cells ns cs):Sem (List (Str×Addr)))
 |[],cs,_=>rfl
 |(n,k)::r,cs,h=>by
  rw [List.forIn_cons]
  have ih:=λcs'=>rP env r cs' λy hy=>h y (List.mem_cons_of_mem _ hy)
  by_cases hk:(k==NameKind.free)=true
  ·obtain ⟨a,ha⟩:=h (n,k) List.mem_cons_self (by simpa using hk)
   have ha':env.cells.lookup n=some a:=ha
   have e:cellOf env n=pure a:=by unfold cellOf;rw [ha']
   simp only [hk,if_true,e,pure_bind]
   rw [ih]
   show _=pure (dO env.cells r (if k==.free then (match env.cells.lookup n with|some a=>(n,a)::cs|none=>cs) else cs))
   rw [hk,ha']
   rfl
  ·have hk':(k==NameKind.free)=false:=by simpa using hk
   simp only [hk',Bool.false_eq_true,if_false,pure_bind]
   rw [ih]
   show _=pure (dO env.cells r (if k==.free then (match env.cells.lookup n with|some a=>(n,a)::cs|none=>cs) else cs))
   rw [hk']
   rfl
theorem Ch {scope:Scope}{env:Env}(h:∀ y∈scope.names,y.2=.free->∃ a,env.cells.lookup y.1=some a):closureFor scope env=pure (cK scope env):=by
 have e:=rP env scope.names [] h
 unfold closureFor cK
 show (forIn scope.names ([]:List (Str×Addr)) _ >>= λcs=>pure cs)=_
 rw [bind_pure]
 exact e
theorem qP (cells:List (Str×Addr)){x:Str}{c:Addr}:∀ (ns:List (Str×NameKind)) (cs:List (Str×Addr)),(∀ c,cs.lookup x=some c->cells.lookup x=some c)->(dO cells ns cs).lookup x=some c->cells.lookup x=some c
 |[],cs,h,e=>h c e
 |(n,k)::r,cs,h,e=>by
  refine qP cells r _ (λc' e'=>?_) e
  by_cases hk:(k==NameKind.free)=true
  ·rw [if_pos hk] at e'
   cases ha:cells.lookup n with
   |none=>rw [ha] at e';exact h c' e'
   |some a =>
    rw [ha] at e'
    by_cases hx:x==n
    ·have hx':x=n:=by simpa using hx
     subst hx'
     simp only [List.lookup_cons,beq_self_eq_true] at e'
     rw [<- e'];exact ha
    ·have hx':(x==n)=false:=by simpa using hx
     simp only [List.lookup_cons,hx'] at e'
     exact h c' e'
  ·rw [if_neg hk] at e'
   exact h c' e'
theorem fX (cells:List (Str×Addr)){x:Str}{a:Addr}(ha:cells.lookup x=some a):∀ (ns:List (Str×NameKind)) (cs:List (Str×Addr)),(cs.lookup x=some a\/ns.lookup x=some .free)->(∀ c,cs.lookup x=some c->c=a)->(dO cells ns cs).lookup x=some a
 |[],cs,h,_=>by
  rcases h with h|h
  ·exact h
  ·simp at h
 |(n,k)::r,cs,h,hu=>by
  have step:(if k==.free then (match cells.lookup n with|some a=>(n,a)::cs|none=>cs) else cs)=cs\/∃ b,k=.free/\cells.lookup n=some b/\(if k==.free then (match cells.lookup n with|some a=>(n,a)::cs|none=>cs) else cs)=(n,b)::cs:=by
   by_cases hk:(k==NameKind.free)=true
   ·rw [if_pos hk]
    cases hb:cells.lookup n with
    |none=>exact .inl rfl
    |some b=>exact .inr ⟨b,by simpa using hk,rfl,rfl⟩
   ·exact .inl (by rw [if_neg hk])
  show (dO cells r _).lookup x=some a
  by_cases hx:x=n
  ·subst hx
   rcases step with e|⟨b,hk,hb,e⟩
   ·rw [e]
    refine fX cells ha r cs ?_ hu
    rcases h with h|h
    ·exact .inl h
    ·simp only [List.lookup_cons,beq_self_eq_true] at h
     injection h with h
     subst h
     rw [if_pos (by decide),ha] at e
     have:(x,a)::cs=cs:=e
     exact absurd (congrArg List.length this) (by simp)
   ·rw [e]
    rw [ha] at hb
    injection hb with hb
    subst hb
    refine fX cells ha r _ (.inl (by simp)) λc hc=>?_
    simp at hc
    exact hc.symm
  ·have hxb:(x==n)=false:=by simpa using hx
   rcases step with e|⟨b,hk,hb,e⟩
   ·rw [e]
    refine fX cells ha r cs ?_ hu
    rcases h with h|h
    ·exact .inl h
    ·simp only [List.lookup_cons,hxb] at h
     exact .inr h
   ·rw [e]
    refine fX cells ha r _ ?_ λc hc=>?_
    ·rcases h with h|h
     ·exact .inl (by simp only [List.lookup_cons,hxb];exact h)
     ·simp only [List.lookup_cons,hxb] at h
      exact .inr h
    ·simp only [List.lookup_cons,hxb] at hc
     exact hu c hc
noncomputable def fq (sc scope:Scope):Bool:=(scope.kind==.function)&&scope.names.all λy=>(y.2 != .cell)&&((y.2 != .local) || (scope.names.lookup y.1==some .local)) &&
 ((y.2 != .free) || ((scope.names.lookup y.1==some .free)&&((sc.names.lookup y.1==some .cell) || (sc.names.lookup y.1==some .free))))
noncomputable def em (N Nc:List Str) (scope:Scope) (n:Nat) (LZ:List Nat):Bool:=(n+LZ.length==Nc.length)&&(List.range LZ.length).all λj=>(Nc[n+j]?==(LZ[j]?).bind λi=>N[i]?)&&((Nc[n+j]?).bind (λy=>scope.names.lookup y)==some NameKind.free)
noncomputable def fu (n:Nat) (LZ:List Nat) (U:St):St:=List.replicate n none++LZ.map λi=>(U[i]?).join
def Cx.comp (X:Cx) (scope:Scope) (Nc:List Str) (C:Addr) (s₀:Shared) (H₀:Hp) (ex:List Addr):Cx :=
 { X with N:=Nc,s₀:=s₀,H₀:=H₀,env:=compEnvC scope (cK scope X.env) C X.env,outer:=X.stack,ex:=ex,fn:=λ_=>false,pn:=[],xe:=λ_ _=>False }
theorem pV {env:Env}:∀ {names:List (Str×NameKind)}{x:Str},names.lookup x=some .free ->
  (names.map λ(n,k)=>if (k==NameKind.free&&env.scope.kind==.function&&env.kindOf n==some .cell) then (n,NameKind.cell) else (n,k)).lookup x=some .cell \/
  (names.map λ(n,k)=>if (k==NameKind.free&&env.scope.kind==.function&&env.kindOf n==some .cell) then (n,NameKind.cell) else (n,k)).lookup x=some .free
 |[],_,h=>by simp at h
 |(n,k)::r,x,h=>by
  have ih:=@pV env r x
  show List.lookup x ((if (k==NameKind.free&&env.scope.kind==.function&&env.kindOf n==some .cell)=true then (n,NameKind.cell) else (n,k))::_)=_\/List.lookup x ((if (k==NameKind.free&&env.scope.kind==.function&&env.kindOf n==some .cell)=true then (n,NameKind.cell) else (n,k))::_)=_
  cases hx:x==n with
  |true =>
   simp only [List.lookup_cons,hx] at h
   cases h
   by_cases hc:(NameKind.free==NameKind.free&&env.scope.kind==.function&&env.kindOf n==some .cell)=true
   ·rw [if_pos hc];simp [List.lookup_cons,hx]
   ·rw [if_neg hc];simp [List.lookup_cons,hx]
  |false =>
   simp only [List.lookup_cons,hx] at h
   by_cases hc:(k==NameKind.free&&env.scope.kind==.function&&env.kindOf n==some .cell)=true
   ·rw [if_pos hc];simp only [List.lookup_cons,hx];exact ih h
   ·rw [if_neg hc];simp only [List.lookup_cons,hx];exact ih h
theorem pW {env:Env}:∀ {names:List (Str×NameKind)}{x:Str},(∀ y∈names,y.2≠.cell) ->
  ((names.map λ(n,k)=>if (k==NameKind.free&&env.scope.kind==.function&&env.kindOf n==some .cell) then (n,NameKind.cell) else (n,k)).lookup x=some .cell \/
  (names.map λ(n,k)=>if (k==NameKind.free&&env.scope.kind==.function&&env.kindOf n==some .cell) then (n,NameKind.cell) else (n,k)).lookup x=some .free)->names.lookup x=some .free
 |[],_,_,h=>by simp at h
 |(n,k)::r,x,hc,h=>by
  have ih:=@pW env r x λy hy=>hc y (List.mem_cons_of_mem _ hy)
  have hk:k≠.cell:=hc (n,k) List.mem_cons_self
  have h':List.lookup x ((if (k==NameKind.free&&env.scope.kind==.function&&env.kindOf n==some .cell)=true then (n,NameKind.cell) else (n,k))::_)=some NameKind.cell\/List.lookup x ((if (k==NameKind.free&&env.scope.kind==.function&&env.kindOf n==some .cell)=true then (n,NameKind.cell) else (n,k))::_)=some NameKind.free:=h
  cases hx:x==n with
  |true =>
   simp only [List.lookup_cons,hx]
   by_cases hq:(k==NameKind.free&&env.scope.kind==.function&&env.kindOf n==some .cell)=true
   ·have:k=.free:=by
     simp only [Bool.and_eq_true] at hq
     simpa using hq.1.1
    rw [this]
   ·rw [if_neg hq] at h'
    simp only [List.lookup_cons,hx] at h'
    rcases h' with h'|h'
    ·injection h' with h';exact absurd h' hk
    ·exact h'
  |false =>
   simp only [List.lookup_cons,hx]
   by_cases hq:(k==NameKind.free&&env.scope.kind==.function&&env.kindOf n==some .cell)=true
   ·rw [if_pos hq] at h'
    simp only [List.lookup_cons,hx] at h'
    exact ih h'
   ·rw [if_neg hq] at h'
    simp only [List.lookup_cons,hx] at h'
    exact ih h'
structure CompSc (X:Cx) (scope:Scope):Prop where
 kind:scope.kind=.function
 nocell:∀ y∈scope.names,y.2≠.cell
 loc:∀ y∈scope.names,y.2=.local->scope.names.lookup y.1=some .local
 fr:∀ x,scope.names.lookup x=some .free->X.env.kindOf x=some .cell\/X.env.kindOf x=some .free
 fr2:∀ y∈scope.names,y.2=.free->X.env.kindOf y.1=some .cell\/X.env.kindOf y.1=some .free
theorem mem_of_lookup {α β:Type}[BEq α] [LawfulBEq α]:∀ {l:List (α×β)}{x:α}{b:β},l.lookup x=some b->(x,b)∈l
 |[],_,_,h=>by simp at h
 |(n,k)::r,x,b,h=>by
  cases hx:x==n with
  |true =>
   simp only [List.lookup_cons,hx] at h
   injection h with h
   have:x=n:=by simpa using hx
   subst this;subst h
   exact List.mem_cons_self
  |false =>
   simp only [List.lookup_cons,hx] at h
   exact List.mem_cons_of_mem _ (mem_of_lookup h)
theorem qy {X:Cx}{scope:Scope}(h:fq X.env.scope scope=true):CompSc X scope:=by
 unfold fq at h
 rw [Bool.and_eq_true] at h
 obtain ⟨h1,h2⟩:=h
 rw [List.all_eq_true] at h2
 have h3:∀ y∈scope.names,y.2=.free->X.env.kindOf y.1=some .cell\/X.env.kindOf y.1=some .free:=λy hy e=>by
  have q:=h2 y hy
  simp only [Bool.and_eq_true,e,bne_self_eq_false,Bool.false_or,Bool.or_eq_true,beq_iff_eq] at q
  exact q.2.2
 refine ⟨by simpa using h1,λy hy e=>?_,λy hy e=>?_,λx e=>h3 _ (mem_of_lookup e) rfl,h3⟩
 ·have q:=h2 y hy
  simp [e] at q
 ·have q:=h2 y hy
  simp only [Bool.and_eq_true,e,bne_self_eq_false,Bool.false_or,beq_iff_eq] at q
  exact q.1.2
section
variable {X:Cx}{pins:List (Addr×Obj)}{U:St}{H:Hp}{s:Shared}{scope:Scope}{Nc:List Str}{fp:List Addr}{C:Addr}
theorem fz {env:Env}{x:Str}{c:Addr}(h:(cK scope env).lookup x=some c):env.cells.lookup x=some c :=
 qP env.cells scope.names [] (λc e=>by simp at e) h
theorem rQ {env:Env}{x:Str}{c:Addr}(h:env.cells.lookup x=some c) (hf:scope.names.lookup x=some .free):(cK scope env).lookup x=some c :=
 fX env.cells h scope.names [] (.inr hf) (λc e=>by simp at e)
theorem CompSc.clos (S:CompSc X scope) (ok:X.Ok):closureFor scope X.env=pure (cK scope X.env) :=
 Ch λy hy e=>ok.has y.1 (S.fr2 y hy e)
theorem Ci (I:Inv X pins U H s) (S:CompSc X scope) (hf:∀ b∈fp,bO X pins H b) (hC:s.heap.objs.size<=C) (hCf:C∉fp):(X.comp scope Nc C s H fp).Ok where
 mod:=I.ok.mod
 kind:=S.kind
 glob:=I.ok.glob
 blt:=I.ok.blt
 above:=hC
 inj:=λx y c h1 h2=>I.ok.inj x y c (fz h1) (fz h2)
 has:=λx h=>by
  have e:scope.names.lookup x=some .free:=pW S.nocell h
  obtain ⟨c,hc⟩:=I.ok.has x (S.fr x e)
  exact ⟨c,rQ hc e⟩
 cab:=λx c h=>by cases h
 hd:=I.ok.hd
 frames:=I.ok.frames
 stk:=.inl rfl
 exf:=λb hb=>⟨λe=>hCf ((show b=C from e) ▸ (show b∈fp from hb)),λx c h=>(hf b hb).2.2.2.2.1 x c (fz h)⟩
 bs:=I.bs
 bsz:=Nat.le_trans I.ok.bsz I.sz
 noex:=λb o e hb=>by
  rcases (hf b hb).2.2.2.1 with z|z
  ·exact I.ok.noex b o e z
  ·exact absurd (Nat.lt_of_lt_of_le (Heap.lt_size e) (Nat.le_trans I.ok.bsz z)) (Nat.lt_irrefl _)
 exfs:=λb hb hs=>by
  rcases List.mem_cons.mp (I.stkSub b hs) with z|z
  ·exact (hf b hb).2.1 z
  ·exact (hf b hb).2.2.1 z
 funs:=I.stack
 frf:=I.stkFree
theorem yH {n:Nat}{LZ:List Nat}{h₁:Heap}{tk:Nat}(I:Inv X pins U H s) (S:CompSc X scope) (Rg:em X.N Nc scope n LZ=true) (hf:∀ b∈fp,bO X pins H b) (Tv:∀ b∈fp,b<s.heap.objs.size)
  (SB:h₁.Ns (s.heap.objs.size+1) λ_=>none) (old:∀ b o,s.heap.get? b=some o->h₁.get? b=some o) (hD:h₁.get? s.heap.objs.size=some { cls:=.type "list",data:=.seq #[] 0 }) :
  Inv (X.comp scope Nc (s.heap.objs.size+1) s H fp) [] (fu n LZ U) (upd H s.heap.objs.size (.lst [])) { s with heap:=h₁,toks:=tk }:=by
 have hCf:s.heap.objs.size+1∉fp:=λz=>Nat.not_succ_lt_self (Tv _ z)
 unfold em at Rg
 rw [Bool.and_eq_true,List.all_eq_true] at Rg
 obtain ⟨hl,hc⟩:=Rg
 have hl':n+LZ.length=Nc.length:=by simpa using hl
 refine ⟨Ci I S hf (Nat.le_succ _) hCf,rfl,I.bare,Un.laid old (Nat.le_refl _) I.fresh,⟨_,SB,?_⟩,?_,?_,?_,?_,I.hok.laid old (Nat.le_refl _) ⟨Nat.zero_le _,[],0,.nil,hD⟩,?_⟩
 ·intro i x v hN hv _
  have hi:n<=i:=by
   rcases Nat.lt_or_ge i n with z|z
   ·exfalso
    have Re:(List.replicate n (none:Option V)++LZ.map λi=>(U[i]?).join)[i]?=some (some v):=hv
    rw [List.getElem?_append_left (by simpa using z)] at Re
    simp [z] at Re
   ·exact z
  obtain ⟨j,rfl⟩:∃ j,i=n+j:=⟨i - n,by omega⟩
  have Re:(List.replicate n (none:Option V)++LZ.map λi=>(U[i]?).join)[n+j]?=some (some v):=hv
  rw [List.getElem?_append_right (by simp)] at Re
  have e1:n+j - (List.replicate n (none:Option V)).length=j:=by simp
  rw [e1,List.getElem?_map] at Re
  cases ec:LZ[j]? with
  |none=>rw [ec] at Re;cases Re
  |some i0 =>
   rw [ec] at Re
   have hv2:(U[i0]?).join=some v:=by simpa using Re
   have hv3:U[i0]?=some (some v):=by
    cases es:U[i0]? with
    |none=>rw [es] at hv2;cases hv2
    |some o=>rw [es] at hv2;simp at hv2;rw [hv2]
   have hj:j<LZ.length:=(List.getElem?_eq_some_iff.mp ec).1
   have q:=hc j (List.mem_range.mpr hj)
   have hN':Nc[n+j]?=some x:=hN
   rw [Bool.and_eq_true,hN',ec] at q
   obtain ⟨q1,q2⟩:=q
   have q1':X.N[i0]?=some x:=by simpa using (beq_iff_eq.mp q1).symm
   have q2':scope.names.lookup x=some .free:=by simpa using q2
   obtain ⟨m,_,hm⟩:=I.loc
   have hk:=S.fr x q2'
   obtain ⟨u,ru,lk⟩:=hm i0 x v q1' hv3 (.inr hk)
   refine ⟨u,ru,?_⟩
   rcases lk with ⟨kl,_⟩|⟨_,c,hcl,ic⟩
   ·rcases hk with z|z
    ·rw [kl] at z;cases z
    ·rw [kl] at z;cases z
   ·exact .inr ⟨pV q2',c,rQ hcl q2',ic.keeps old⟩
 ·intro x c h
  obtain ⟨v,ic⟩:=I.cell x c (fz h)
  exact ⟨v,ic.keeps old⟩
 ·show upd H s.heap.objs.size (.lst []) (s.heap.objs.size+1)=none
  rw [aB (Nat.succ_ne_self _)]
  exact I.hok.fresh (Nat.le_succ _)
 ·intro x c h
  obtain ⟨v,ic⟩:=I.cell x c (fz h)
  rw [aB (Nat.ne_of_lt ic.lt)]
  exact I.freeC x c (fz h)
 ·intro p hp
  exact absurd (show p∈([]:List (Addr×Obj)) from hp) (by simp)
 ·show (List.replicate n (none:Option V)++LZ.map λi=>(U[i]?).join).length=Nc.length
  rw [List.length_append,List.length_replicate,List.length_map]
  exact hl'
theorem zq {Q6:List (Addr×Obj)}{LR:St}{H':Hp}{s':Shared}(I:Inv X pins U H s) (hf:∀ b∈fp,bO X pins H b) (J:Inv (X.comp scope Nc C s H fp) Q6 LR H' s'):Inv X pins U H' s' :=
 I.call' J.os J.base J.hok J.bare λb hb=>⟨(hf b hb).2.2.2.1,(hf b hb).2.1,(hf b hb).2.2.2.2.1,(hf b hb).2.2.2.2.2⟩
theorem Inv.but {h':Heap}(I:Inv X pins U H s) (hs:Heap.SameBut C s.heap h') (hn:H C=none) (h0:X.s₀.heap.objs.size<=C) (hl:C≠X.env.locals) (hc:∀ x c,X.env.cells.lookup x=some c->c≠C)
  (hp:∀ p∈X.pn++pins,p.1≠C):Inv X pins U H { s with heap:=h' }:=by
 refine I.call' (s':={ s with heap:=h' }) (ch:=[C]) rfl ⟨λb o e _ _ hb=>hs.extBut b o (by simpa using hb) e,λb o e _ _ hb=>⟨o.slots,hs.extBut b o (by simpa using hb) e⟩,λb o _ n _=>n,λb o e hb=>⟨o,hs.extBut b o (by simpa using hb) e⟩,
  λ_ _ z=>z,λ_ _ _ z=>z,λb ps z=>⟨#[],by simpa using z⟩⟩ (λa o e=>?_) I.bare ?_
 ·refine (I.hok a o e).stay (λb u hb q=>hs.extBut b u ?_ q) (λ_ z=>z) λ_ _ z=>z
  rcases hb with rfl|hb
  ·exact λz=>by rw [z,hn] at e;cases e
  ·exact λz=>by rw [z,hn] at hb;cases hb
 ·intro b hb
  obtain rfl:b=C:=by simpa using hb
  exact ⟨.inr h0,hl,hc,hp⟩
def PTs (X:Cx) (Og:List Expr) (t:TT):Prop :=
 ∀ (pins:List (Addr×Obj)) (s:Shared) (U:St) (H:Hp) (Q:Bool->Hp->Prop),Inv X pins U H s->t U H Q ->
  wpAny (model X.prog X.w) X.A (forIn Og true λc r=>if r=true then do let ok <- isTrue c X.env (eval c X.env);pure (ForInStep.yield ok) else pure (ForInStep.yield r)) (TP X pins U Q) X.xe s
def Ik:TT:=λ_ H Q=>Q true H
theorem Cj:PTs X [] Ik:=λ_ _ _ H _ I h=>wpAny_tests_nil ⟨H,I,h⟩
theorem Ck {c:Expr}{t:TT}(h:PT X c t):PTs X [c] t:=λpins s U H Q I hw=>wpAny_tests_one (h pins s U H Q I hw)
variable {OH Mg LV:Expr}{Og:List Expr}{pos:Pos}{n:Nat}{LZ:List Nat}{wi:TI}{g:TG}{tt:TT}{te:TE}
end
section
variable {X:Cx}{K:PySem.W.Frag}
theorem gB {es:List Expr}{k:Nat}{pos:Pos}{t:TGs}{n:Nat}(hK:X.K=K) (hc:X.calm=true) (h:PGs X es t)
  (hn:(assignEach es X.env).length=n:=by rfl) (PC:(assignEach es X.env).findIdx? (·.1)=none:=by rfl):PG X (.Tuple es k pos) (oU K n t):=by subst hK;exact EA hc h hn PC
end
section
variable {K:PySem.W.Frag}{a D:Addr}{xs:List V}{n:Nat}{LZ:List Nat}{g:TG}{tt:TT}{te:TE}{U:St}{H1:Hp}{Q:Hp->Prop}
end
mutual
inductive DatV (K:PySem.W.Frag) (H:Hp):V->PyData->Prop
 |non:DatV K H .non .none
 |bl (b:Bool):DatV K H (.bl b) (.bool b)
 |int (i:Int):DatV K H (.int i) (.int i)
 |str (x:Str):DatV K H (.str x) (.str x)
 |lst {a:Addr}{xs:List V}{ds:List PyData}:SqL K H a xs->DatVs K H xs ds->DatV K H (.ref a) (.list ds)
 |tup {a:Addr}{xs:List V}{ds:List PyData}:SqT K H a xs->DatVs K H xs ds->DatV K H (.ref a) (.tuple ds)
inductive DatVs (K:PySem.W.Frag) (H:Hp):List V->List PyData->Prop
 |nil:DatVs K H [] []
 |cons {x:V}{xs:List V}{d:PyData}{ds:List PyData}:DatV K H x d->DatVs K H xs ds->DatVs K H (x::xs) (d::ds)
end
section
variable {X:Cx}{pins:List (Addr×Obj)}{U:St}{H:Hp}{s:Shared}
mutual
theorem eU (I:Inv X pins U H s):∀ {v:V}{d:PyData}{u:Value},DatV X.K H v d->au v u->∃ as,Reads s.heap u d as
 |_,_,_,.non,r=>by cases (show _=Value.none from r);exact ⟨_,.none⟩
 |_,_,_,.bl b,r=>by cases (show _=Value.bool b from r);exact ⟨_,.bool b⟩
 |_,_,_,.int i,r=>by obtain ⟨t,rfl⟩:=r;exact ⟨_,.int i t⟩
 |_,_,_,.str x,r=>by obtain ⟨t,rfl⟩:=r;exact ⟨_,.str x t⟩
 |_,_,_,.lst (a:=a) hq hs,r=>by
  cases (show _=Value.ref a from r)
  obtain ⟨its,rv,pl,_⟩:=I.list hq
  obtain ⟨o,n,e,c,_,dd⟩:=pl
  obtain ⟨as,ra⟩:=kX I hs rv
  exact ⟨_,.list e c dd (by simpa using ra)⟩
 |_,_,_,.tup (a:=a) hq hs,r=>by
  cases (show _=Value.ref a from r)
  obtain ⟨its,rv,pl,_⟩:=I.tuple hq
  obtain ⟨o,e,c,n,dd⟩:=pl
  obtain ⟨as,ra⟩:=kX I hs rv
  exact ⟨_,.tuple e c dd (by simpa using ra)⟩
theorem kX (I:Inv X pins U H s):∀ {xs:List V}{ds:List PyData}{us:List Value},DatVs X.K H xs ds->am xs us->∃ as,ReadsAll s.heap us ds as
 |_,_,_,.nil,.nil=>⟨_,.nil⟩
 |_,_,_,.cons h hs,.cons r rs=>by
  obtain ⟨as,ra⟩:=eU I h r
  obtain ⟨bs,rb⟩:=kX I hs rs
  exact ⟨_,.cons ra rb⟩
end
def v9 (K:PySem.W.Frag) (neg:Bool):R2:=λx y H Q=>∃ dx dy,DatV K H x dx/\DatV K H y dy/\dx.canLay0=true/\dy.canLay0=true/\min dx.depth dy.depth<=64/\Q (.bl (neg ^^ PyData.eqv dx dy)) H
theorem E2 (hu:X.A.units+64<cLine):OpR X (compareOp .Eq) (v9 X.K false):=by
 intro pins s U H x y v u Q I rx ry h
 obtain ⟨dx,dy,h1,h2,c1,c2,hd,q⟩:=h
 obtain ⟨as,ra⟩:=eU I h1 rx
 obtain ⟨bs,rb⟩:=eU I h2 ry
 exact PySem.SeqAt.compareEq_reads ra rb c1 c2 (by omega) ⟨.bl (PyData.eqv dx dy),H,I,rfl,by simpa using q⟩
theorem E3 (hu:X.A.units+64<cLine):OpR X (compareOp .NotEq) (v9 X.K true):=by
 intro pins s U H x y v u Q I rx ry h
 obtain ⟨dx,dy,h1,h2,c1,c2,hd,q⟩:=h
 obtain ⟨as,ra⟩:=eU I h1 rx
 obtain ⟨bs,rb⟩:=eU I h2 ry
 exact PySem.SeqAt.compareNe_reads ra rb c1 c2 (by omega) ⟨.bl (!PyData.eqv dx dy),H,I,rfl,by simpa using q⟩
end
section
variable {prog:Program}{w:World}{A:Around}{R:Result->Shared->Prop}{I:Addr}{fp wr:List Addr}{n:Nat}{P:Nat->Value->Prop}{St:Nat->Heap->Prop}
theorem xX {E:Value->Shared->Prop}{s:Shared}{id:String}{b:Builtin}{args:List Value}{kw:List (Str×Value)}{Q:Value->Shared->Prop}(hk:builtinKind id=none) (hp:plainId id=true)
  (hb:entryFor table id=some b) (ha:argsOk id ⟨args,kw⟩)
  (hc:wpAny (model prog w) A.in1 (b ⟨args,kw⟩) (λfin s'=>match fin with
   |.done f=>(match (Except.ok f:Result) with|.ok (.ret v)=>Q v s'|.ok _=>False|.error e=>E e s')
   |.again c'=>c'.quiet=true/\codeAny (model prog w) A c' (λr s'=>match r with|.ok (.ret v)=>Q v s'|.ok _=>False|.error e=>E e s') s') E s) :
  wpAny (model prog w) A (call (.builtin id) args kw) Q E s:=by
 refine wpAny_call (codeAny_call_builtin hp hb ?_)
 simp only [checkBuiltinCall,hk]
 cases hsig:Manifest.signature? id with
 |none=>exact wpAny_pure hc
 |some sig =>
  simp only [argsOk,hsig] at ha
  have h2:Bind.checkArgs id sig ⟨args,kw⟩=pure ():=ha
  show wpAny _ A.in1 (Bind.checkArgs id sig ⟨args,kw⟩) _ _ s
  rw [h2];exact wpAny_pure hc
end
theorem rR {α:Type}{l:List α}{i:Nat}{d:α}(h:i<l.length):l.getD i d=l[i]:=by simp [h]
theorem Co {s:Shared}{b:Addr}{o:Obj}(e:s.heap.get? b=some o):b∉[s.heap.objs.size]:=λz=>by
 have h:=Heap.lt_size e
 rw [List.mem_singleton.mp z] at h
 exact Nat.lt_irrefl _ h
section
variable {X:Cx}
def tE (X:Cx) (f:Value) (ks:List Str) (r:List V->List V->Hp->VK->Prop):Prop :=
 ∀ (pins:List (Addr×Obj)) (s:Shared) (U:St) (H:Hp) (xs zs:List V) (us ws:List Value) (Q:VK),Inv X pins U H s->am xs us->am zs ws->r xs zs H Q ->
  wpAny (model X.prog X.w) X.A (call f us (ks.zip ws)) (EP X pins U Q) X.xe s
def wf (r:List V->List V->Hp->VK->Prop) (t tk:TA):TE:=λU H Q=>t U H λvs H1=>tk U H1 λzs H2=>r vs zs H2 Q
theorem zr {x:Str}{p pos:Pos}{e:Expr}{es:List Expr}{Rx:List Keyword}{t tk:TA}{id:String}{ks:List Str}{r:List V->List V->Hp->VK->Prop}(hc:tE X (.builtin id) ks r) (hg:Gl X x) (hm:X.mg x=none)
  (hv:bootBuiltins x=some (.builtin id)) (ha:PA X (e::es) t) (hkw:PK X Rx tk) (hks:(backToKw pos (keywordEach Rx X.env)).filterMap (·.1)=ks:=by rfl) (hn:x ≠ "__name__":=by decide) (MV:(x==("__debug__":Str))=false:=by decide)
  (he:backTo pos (starEach (e::es) X.env)=(false,eval e X.env)::backTo pos (starEach es X.env):=by rfl)
  (NY:(backTo pos (starEach (e::es) X.env)).any (·.1)=false:=by rfl)
  (Ry:(backToKw pos (keywordEach Rx X.env)).all (·.1.isSome)=true:=by rfl)
  (Tw:(backToKw pos (keywordEach Rx X.env)).any (·.1.isNone)=false:=by rfl):PE X (.Call (.Name x p) (e::es) Rx pos) (wf r t tk):=by
 intro pins s U H Q I h
 refine wpAny_Call_Name_kw (fj I hg hm hv ?_ hn MV)
 refine PyProof.Rows.callWith_kw (thn (ha pos pins s U H _ I h) λus s1 ⟨vs,H1,I1,r1,q1⟩=>thn (hkw pos pins s1 U H1 _ I1 q1) λws s2 ⟨zs,H2,I2,r2,q2⟩=>?_) he NY Ry Tw
 rw [hks]
 exact hc pins s2 U H2 vs zs us ws Q I2 r1 r2 q2
end
def Its (x:Str):It:=⟨λi _=>i<x.cps.toList.length,λi H v H'=>H'=H/\∃ c,x.cps.toList[i]?=some c/\v=.str ⟨#[c]⟩,λi _=>x.cps.toList.length<=i⟩
theorem qQ {P:Program}{w:World}{K:PySem.W.Frag}{tg:Expr}(it:Addr) (x:Str) (t:Tok) (ty:String) (Rr:ty="str_ascii_iterator" \/ ty="str_iterator"):Turn P w K tg (Its x) [it] it (λi h=>h.IsStrIter it ty x t i) where
 mem:=by simp
 obj:=λi h st b hb=>by
  have e:b=it:=by simpa using hb
  subst e
  obtain ⟨o,e,c,d⟩:=st
  exact ⟨o,e,λv z=>by rw [d] at z;cases z⟩
 keep:=λi h h' st k=>let ⟨o,ho,r⟩:=st;⟨o,k it (by simp) o ho,r⟩
 item:=by
  intro X hP hw hK hc i pins s U H E I hf st hg
  subst hP hw hK
  obtain ⟨f0,f1,f2,f3,f4,f5⟩:=hf it (by simp)
  have hi:i<x.cps.size:=by simpa [Its] using hg
  have hx:x.cps[i]?=some x.cps[i]:=by simp [hi]
  have fin:∀ h',h'.IsStrIter it ty x t (i+1)->Heap.SameBut it s.heap h'->(∃ u,some (Value.str ⟨#[x.cps[i]]⟩ s.toks)=some u /\
    wpAny (model X.prog X.w) X.A (letOwnedTupleGo tg (.ref it) u) (λ_ s2=>∃ y H',Inv X pins U H' s2/\au y u/\(Its x).yld i H y H'/\s2.heap.IsStrIter it ty x t (i+1)/\∀ b∈[it],H' b=none) E { s with heap:=h',toks:=s.toks+1 }):=λh' Q7 sb=>by
   have I1:Inv X pins U H { s with heap:=h',toks:=s.toks+1 }:=I.turned (λb o hb e=>(sb.2 b hb).trans e) f0 f1 f3 f4 f5
   obtain ⟨o,e,c,d⟩:=id Q7
   refine ⟨_,rfl,nU (s:={ s with heap:=h',toks:=s.toks+1 }) (n:=ty) e c d (by rcases Rr with rfl|rfl<;>decide) ⟨.str ⟨#[x.cps[i]]⟩,H,I1,⟨_,rfl⟩,⟨rfl,x.cps[i],by simp [hi],rfl⟩,Q7,λb hb=>(hf b hb).1⟩⟩
  rcases Rr with rfl|rfl
  ·exact wpAny_pyNext_ascii_item st hx λh' Q7 sb=>fin h' Q7 sb
  ·exact wpAny_pyNext_wide_item st hx λh' Q7 sb=>fin h' Q7 sb
 done:=by
  intro X hP hw hK hc i pins s U H E I hf st hg
  subst hP hw hK
  obtain ⟨f0,f1,f2,f3,f4,f5⟩:=hf it (by simp)
  have hi:x.cps.size<=i:=by simpa [Its] using hg
  have hx:x.cps[i]?=none:=by simp [hi]
  rcases Rr with rfl|rfl
  ·exact wpAny_pyNext_ascii_end (I.ok.hd hc) st hx λh' eb=>⟨rfl,I.turned (t':=s.toks) (λb o hb e=>eb b o hb e) f0 f1 f3 f4 f5⟩
  ·exact wpAny_pyNext_wide_end (I.ok.hd hc) st hx λh' eb=>⟨rfl,I.turned (t':=s.toks) (λb o hb e=>eb b o hb e) f0 f1 f3 f4 f5⟩
 self:=λ_ _ _ _ _ st h=>by
  rcases Rr with rfl|rfl
  ·exact wpAny_pyIter_striter_ascii st h
  ·exact wpAny_pyIter_striter_wide st h
section
variable {X:Cx}{tg:Expr}
def K0 (tl:TE):TI:=λU H R=>tl U H λx H1=>∃ z,x=.str z/\R (Its z) H1
theorem E4 {l:Expr}{tl:TE}(hl:PE X l tl):PI X tg l (K0 tl):=by
 intro pins s U H R I h
 refine thn (hl pins s U H _ I h) λv s1 zz44=>?_
 obtain ⟨x,H1,I1,r1,q1⟩:=zz44
 obtain ⟨z,e,q⟩:=q1
 subst e
 obtain ⟨t,rfl⟩:=r1
 have fp:∀ b∈[s1.heap.objs.size],bO X pins H1 b:=λb hb=>by
  have e:b=s1.heap.objs.size:=by simpa using hb
  subst e
  exact I1.fpOk (Nat.le_refl _) (I1.hok.fresh (Nat.le_refl _))
 cases ha:z.cps.all (·<128)
 ·exact wpAny_pyIter_wide ha ⟨s1.heap.objs.size,[s1.heap.objs.size],_,_,H1,rfl,I1.kept (t':=s1.toks) λb o e=>Heap.get?_push_of_some _ e,qQ _ z t "str_iterator" (.inr rfl),⟨_,Heap.get?_push_size _ rfl,rfl,rfl⟩,fp,q⟩
 ·exact wpAny_pyIter_ascii ha ⟨s1.heap.objs.size,[s1.heap.objs.size],_,_,H1,rfl,I1.kept (t':=s1.toks) λb o e=>Heap.get?_push_of_some _ e,qQ _ z t "str_ascii_iterator" (.inl rfl),⟨_,Heap.get?_push_size _ rfl,rfl,rfl⟩,fp,q⟩
end
section
variable {X:Cx}
theorem zt:OpR X (compareOp .LtE) (λx y H Q=>∃ i j,x=.str i/\y=.str j/\Q (.bl (!decide (j.cps.toList<i.cps.toList))) H):=by
 intro pins s U H x y v u Q I rx ry h
 obtain ⟨i,j,rfl,rfl,q⟩:=h
 obtain ⟨t,rfl⟩:=rx
 obtain ⟨t',rfl⟩:=ry
 exact PySem.P.le_str (aO I q rfl)
def K1:V->Option Int->Option Int->Hp->VK->Prop:=λx lo hi H Q=>∃ z,x=.str z/\z.length<=sizeLine/\Q (.str (Txt.slice z lo hi)) H
theorem rS {v:Value}{o:Option Int}(p:IsPart v o):∃ q:Option (Int×Tok),v=partValue q/\q.map (·.1)=o:=by
 cases p with
 |none=>exact ⟨none,rfl,rfl⟩
 |int i t=>exact ⟨some (i,t),rfl,rfl⟩
theorem E5:SlR X K1:=by
 intro pins s U H x v vl vu lo hi sl Q I rx hs pl pu h
 obtain ⟨z,rfl,hz,q⟩:=h
 obtain ⟨t,rfl⟩:=rx
 obtain ⟨ql,rfl,rfl⟩:=rS pl
 obtain ⟨qu,rfl,rfl⟩:=rS pu
 obtain ⟨o,ho,hc,hd⟩:=hs
 refine ⟨"str",_,F.slot_str_getitem.lookup,typeIs_str _ _ _,wpAny_getItem_str_slice (l:=ql) (u:=qu) (st:=none) ⟨o,ho,hc,hd⟩ rfl (post_val_or_str ⟨Nat.le_trans (Txt.slice_le z _ _) hz,λt' k=>?_⟩)⟩
 exact ⟨.str (Txt.slice z (ql.map (·.1)) (qu.map (·.1))),H,I.tok k,⟨t',rfl⟩,q⟩
theorem zv (hc:X.calm=true):a8 X (.builtin "all") (λxs H Q=>∃ (p:Addr) (bs:List Bool),xs=[.ref p]/\SqL X.K H p (bs.map V.bl)/\Q (.bl (bs.all id)) H):=by
 intro pins s U H xs us Q I r h
 obtain ⟨p,bs,rfl,hS,q⟩:=h
 obtain ⟨u,rfl,ru⟩:=bW r
 cases ru
 obtain ⟨its,rv,pl,hz⟩:=I.list hS
 have il:=pl.isList
 have hl:=rv.length
 rw [List.length_map] at hl
 have bAt:∀ {i:Nat}{v:Value},its.toArray[i]?=some v->v=.bool (bs.getD i true):=fun {i v} h=>by
  have h':its[i]?=some v:=by simpa using h
  have hi:i<its.length:=(List.getElem?_eq_some_iff.mp h').1
  have hb:i<bs.length:=by omega
  obtain ⟨u,h1,h2⟩:=rv.get (i:=i) (x:=.bl (bs.getD i true)) (by simp [hb])
  rw [h'] at h1
  injection h1 with h1
  subst h1
  exact h2
 have W:=Walks.list (prog:=X.prog) (w:=X.w) (A:=X.A.in1) (I.ok.hd hc) s.heap.objs.size p (by
  obtain ⟨o,n,e,_⟩:=pl
  exact Nat.ne_of_lt (Heap.lt_size e)) its.toArray
 refine call_all_walk (wpAny_pyIter_list il ⟨_,_,_,_,_,_,λi=>bs.getD i true,rfl,W,⟨⟨_,Heap.get?_push_size _ rfl,rfl,rfl⟩,il.push _⟩,λi v s Q E hv hq=>?_,λh' tk hk=>?_⟩)
 ·rw [bAt hv]
  exact wpAny_truthy_bool hq
 ·refine ⟨.bl _,H,I.kept λb o e=>hk b o (Co e) (Heap.get?_push_of_some _ e),?_,q⟩
  show Value.bool _=Value.bool _
  congr 1
  have e1:its.toArray.size=bs.length:=by rw [List.size_toArray];omega
  rw [e1]
  clear q hS rv bAt W hl e1
  rw [Bool.eq_iff_iff,List.all_eq_true,List.all_eq_true]
  constructor
  ·intro h b hb
   obtain ⟨i,hi,rfl⟩:=List.mem_iff_getElem.mp hb
   have:=h i (List.mem_range.mpr hi)
   rw [rR hi] at this
   exact this
  ·intro h i hi
   have hi':=List.mem_range.mp hi
   rw [rR hi']
   exact h _ (List.getElem_mem hi')
def E6:V->List V->Hp->VK->Prop:=λx vs H Q=>∃ a b,x=.str a/\vs=[.str b]/\b.length≠0/\a.length<=1000/\∀ l,H l=none->Q (.ref l) (upd H l (.lst ((Txt.split a b).map V.str)))
theorem qz:∀ {l:List (Str×Tok)},am (l.map λp=>V.str p.1) (strValues l)
 |[]=>.nil
 |(x,t)::r=>.cons ⟨t,rfl⟩ qz
theorem Az:MtR X "str.split" E6:=by
 intro pins s U H x vs v us Q I rx rv h
 obtain ⟨a,b,rfl,rfl,hb,hz,q⟩:=h
 obtain ⟨t,rfl⟩:=rx
 obtain ⟨u,rfl,t2,rfl⟩:=bW rv
 have MU:=PyProof.Rows.split_le a b
 have hy:(b.length==0)=false:=by simpa using hb
 have hbig:1002<=sizeLine:=by decide
 have hsz:a.length<=sizeLine:=by omega
 have fin:∀ (l:List (Str×Tok)) (k:Nat),l.map (·.1)=Txt.split a b->EP X pins U Q (.ref s.heap.objs.size) { s with heap:=s.heap.push { cls:=.type "list",data:=.seq (strValues l).toArray },toks:=k }:=λl k e=>by
  have e1:l.length=(Txt.split a b).length:=by rw [<- e,List.length_map]
  have e2:(l.map λp=>V.str p.1)=(Txt.split a b).map V.str:=by rw [<- e,List.map_map];rfl
  refine ⟨.ref _,_,I.lnew (its:=strValues l) (ys:=l.map λp=>V.str p.1) qz (by rw [List.length_map];omega),rfl,?_⟩
  rw [e2]
  exact q _ I.fresh
 cases h1:(decide (a.length<b.length) || decide (Builtin.Str.strKind a<Builtin.Str.strKind b))
 ·cases hf:(Builtin.Str.occurrences a b 0 a.length (a.length+1)).isEmpty
  ·have e3:Txt.split a b=Builtin.Str.partsBetween a (Builtin.Str.occurrences a b 0 a.length (a.length+1)) b.length:=(if_neg (ne_true_of_eq_false h1)).trans (if_neg (ne_true_of_eq_false hf))
   have hsz2:(Builtin.Str.partsBetween a (Builtin.Str.occurrences a b 0 a.length (a.length+1)) b.length).length<=sizeLine:=by rw [<- e3];omega
   refine call_meets F.slot_str_split (typeIs_str _ _ _) F.entry_str_split (F.args_str_split_2 _ _) (meets_str_split_sep a b t t2 h1 hy hf hsz hsz2) ?_
   show wants _ _ _ { s with toks:=_,heap:=s.heap.push { cls:=.type "list",data:=.seq (strsFrom s.toks (Builtin.Str.partsBetween a (Builtin.Str.occurrences a b 0 a.length (a.length+1)) b.length)).toArray } }
   rw [strsFrom_eq]
   exact fin (numbered s.toks _) _ ((numbered_texts _ _).trans e3.symm)
  ·exact call_meets F.slot_str_split (typeIs_str _ _ _) F.entry_str_split (F.args_str_split_2 _ _) (meets_str_split_not_found a b t t2 h1 hy hf)
    (fin [(a,t)] s.toks ((if_neg (ne_true_of_eq_false h1)).trans (if_pos hf)).symm)
 ·exact call_meets F.slot_str_split (typeIs_str _ _ _) F.entry_str_split (F.args_str_split_2 _ _) (meets_str_split_cannot_occur a b t t2 h1)
   (fin [(a,t)] s.toks (if_pos h1).symm)
theorem rT:∀ {zs:List Str}{its:List Value},am (zs.map V.str) its->∃ l:List (Str×Tok),its=strValues l/\l.map (·.1)=zs
 |[],_,r=>by
  rw [List.map_nil] at r
  cases r
  exact ⟨[],rfl,rfl⟩
 |z::zs,_,r=>by
  rw [List.map_cons] at r
  cases r with
  |cons r1 r2 =>
   obtain ⟨t,rfl⟩:=r1
   obtain ⟨l,rfl,e⟩:=rT r2
   exact ⟨(z,t)::l,rfl,by rw [List.map_cons,e]⟩
def Il (K:PySem.W.Frag):V->List V->Hp->VK->Prop:=λx vs H Q=>∃ (a:Str) (p:Addr) (zs:List Str),x=.str a/\vs=[.ref p]/\SqL K H p (zs.map V.str)/\JoinOk a zs=true/\Q (.str (Txt.join a zs)) H
theorem Cq:MtR X "str.join" (Il X.K):=by
 intro pins s U H x vs v us Q I rx rv h
 obtain ⟨a,p,zs,rfl,rfl,hS,hok,q⟩:=h
 obtain ⟨t,rfl⟩:=rx
 obtain ⟨u,rfl,ru⟩:=bW rv
 cases ru
 obtain ⟨its,r,pl,hz⟩:=I.list hS
 obtain ⟨l,rfl,e⟩:=rT r
 exact SC.join pl.isList e hok λt' k=>⟨.str (Txt.join a zs),H,I.tok k,⟨t',rfl⟩,q⟩
end
section
variable {κ:Type}[DecidableEq κ]
noncomputable def aZ (kvs:List (κ×V)) (k:κ):Option V:=(kvs.find? λkv=>decide (kv.1=k)).map (·.2)
noncomputable def b6 (kvs:List (κ×V)) (k:κ) (v:V):List (κ×V) :=
 if (kvs.any λkv=>decide (kv.1=k))=true then kvs.map (λkv=>if kv.1=k then (kv.1,v) else kv) else kvs++[(k,v)]
noncomputable def eA (kvs:List (κ×V)) (k:κ):List (κ×V):=kvs.filter λkv=>decide (kv.1≠k)
theorem lX {p:κ×V}{r:List (κ×V)}{k:κ}(e:p.1=k):aZ (p::r) k=some p.2:=by simp [aZ,List.find?_cons,e]
theorem lY {p:κ×V}{r:List (κ×V)}{k:κ}(e:¬ p.1=k):aZ (p::r) k=aZ r k:=by simp [aZ,List.find?_cons,e]
theorem qR (k:κ):∀ kvs:List (κ×V),(kvs.any λkv=>decide (kv.1=k))=(aZ kvs k).isSome
 |[]=>rfl
 |p::r=>by
  rw [List.any_cons]
  by_cases e:p.1=k
  ·simp only [lX e,decide_eq_true e,Bool.true_or,Option.isSome_some]
  ·rw [lY e,decide_eq_false e,Bool.false_or];exact qR k r
theorem p5 (kvs:List (κ×V)) (k:κ) (v:V):(b6 kvs k v).length<=kvs.length+1:=by
 unfold b6
 split
 ·rw [List.length_map];omega
 ·rw [List.length_append,List.length_cons,List.length_nil];omega
theorem bw.isSome_eq {o:Option V}{u:Option Value}(r:bw o u):o.isSome=u.isSome:=by
 cases o with
 |none=>cases u with
  |none=>rfl
  |some _=>exact (show False from r).elim
 |some _=>cases u with
  |none=>exact (show False from r).elim
  |some _=>rfl
theorem bw.getD {o:Option V}{u:Option Value}{d:V}{d':Value}(r:bw o u) (rd:au d d'):au (o.getD d) (u.getD d'):=by
 cases o with
 |none=>cases u with
  |none=>exact rd
  |some _=>exact (show False from r).elim
 |some _=>cases u with
  |none=>exact (show False from r).elim
  |some _=>exact r
theorem KV.val {kvs:List (κ×V)}{vs:List (κ×Value)}(r:KV kvs vs) (k:κ):bw (aZ kvs k) (valueAt vs k):=by
 unfold KV at r
 induction r with
 |nil=>exact True.intro
 |@cons p q ps qs h t ih =>
  obtain ⟨h1,h2⟩:=h
  by_cases e:p.1=k
  ·have e':q.1=k:=h1.symm.trans e
   have b:valueAt (q::qs) k=some q.2:=by simp [valueAt,List.find?_cons,e']
   rw [lX e,b];exact h2
  ·have e':¬ q.1=k:=λz=>e (h1.trans z)
   have b:valueAt (q::qs) k=valueAt qs k:=by simp [valueAt,List.find?_cons,e']
   rw [lY e,b];exact ih
theorem KV.any {kvs:List (κ×V)}{vs:List (κ×Value)}(r:KV kvs vs) (k:κ):(kvs.any λkv=>decide (kv.1=k))=vs.any λkv=>decide (kv.1=k):=by
 unfold KV at r
 induction r with
 |nil=>rfl
 |cons h t ih=>rw [List.any_cons,List.any_cons,ih,h.1]
theorem KV.repl {kvs:List (κ×V)}{vs:List (κ×Value)}(r:KV kvs vs) (k:κ){y:V}{u:Value}(ry:au y u) :
  KV (kvs.map λkv=>if kv.1=k then (kv.1,y) else kv) (vs.map λkv=>if kv.1=k then (kv.1,u) else kv):=by
 unfold KV at r ⊢
 induction r with
 |nil=>exact .nil
 |@cons p q ps qs h t ih =>
  rw [List.map_cons,List.map_cons]
  refine .cons ?_ ih
  obtain ⟨h1,h2⟩:=h
  by_cases e:p.1=k
  ·rw [if_pos e,if_pos (h1.symm.trans e)];exact ⟨h1,ry⟩
  ·rw [if_neg e,if_neg (λz=>e (h1.trans z))];exact ⟨h1,h2⟩
theorem KV.put {kvs:List (κ×V)}{vs:List (κ×Value)}(r:KV kvs vs) (k:κ){y:V}{u:Value}(ry:au y u):KV (b6 kvs k y) (stored vs k u):=by
 unfold b6 stored
 rw [r.any k]
 by_cases e:(vs.any λkv=>decide (kv.1=k))=true
 ·rw [if_pos e,if_pos e];exact r.repl k ry
 ·rw [if_neg e,if_neg e];exact Paired.snoc r ⟨rfl,ry⟩
theorem KV.drop {kvs:List (κ×V)}{vs:List (κ×Value)}(r:KV kvs vs) (k:κ):KV (eA kvs k) (without vs k):=by
 unfold KV at r ⊢
 unfold eA without
 induction r with
 |nil=>exact .nil
 |@cons p q ps qs h t ih =>
  obtain ⟨h1,h2⟩:=h
  rw [List.filter_cons,List.filter_cons]
  by_cases e:p.1=k
  ·have a:¬ decide (p.1≠k)=true:=by simp [e]
   have b:¬ decide (q.1≠k)=true:=by simp [h1.symm.trans e]
   rw [if_neg a,if_neg b];exact ih
  ·have e':¬ q.1=k:=λz=>e (h1.trans z)
   have a:decide (p.1≠k)=true:=by simp [e]
   have b:decide (q.1≠k)=true:=by simp [e']
   rw [if_pos a,if_pos b];exact .cons ⟨h1,h2⟩ ih
theorem KV.length {kvs:List (κ×V)}{vs:List (κ×Value)}(r:KV kvs vs):kvs.length=vs.length:=Paired.length r
theorem AA (kvs:List (κ×V)) (k:κ):(eA kvs k).length<=kvs.length:=List.length_filter_le _ _
end
theorem eB {P:Program}{w:World}{k:Key}{u:Value}(r:au (kV k) u):(aW P w).is k u=true:=by
 cases k with
 |inl i=>obtain ⟨t,e⟩:=(show ∃ t,u=Value.int i t from r);subst e;exact yf P w i t
 |inr x=>obtain ⟨t,e⟩:=(show ∃ t,u=Value.str x t from r);subst e;exact yg P w x t
theorem qA {P:Program}{w:World}:∀ {ks:List Key}{us:List Value},am (ks.map kV) us->ItemsAre (aW P w) ks us
 |[],_,r=>by rw [List.map_nil] at r;cases r;exact .nil
 |k::ks,_,r=>by
  rw [List.map_cons] at r
  cases r with
  |cons h t=>exact .cons (eB h) (qA t)
abbrev KT (H:Hp):List (List Key×V)->List (List Key×Addr×Value)->Prop:=Paired λp q=>p.1=q.1/\H q.2.1=some (.tup (p.1.map kV))/\au p.2 q.2.2
theorem KT.val {H:Hp}{kvs:List (List Key×V)}{xs:List (List Key×Addr×Value)}(r:KT H kvs xs) (k:List Key):bw (aZ kvs k) ((atKey xs k).map (·.2)):=by
 induction r with
 |nil=>exact True.intro
 |@cons p q ps qs h t ih =>
  obtain ⟨h1,_,h2⟩:=h
  by_cases e:p.1=k
  ·have e':q.1=k:=h1.symm.trans e
   have b:atKey (q::qs) k=some q.2:=by simp [atKey,List.find?_cons,e']
   rw [lX e,b];exact h2
  ·have e':¬ q.1=k:=λz=>e (h1.trans z)
   have b:atKey (q::qs) k=atKey qs k:=by simp [atKey,List.find?_cons,e']
   rw [lY e,b];exact ih
theorem KT.repl {H:Hp}{kvs:List (List Key×V)}{xs:List (List Key×Addr×Value)}(r:KT H kvs xs) (k:List Key){y:V}{u:Value}(ry:au y u) :
  KT H (kvs.map λkv=>if kv.1=k then (kv.1,y) else kv) (xs.map (putAt k u)):=by
 induction r with
 |nil=>exact .nil
 |@cons p q ps qs h t ih =>
  rw [List.map_cons,List.map_cons]
  refine .cons ?_ ih
  obtain ⟨h1,h2,h3⟩:=h
  unfold putAt
  by_cases e:p.1=k
  ·rw [if_pos e,if_pos (h1.symm.trans e)];exact ⟨h1,h2,ry⟩
  ·rw [if_neg e,if_neg (λz=>e (h1.trans z))];exact ⟨h1,h2,h3⟩
theorem KT.put {H:Hp}{kvs:List (List Key×V)}{xs:List (List Key×Addr×Value)}(r:KT H kvs xs) (k:List Key){b:Addr}{y:V}{u:Value}(hb:H b=some (.tup (k.map kV))) (ry:au y u) :
  KT H (b6 kvs k y) (storedH xs k b u):=by
 have e:(kvs.any λkv=>decide (kv.1=k))=(atKey xs k).isSome:=by
  rw [qR,(r.val k).isSome_eq,Option.isSome_map]
 unfold b6 storedH
 rw [e]
 by_cases q:(atKey xs k).isSome=true
 ·rw [if_pos q,if_pos q];exact r.repl k ry
 ·rw [if_neg q,if_neg q];exact Paired.snoc r ⟨rfl,hb,ry⟩
theorem KT.keeps {H H':Hp}{kvs:List (List Key×V)}{xs:List (List Key×Addr×Value)}(r:KT H kvs xs) (ht:∀ b ys,H b=some (.tup ys)->H' b=some (.tup ys)):KT H' kvs xs :=
 Paired.mapP r λ_ _ z=>⟨z.1,ht _ _ z.2.1,z.2.2⟩
section
variable {P:Program}{w:World}{H:Hp}{h:Heap}{a:Addr}
theorem uN {u:HO}(ok:HOk P w H h) (e:Rd H a u):aP P w H h a u:=e.ok ok
theorem uO {kvs:List (Key×V)}(ok:HOk P w H h) (e:Rd H a (.dK kvs)):kvs.length<=sizeLine/\(a==sysModules)=false/\∃ vs,KV kvs vs/\h.DictOf (aW P w) a vs :=
 show aP P w H h a (.dK kvs) from uN ok e
theorem gR {kvs:List (Key×V)}(ok:HOk P w H h) (e:H a=some (.dK kvs)):kvs.length<=sizeLine/\(a==sysModules)=false/\∃ vs,KV kvs vs/\h.DictOf (aW P w) a vs:=uO ok (.inl e)
theorem mX {ks:List Key}(ok:HOk P w H h) (e:H a=some (.tup (ks.map kV))):(tupleKind (aW P w)).is h ks a:=by
 obtain ⟨_,its,r,o,h1,h2,n,h3⟩:=(show aP P w H h a (.tup (ks.map kV)) from ok a _ e)
 exact ⟨o,its.toArray,n,h1,h2,h3,by simpa using qA r⟩
theorem uP {kvs:List (List Key×V)}(ok:HOk P w H h) (e:Rd H a (.dT kvs)):kvs.length<=sizeLine/\(a==sysModules)=false /\
  ∃ xs,KT H kvs xs/\h.DictOfH (tupleKind (aW P w)) a xs:=by
 obtain ⟨z,y,xs,r,o,es,ep,h1,h2,h3,h4,h5⟩:=(show aP P w H h a (.dT kvs) from uN ok e)
 refine ⟨z,y,xs,r,o,es,ep,h1,h2,h3,h4,λx hx=>?_,h5⟩
 have all:∀ {l:List (List Key×V)}{m:List (List Key×Addr×Value)},KT H l m->∀ x∈m,(tupleKind (aW P w)).is h x.1 x.2.1:=by
  intro l m q
  induction q with
  |nil=>intro x hx;exact nomatch hx
  |@cons p q ps qs hq t ih =>
   intro x hx
   rcases List.mem_cons.mp hx with e|hx
   ·subst e
    exact mX ok (by rw [<- hq.1];exact hq.2.1)
   ·exact ih x hx
 exact all r x hx
theorem Io {kvs:List (List Key×V)}(ok:HOk P w H h) (e:H a=some (.dT kvs)):kvs.length<=sizeLine/\(a==sysModules)=false /\
  ∃ xs,KT H kvs xs/\h.DictOfH (tupleKind (aW P w)) a xs:=uP ok (.inl e)
end
def jU (H:Hp) (a:Addr) (y:V) (r:Option V):Prop :=
 (∃ kvs k,Rd H a (.dK kvs)/\y=kV k/\r=aZ kvs k)\/∃ kvs k b,Rd H a (.dT kvs)/\y=.ref b/\H b=some (.tup (k.map kV))/\r=aZ kvs k
def eE (H:Hp) (a:Addr) (y v:V) (H':Hp):Prop :=
 (∃ kvs k,H a=some (.dK kvs)/\y=kV k/\kvs.length<sizeLine/\H'=upd H a (.dK (b6 kvs k v))) \/
 ∃ kvs k b,H a=some (.dT kvs)/\y=.ref b/\H b=some (.tup (k.map kV))/\kvs.length<sizeLine/\H'=upd H a (.dT (b6 kvs k v))
theorem jU.t {H:Hp}{a b:Addr}{kvs:List (List Key×V)}{k:List Key}(e:H a=some (.dT kvs)) (eb:H b=some (.tup (k.map kV))):jU H a (.ref b) (aZ kvs k):=.inr ⟨kvs,k,b,.inl e,rfl,eb,rfl⟩
theorem eE.k {H:Hp}{a:Addr}{kvs:List (Key×V)}{k:Key}{v:V}(e:H a=some (.dK kvs)) (hl:kvs.length<sizeLine):eE H a (kV k) v (upd H a (.dK (b6 kvs k v))):=.inl ⟨kvs,k,e,rfl,hl,rfl⟩
theorem eE.t {H:Hp}{a b:Addr}{kvs:List (List Key×V)}{k:List Key}{v:V}(e:H a=some (.dT kvs)) (eb:H b=some (.tup (k.map kV))) (hl:kvs.length<sizeLine) :
  eE H a (.ref b) v (upd H a (.dT (b6 kvs k v))):=.inr ⟨kvs,k,b,e,rfl,eb,hl,rfl⟩
section
variable {X:Cx}{pins:List (Addr×Obj)}{U:St}{H:Hp}{s:Shared}{a:Addr}{y v:V}{u r:Value}{o:Option V}{A:Around}{E:Value->Shared->Prop}
theorem Inv.big (I:Inv X pins U H s):sysModules<s.heap.objs.size:=by
 have h:mainGlobals<s.heap.objs.size:=(I.mod.glob.keeps I.bk).lt
 exact Nat.lt_trans (by decide) h
theorem mF {h':Heap}{t':Nat}{ob:HO}(I:Inv X pins U H s) (mu:Mut (H a)) (hs:Heap.SameBut a s.heap h') (he:∃ q,h'.get? a=some q) (new:aP X.prog X.w (upd H a ob) h' a ob) :
  Inv X pins U (upd H a ob) { s with heap:=h',toks:=t' } :=
 I.write (x:=a) (e:=a) mu (.inl rfl) (λb q hb z=>(hs.2 b hb).trans z) he new
theorem tF {P:Program}{w:World}{H':Hp}{h':Heap}{kvs:List (Key×V)}{vs:List (Key×Value)}(z:kvs.length<=sizeLine) (hd:(a==sysModules)=false) (rel:KV kvs vs) (dd:h'.DictOf (aW P w) a vs) :
  aP P w H' h' a (.dK kvs):=⟨z,hd,vs,rel,dd⟩
theorem qB {H':Hp}{Q:Unit->Shared->Prop}(hu:A.units+1<cLine) (I:Inv X pins U H s) (g:eE H a y v H') (ry:au y u) (rv:au v r) (h:∀ s',Inv X pins U H' s'->Q () s') :
  wpAny (model X.prog X.w) A (setItem (.ref a) u r) Q E s:=by
 rcases g with ⟨kvs,k,e,ey,l,eH⟩|⟨kvs,k,b,e,ey,eb,l,eH⟩
 ·subst ey eH
  obtain ⟨z,hd,vs,rel,dd⟩:=gR I.hok e
  have hz:vs.length<=sizeLine:=by rw [<- rel.length];exact z
  have hl:(b6 kvs k v).length<=sizeLine:=by have:=p5 kvs k v;omega
  refine wpAny_setItem_pairs (hsz:=hz) (eB ry) dd λh' Th hs=>h _ ?_
  have he:∃ q,h'.get? a=some q:=let ⟨q,_,_,hq,_⟩:=Th;⟨q,hq⟩
  exact mF I (by rw [e];exact True.intro) hs he (tF hl hd (rel.put k rv) Th)
 ·subst ey eH
  cases (show u=Value.ref b from ry)
  obtain ⟨z,hd,xs,rel,dd⟩:=Io I.hok e
  have hz:xs.length<=sizeLine:=by rw [<- Paired.length rel];exact z
  have hl:(b6 kvs k v).length<=sizeLine:=by have:=p5 kvs k v;omega
  refine wpAny_setItem_heap (hsz:=hz) (tupleKind_room_in1 hu) (mX I.hok eb) dd λh' Th hs=>h _ ?_
  obtain ⟨q,es,ep,hq,h2,h3,h4,_,h5⟩:=Th
  refine mF I (by rw [e];exact True.intro) hs ⟨q,hq⟩ ⟨hl,hd,_,(rel.put k eb rv).keeps λc ys ec=>?_,q,es,ep,hq,h2,h3,h4,h5⟩
  rw [aB (cS ec e (λz=>nomatch z))]
  exact ec
end
section
variable {X:Cx}{pins:List (Addr×Obj)}{U:St}{H:Hp}{s:Shared}{a:Addr}{kvs:List (Key×V)}{k:Key}{u:Value}{A:Around}{E:Value->Shared->Prop}
theorem Ip {v:V}{Of:List Value}{Q:Value->Shared->Prop}(I:Inv X pins U H s) (e:H a=some (.dK kvs)) (ry:au (kV k) u) (l:aZ kvs k=some v) (hm:Of=[]\/∃ x,Of=[x])
  (h:∀ w' s',Inv X pins U (upd H a (.dK (eA kvs k))) s'->au v w'->Q w' s'):wpAny (model X.prog X.w) A (call (.builtin "dict.pop") (.ref a::u::Of)) Q E s:=by
 obtain ⟨z,hd,vs,rel,dd⟩:=gR I.hok e
 obtain ⟨w',hw,QB⟩:=bw.some_of (v:=v) (o:=valueAt vs k) (by rw [<- l];exact rel.val k)
 have hp:(keyPart u).isSome=true:=by
  cases k with
  |inl i=>obtain ⟨t,q⟩:=(show ∃ t,u=Value.int i t from ry);subst q;rfl
  |inr x=>obtain ⟨t,q⟩:=(show ∃ t,u=Value.str x t from ry);subst q;rfl
 have ha:argsOk "dict.pop" ⟨.ref a::u::Of,[]⟩:=by
  rcases hm with q|⟨x,q⟩
  ·subst q;exact PySem.F.args_dict_pop_2 _ _
  ·subst q;exact PySem.F.args_dict_pop_3 _ _ _
 refine call_meetsIn PySem.F.slot_dict_pop dd.typeIs PySem.F.entry_dict_pop ha (meets_dict_pop_there (aW X.prog X.w) a (eB ry) Of hm hp)
  ⟨vs,w',dd,by rw [<- rel.length];exact z,hw,λh' Th hs=>h w' _ ?_ QB⟩
 have he:∃ q,h'.get? a=some q:=let ⟨q,_,_,hq,_⟩:=Th;⟨q,hq⟩
 exact mF I (by rw [e];exact True.intro) hs he (tF (Nat.le_trans (AA kvs k) z) hd (rel.drop k) Th)
end
def hZ (i:Expr):Prop:=∀ ov iv,subscripted i false ov iv=operate [ov,iv] (getItem ov iv)
theorem Cr {prog:Program}{w:World}{A:Around}{E:Value->Shared->Prop}{s:Shared}{env:Env}{value slice:Expr}{pos:Pos}{T id:String}{Q:Value->Shared->Prop}
  (hl:typeLookup (.type T) "__getitem__"=pure (some (.builtin id))) (hs:hZ slice)
  (h:wpAny (model prog w) A (eval value env) (λo L6=>wpAny (model prog w) A (eval slice env) (λi PD=>PD.TypeIs o T/\wpAny (model prog w) A (getItem o i) Q E PD) E L6) E s) :
  wpAny (model prog w) A (eval (.Subscript value slice pos) env) Q E s:=by
 refine Subscript_ (wpAny_mono h (λo L6 h₁=>wpAny_mono h₁ (λi PD Rz=>?_) λ_ _ x=>x) λ_ _ x=>x)
 obtain ⟨hT,Rz⟩:=Rz
 unfold subscriptTail
 refine wpAny_bind ?_
 rw [getitemInPython_of_ne hT.not_modules]
 refine wpAny_bind (wpAny_specialOf hT hl ?_)
 have fin:wpAny (model prog w) A (subscripted slice false o i) (λr Qn=>wpAny (model prog w) A (letTemporaryGo value o r >>= λ_=>pure r) Q E Qn) E PD:=by
  rw [hs o i]
  exact wpAny_operating (wpAny_mono Rz (λr Qn SE=>wpAny_bind (wpAny_letTemporaryGo (wpAny_pure SE))) λ_ _ x=>x)
 first
  |exact wpAny_pure (wpAny_bind fin)
  |exact wpAny_bind (wpAny_pure (wpAny_bind fin))
  |exact wpAny_bind fin
section
variable {X:Cx}{o i e value:Expr}{pos MT NA:Pos}{td ty tv:TE}
end
theorem AB {P:Program}{w:World}{H:Hp}(h:Heap) (hb:sysModules<h.objs.size):aP P w H (h.push { cls:=.type "dict",data:=.dict #[] }) h.objs.size (.dK []) :=
 ⟨Nat.zero_le _,beq_eq_false_iff_ne.mpr (Ne.symm (Nat.ne_of_lt hb)),[],.nil,Heap.DictOf.new h⟩
theorem AC {P:Program}{w:World}{H:Hp}(h:Heap) (hb:sysModules<h.objs.size):aP P w H (h.push { cls:=.type "dict",data:=.dict #[] }) h.objs.size (.dT []) :=
 ⟨Nat.zero_le _,beq_eq_false_iff_ne.mpr (Ne.symm (Nat.ne_of_lt hb)),[],.nil,_,#[],0,Heap.get?_push_size _ rfl,⟨rfl,rfl,rfl⟩,rfl,rfl,List.nodup_nil⟩
def E7:TE:=λ_ H Q=>∀ p,H p=none->Q (.ref p) (upd H p (.dK []))
def E8:TE:=λ_ H Q=>∀ p,H p=none->Q (.ref p) (upd H p (.dT []))
section
variable {X:Cx}{pos:Pos}
theorem AD:PE X (.Dict [] [] pos) E7:=λpins s U H Q I h =>
 wpAny_Dict_empty ⟨.ref s.heap.objs.size,_,I.laid (a:=s.heap.objs.size) (o:=.dK []) (t':=s.toks) (λ_ _ q=>Heap.get?_push_of_some _ q) (Nat.le_refl _) (AB s.heap I.big),rfl,h _ (I.hok.fresh (Nat.le_refl _))⟩
theorem AE:PE X (.Dict [] [] pos) E8:=λpins s U H Q I h =>
 wpAny_Dict_empty ⟨.ref s.heap.objs.size,_,I.laid (a:=s.heap.objs.size) (o:=.dT []) (t':=s.toks) (λ_ _ q=>Heap.get?_push_of_some _ q) (Nat.le_refl _) (AC s.heap I.big),rfl,h _ (I.hok.fresh (Nat.le_refl _))⟩
end
structure M1 (X:Cx) (o:Expr) (m:Str) (apos:Pos) (e:Expr) (cpos:Pos):Prop where
 base:attributeBase o m X.env (eval o X.env)=eval o X.env
 few:((backTo cpos (starEach [e] X.env)).all (λx=>!x.1)&&(backToKw cpos (keywordEach [] X.env)).all (λx=>x.1.isSome)
  && decide (([e]:List Expr).length+([]:List Keyword).length+(if ([]:List Keyword).isEmpty then 0 else 1)<30))=true
 line:(apos.endLine==cpos.line)=true
 trees:backTo cpos (starEach [e] X.env)=[(false,eval e X.env)]
structure M2 (X:Cx) (o:Expr) (m:Str) (apos:Pos) (e f:Expr) (cpos:Pos):Prop where
 base:attributeBase o m X.env (eval o X.env)=eval o X.env
 few:((backTo cpos (starEach [e,f] X.env)).all (λx=>!x.1)&&(backToKw cpos (keywordEach [] X.env)).all (λx=>x.1.isSome)
  && decide (([e,f]:List Expr).length+([]:List Keyword).length+(if ([]:List Keyword).isEmpty then 0 else 1)<30))=true
 line:(apos.endLine==cpos.line)=true
 trees:backTo cpos (starEach [e,f] X.env)=[(false,eval e X.env),(false,eval f X.env)]
section
variable {X:Cx}{pins:List (Addr×Obj)}{U:St}{H:Hp}{s:Shared}{a:Addr}{y d:V}{u r:Value}{o:Option V}{A:Around}{E:Value->Shared->Prop}
theorem E9 {Q:Value->Shared->Prop}(hu:A.units+1<cLine) (I:Inv X pins U H s) (g:jU H a y o) (ry:au y u) (rd:au d r) (h:∀ w' s',Inv X pins U H s'->au (o.getD d) w'->Q w' s') :
  wpAny (model X.prog X.w) A (call (.builtin "dict.get") [.ref a,u,r]) Q E s:=by
 rcases g with ⟨kvs,k,e,ey,l⟩|⟨kvs,k,b,e,ey,eb,l⟩
 ·subst ey
  obtain ⟨z,hd,vs,rel,dd⟩:=uO I.hok e
  refine call_meetsIn PySem.F.slot_dict_get dd.typeIs PySem.F.entry_dict_get (PySem.F.args_dict_get_3 _ _ _) (meets_dict_get_default (aW X.prog X.w) a (eB ry) hd r) ⟨_,dd.mapOf,h _ _ (I.tok _) ?_⟩
  rw [l]
  exact (rel.val k).getD rd
 ·subst ey
  cases (show u=Value.ref b from ry)
  obtain ⟨z,hd,xs,rel,dd⟩:=uP I.hok e
  refine call_meetsIn PySem.F.slot_dict_get dd.typeIs PySem.F.entry_dict_get (PySem.F.args_dict_get_3 _ _ _) (meetsH_dict_get_default (tupleKind (aW X.prog X.w)) a b hd r) ⟨tupleKind_room_in1 hu,k,xs,mX I.hok eb,dd,h _ _ (I.tok _) ?_⟩
  rw [l]
  exact (rel.val k).getD rd
end
section
variable {X:Cx}{o e f:Expr}{apos cpos:Pos}{td ty tx:TE}
end
section
variable {X:Cx}{pins:List (Addr×Obj)}{U:St}{H:Hp}{s:Shared}{a:Addr}{kvs:List (Key×V)}{A:Around}{E:Value->Shared->Prop}
end
section
variable {X:Cx}{pins:List (Addr×Obj)}{U:St}{H:Hp}{s:Shared}{a:Addr}{y:V}{u:Value}{A:Around}{E:Value->Shared->Prop}
end
section
variable {κ:Type}[DecidableEq κ]
end
def bP (D:Addr) (zs:List V):HO:=.ext λh=>zs.length<=sizeLine/\∃ (its:List Value) (n:Nat),am zs its/\h.get? D=some { cls:=.type "list",data:=.seq its.toArray n }
theorem Inv.toAcc {X:Cx}{pins:List (Addr×Obj)}{U:St}{H:Hp}{s:Shared}{D:Addr}{zs:List V}(I:Inv X pins U H s) (h:H D=some (.lst zs)):Inv X pins U (upd H D (bP D zs)) s:=by
 obtain ⟨z,its,n,r,e⟩:=I.hok D _ h
 obtain ⟨hh,g,d,t,os⟩:=s
 exact I.write (t':=t) (h':=hh) (x:=D) (e:=D) (by rw [h];trivial) (.inl rfl) (λb u _ q=>q) ⟨_,e⟩ ⟨⟨z,its,n,r,e⟩,⟨_,e⟩,λh1 h2 zz45 k=>by obtain ⟨z',its',n',r',e'⟩:=zz45;exact ⟨z',its',n',r',k _ e'⟩⟩
theorem Inv.ofAcc {X:Cx}{pins:List (Addr×Obj)}{U:St}{H:Hp}{s:Shared}{D:Addr}{zs:List V}(I:Inv X pins U H s) (h:H D=some (bP D zs)):Inv X pins U (upd H D (.lst zs)) s:=by
 obtain ⟨⟨z,its,n,r,e⟩,_,_⟩:=I.hok D _ h
 obtain ⟨hh,g,d,t,os⟩:=s
 exact I.write (t':=t) (h':=hh) (x:=D) (e:=D) (by rw [h];trivial) (.inl rfl) (λb u _ q=>q) ⟨_,e⟩ ⟨z,its,n,r,e⟩
section
variable {X:Cx}{pins:List (Addr×Obj)}{U:St}{H:Hp}{s:Shared}{scope:Scope}{Nc:List Str}{fp:List Addr}{C:Addr}
def tG (J:It) (n:Nat) (LZ:List Nat) (g:TG) (tt:TT) (te:TE) (U:St) (H1:Hp) (Q:VK):Prop:=∀ D,H1 D=none->∃ W:Nat->Nat->List V->St->Hp->Prop,(∃ m,W 0 m [] (fu n LZ U) (upd H1 D (bP D [])))/\∀ i m zs σc H,W i m zs σc H ->
 H D=some (bP D zs)/\((J.stop i H/\Q (.ref D) (upd H D (.lst zs)))\/(J.go i H/\∃ N:List V->St->Hp->Prop,(∀ zs' LR H',N zs' LR H'->∃ m',m'<m/\W (i+1) m' zs' LR H')/\∀ x H',J.yld i H x H'->g x σc H' λMR H2=>tt MR H2 λb H3 =>
  if b=true then te MR H3 λy H4=>H4 D=some (bP D zs)/\zs.length<sizeLine/\N (zs++[y]) MR (upd H4 D (bP D (zs++[y]))) else N zs MR H3))
def mY (wi:TI) (n:Nat) (LZ:List Nat) (g:TG) (tt:TT) (te:TE):TE:=λU H Q=>wi U H λJ H1=>tG J n LZ g tt te U H1 Q
variable {OH Mg LV:Expr}{Og:List Expr}{pos:Pos}{n:Nat}{LZ:List Nat}{wi:TI}{g:TG}{tt:TT}{te:TE}
theorem p6 {J:It}{it:Addr}{tn:Nat->Heap->Prop}{Q:VK}{E:Value->Shared->Prop}{RR:Value->Addr->Result->Shared->Prop}(NX:X.calm=true) (S:CompSc X scope) (Rg:em X.N Nc scope n LZ=true)
  (hg:∀ C s₀ H₀ ex,PG (X.comp scope Nc C s₀ H₀ ex) LV g) (ht:∀ C s₀ H₀ ex,PTs (X.comp scope Nc C s₀ H₀ ex) Og tt) (he:∀ C s₀ H₀ ex,PE (X.comp scope Nc C s₀ H₀ ex) OH te)
  (I:Inv X pins U H s) (T:Turn X.prog X.w X.K LV J fp it tn) (t0:tn 0 s.heap) (hf:∀ b∈fp,bO X pins H b) (hw:tG J n LZ g tt te U H Q)
  (fin:∀ (D:Addr) (s':Shared) (H':Hp) (m:Str->Option Value),Inv X pins U H' s'->H' (s.heap.objs.size+1)=none->s'.heap.Ns (s.heap.objs.size+1) m->Q (.ref D) H'->RR (.ref D) (s.heap.objs.size+1) (.ok .next) s') :
  wpAny (model X.prog X.w) X.A (newList []) (λLU Qn=>wpAny (model X.prog X.w) X.A (newFunctionEnv scope X.env.globals (cK scope X.env) [] X.env.qual none .none (some X.env)) (λcenv SD =>
   codeAny (model X.prog X.w) X.A (.compStart (.ListComp OH [⟨LV,Mg,Og,0⟩] scope pos) 0 (.ref it) LU { cenv with scope:=relabel scope X.env }) (RR LU cenv.locals) SD) E Qn) E s:=by
 refine wpAny_newObj_type (wpAny_newFunctionEnv S.nocell (by intro y hy;simp at hy) (λh₁ PF OI=>?_) S.kind)
 dsimp only at PF OI ⊢
 generalize hH2:s.heap.push { cls:=.type "list",dict:=none,data:=.seq ([]:List Value).toArray }=H2 at PF OI ⊢
 have hC:H2.objs.size=s.heap.objs.size+1:=by rw [<- hH2,Heap.size_push]
 rw [hC] at PF OI
 have Tv:∀ b∈fp,b<s.heap.objs.size:=λb hb=>by
  obtain ⟨o,e,_⟩:=T.obj _ _ t0 b hb
  exact Heap.lt_size e
 have old:∀ b o,s.heap.get? b=some o->h₁.get? b=some o:=λb o e=>OI.extBut b o (Nat.ne_of_lt (Nat.lt_succ_of_lt (Heap.lt_size e))) (Heap.get?_push_of_some _ (hH2 ▸ Heap.get?_push_of_some _ e))
 have hD:h₁.get? s.heap.objs.size=some { cls:=.type "list",data:=.seq #[] 0 }:=OI.extBut _ _ (Nat.ne_of_lt (Nat.lt_succ_self _)) (Heap.get?_push_of_some _ (hH2 ▸ Heap.get?_push_size _ rfl))
 have I0:Inv (X.comp scope Nc (s.heap.objs.size+1) s H fp) [] (fu n LZ U) (upd H s.heap.objs.size (.lst [])) { s with heap:=h₁,toks:=s.toks+([]:List (Str×Value)).length } :=
  yH I S Rg hf Tv PF old hD
 replace I0:=I0.toAcc (D:=s.heap.objs.size) aM
 rw [i4] at I0
 obtain ⟨W,⟨m0,w0⟩,turn⟩:=hw s.heap.objs.size I.fresh
 have fr0:∀ b∈fp,upd H s.heap.objs.size (bP s.heap.objs.size []) b=none:=λb hb=>by
  rw [aB (Nat.ne_of_lt (Tv b hb))]
  exact (hf b hb).1
 have stat:∀ {H':Hp},(∀ b∈fp,H' b=none)->∀ b∈fp,bO (X.comp scope Nc (s.heap.objs.size+1) s H fp) [] H' b:=λhn b hb =>
  ⟨hn b hb,(λe=>Nat.ne_of_lt (Nat.lt_succ_of_lt (Tv b hb)) e),I0.ok.exfs b hb,.inl hb,(I0.ok.exf b hb).2,λp hp=>absurd (show p∈([]:List (Addr×Obj)) from hp) (by simp)⟩
 have loop:codeAny (model X.prog X.w) X.A (.compLoop (.ListComp OH [⟨LV,Mg,Og,0⟩] scope pos) 0 (.ref it) (.ref s.heap.objs.size) (compEnvC scope (cK scope X.env) (s.heap.objs.size+1) X.env))
   (RR (.ref s.heap.objs.size) (s.heap.objs.size+1)) { s with heap:=h₁,toks:=s.toks+([]:List (Str×Value)).length }:=by
  refine yn (λm s'=>∃ i zs LR H',Inv (X.comp scope Nc (s.heap.objs.size+1) s H fp) [] LR H' s'/\tn i s'.heap/\(∀ b∈fp,H' b=none)/\W i m zs LR H') ?_ m0
   ⟨0,_,_,_,I0,T.keep _ _ _ t0 λb _ o e=>old b o e,fr0,w0⟩
  rintro m s3 ⟨i,zs,Sm,H3,I3,st3,fr3,w3⟩
  obtain ⟨hD3,w3'⟩:=turn i m zs Sm H3 w3
  rcases w3' with ⟨stop,qn⟩|⟨go,N,hN,step⟩
  ·refine thn (T.done (X.comp scope Nc (s.heap.objs.size+1) s H fp) rfl rfl rfl NX i [] s3 Sm H3 _ I3 (stat fr3) st3 stop) λr s4 ⟨hr,I4⟩=>?_
   subst hr
   obtain ⟨m4,hn4,_⟩:=I4.loc
   have I4':=I4.ofAcc hD3
   exact fin _ s4 _ m4 (zq I hf I4') I4'.free hn4 qn
  ·refine thn (T.item (X.comp scope Nc (s.heap.objs.size+1) s H fp) rfl rfl rfl NX i [] s3 Sm H3 _ I3 (stat fr3) st3 go) λr s4 ⟨u,hr,h4⟩=>?_
   subst hr
   refine thn h4 λ_ s5 zz46=>?_
   obtain ⟨x,H5,I5,r5,y5,Tq,fr5⟩:=zz46
   have I5':=I5.pinned (stat fr5) (T.obj _ _ Tq)
   refine thn (hg _ _ _ _ _ s5 Sm H5 x u _ I5' r5 (step x H5 y5)) λ_ s6 zz47=>?_
   obtain ⟨Sw,H6,I6,q6⟩:=zz47
   refine thn (ht _ _ _ _ _ s6 Sw H6 _ I6 q6) λok s7 zz48=>?_
   obtain ⟨H7,I7,q7⟩:=zz48
   have again:∀ {s8:Shared}{H8:Hp}{zs8:List V},Inv (X.comp scope Nc (s.heap.objs.size+1) s H fp) ([]++gG fp s5.heap) Sw H8 s8->N zs8 Sw H8 ->
     ∃ m',m'<m/\∃ i zs LR H',Inv (X.comp scope Nc (s.heap.objs.size+1) s H fp) [] LR H' s8/\tn i s8.heap/\(∀ b∈fp,H' b=none)/\W i m' zs LR H':=fun {s8 H8 zs8} I8 n8=>by
    obtain ⟨m',hm,w8⟩:=hN zs8 Sw H8 n8
    refine ⟨m',hm,i+1,zs8,Sw,H8,I8.unpinned,T.keep _ _ _ Tq λb hb o e=>(I8.pin (b,o) (List.mem_append_right _ (List.mem_append_right _ (iU hb e)))).1,λb hb=>?_,w8⟩
    obtain ⟨o,e,d⟩:=T.obj _ _ Tq b hb
    exact (I8.pin (b,o) (List.mem_append_right _ (List.mem_append_right _ (iU hb e)))).2.1
   cases ok with
   |false =>
    rw [if_neg Bool.false_ne_true] at q7 ⊢
    exact again I7 q7
   |true =>
    rw [if_pos rfl] at q7 ⊢
    refine thn (he _ _ _ _ _ s7 Sw H7 _ I7 q7) λy s8 zz49=>?_
    obtain ⟨v8,H8,I8,r8,hz,hl,q8⟩:=zz49
    refine thn (qv _ s8 Sw _ (.ref s.heap.objs.size) [v8] (.ref s.heap.objs.size) [y] (λ_ H9=>H9=upd H8 s.heap.objs.size (.lst (zs++[v8]))) (I8.ofAcc hz) rfl (.cons r8 .nil) ⟨_,zs,v8,rfl,rfl,aM,hl,by rw [i4]⟩) λ_ s9 zz50=>?_
    obtain ⟨_,H9,I9,_,q9⟩:=zz50
    subst q9
    have I9':=I9.toAcc (D:=s.heap.objs.size) aM
    rw [i4] at I9'
    exact again I9' q8
 have e2:({ newEnv scope H2.objs.size X.env.globals (cK scope X.env) X.env.qual none .none (some X.env) builtinsNs with scope:=relabel scope X.env }:Env)=compEnvC scope (cK scope X.env) (s.heap.objs.size+1) X.env:=by
  rw [hC];rfl
 have e3:(newEnv scope H2.objs.size X.env.globals (cK scope X.env) X.env.qual none .none (some X.env) builtinsNs).locals=s.heap.objs.size+1:=hC
 rw [e2,e3]
 exact codeAny_compStart_list loop (T.self _ 0 _ _ _ (T.keep _ _ _ t0 λb _ o e=>old b o e) loop)
theorem AF (Nc:List Str) (n:Nat) (LZ:List Nat) (NX:X.calm=true) (hi:PI X LV Mg wi) (hg:∀ C s₀ H₀ ex,PG (X.comp scope Nc C s₀ H₀ ex) LV g) (ht:∀ C s₀ H₀ ex,PTs (X.comp scope Nc C s₀ H₀ ex) Og tt)
  (he:∀ C s₀ H₀ ex,PE (X.comp scope Nc C s₀ H₀ ex) OH te) (Tz:fq X.env.scope scope=true:=by rfl) (Rg:em X.N Nc scope n LZ=true:=by rfl) (hs:∀ x,foldedSetIterable Mg X.env x=pure x:=by intro _;rfl) :
  PE X (.ListComp OH [⟨LV,Mg,Og,0⟩] scope pos) (mY wi n LZ g tt te):=by
 intro pins s U H Q I h
 have S:=qy Tz
 rw [eval_ListComp]
 refine wpAny_comprehension_free (use:=none) rfl hs (S.clos I.ok) S.kind S.loc (thn (hi pins s U H _ I h) λv s1 h1=>thn h1 λitv s2 h2=>?_)
 obtain ⟨it,fp,tn,J,H2,e,I2,T,t2,f2,hw⟩:=h2
 subst e
 refine p6 (RR:=λLU C=>compPost (model X.prog X.w) X.A X.xe none (EP X pins U Q) LU C) NX S Rg hg ht he I2 T t2 f2 hw ?_
 intro D s' H' m I' hn SB q
 refine ⟨m,SB,λh' TB=>⟨.ref D,H',?_,rfl,q⟩⟩
 refine I'.but TB hn (Nat.le_trans I2.sz (Nat.le_succ _)) (λe=>?_) (λx c hc e=>?_) λp hp e=>?_
 ·exact Nat.ne_of_lt (Nat.lt_succ_of_lt I2.lt) e.symm
 ·obtain ⟨v,ic⟩:=I2.cell x c hc
  exact Nat.ne_of_lt (Nat.lt_succ_of_lt ic.lt) e
 ·exact Nat.ne_of_lt (Nat.lt_succ_of_lt (Heap.lt_size (I2.pin p hp).1)) e
theorem AG {i:Nat}{x:Str}{px RA:Pos}(Nc:List Str) (n:Nat) (LZ:List Nat) (NX:X.calm=true) (hN:X.N.Nodup) (hix:X.N[i]?=some x) (hx:Loc X.env.scope x) (hi:PI X LV Mg wi) (hg:∀ C s₀ H₀ ex,PG (X.comp scope Nc C s₀ H₀ ex) LV g)
  (ht:∀ C s₀ H₀ ex,PTs (X.comp scope Nc C s₀ H₀ ex) Og tt) (he:∀ C s₀ H₀ ex,PE (X.comp scope Nc C s₀ H₀ ex) OH te)
  (hsw:swapsWith (.ListComp OH [⟨LV,Mg,Og,0⟩] scope pos) (some (.Name x px)) RA.line X.env=pure true:=by rfl) (Tz:fq X.env.scope scope=true:=by rfl) (Rg:em X.N Nc scope n LZ=true:=by rfl)
  (hs:∀ x,foldedSetIterable Mg X.env x=pure x:=by intro _;rfl) (hf:X.fn x=true\/X.env.scope.names.lookup x=some .local:=by first|exact .inl rfl|exact .inr rfl|assumption) :
  PS X (.Assign [.Name x px] (.ListComp OH [⟨LV,Mg,Og,0⟩] scope pos) RA) (fS (mY wi n LZ g tt te) (jz i)):=by
 intro pins s U H D I h
 have S:=qy Tz
 rw [exec_Assign_Name_used _ _ _ _ hsw]
 refine wpAny_bind (wpAny_standAt (wpAny_bind ?_))
 show wpAny _ X.A (do let _ <- comprehension (.ListComp OH [⟨LV,Mg,Og,0⟩] scope pos) scope X.env _ (newList []) false (eval Mg X.env) (some (assign (.Name x px) X.env))) _ _ s
 refine wpAny_bind (thn (wpAny_comprehension_free (use:=some (assign (.Name x px) X.env)) (Q:=λ_ s'=>SP X pins D .next s') rfl hs (S.clos I.ok) S.kind S.loc
  (thn (hi pins s U H _ I h) λv s1 h1=>thn h1 λitv s2 h2=>?_)) λ_ s' hq=>wpAny_pure (wpAny_pure hq))
 obtain ⟨it,fp,tn,J,H2,e,I2,T,t2,f2,hw⟩:=h2
 subst e
 refine p6 (RR:=λLU C=>compPost (model X.prog X.w) X.A X.xe (some (assign (.Name x px) X.env)) (λ_ s'=>SP X pins D .next s') LU C) NX S Rg hg ht he I2 T t2 f2 hw ?_
 intro Da s' H' m I' hn SB q
 show wpAny _ X.A (assign (.Name x px) X.env (.ref Da)) _ _ s'
 obtain ⟨oC,es,ep,eo,ed,rC⟩:=id SB
 have nl:s2.heap.objs.size+1≠X.env.locals:=λe=>Nat.ne_of_lt (Nat.lt_succ_of_lt I2.lt) e.symm
 have nc:∀ y c,X.env.cells.lookup y=some c->c≠s2.heap.objs.size+1:=λy c hc e=>by
  obtain ⟨v,ic⟩:=I2.cell y c hc
  exact Nat.ne_of_lt (Nat.lt_succ_of_lt ic.lt) e
 have np:∀ p∈X.pn++pins,p.1≠s2.heap.objs.size+1:=λp hp e=>Nat.ne_of_lt (Nat.lt_succ_of_lt (Heap.lt_size (I2.pin p hp).1)) e
 have I3:Inv X (pins++[(s2.heap.objs.size+1,oC)]) U H' s':=I'.pins_of λp hp=>by
  rcases List.mem_append.mp hp with z|z
  ·exact I'.pin p (List.mem_append_right _ z)
  ·obtain rfl:p=(s2.heap.objs.size+1,oC):=by simpa using z
   refine ⟨eo,hn,nl,λhb=>?_,λv e=>?_⟩
   ·have h1:=I2.nofs (a:=s2.heap.objs.size+1) (Nat.le_succ _)
    exact h1 hb
   ·rw [ed] at e;cases e
 refine wpAny_assign_Name (fZ I3 hN hix hx (u:=.ref Da) (v:=.ref Da) rfl (λs4 I4=>?_) hf)
 have g4:s4.heap.get? (s2.heap.objs.size+1)=some oC:=(I4.pin (s2.heap.objs.size+1,oC) (List.mem_append_right _ (List.mem_append_right _ (by simp)))).1
 refine ⟨m,⟨oC,es,ep,g4,ed,rC⟩,λh' TB=>?_⟩
 exact ⟨_,H',I4.unpinned.but TB hn (Nat.le_trans I2.sz (Nat.le_succ _)) nl nc np,q⟩
end
def wg (w:World) (od:Obj) (kvs:List (Key×V)):Prop:=kvs.length<=sizeLine/\∀ P:Program,∃ vs,KV kvs vs/\od.IsDictOf (aW P w) vs
noncomputable def fzH (w:World) (a:Addr) (od:Obj) (kvs:List (Key×V)):HO:=.ext λh=>h.get? a=some od/\wg w od kvs/\(a==sysModules)=false
theorem zw {P P':Program}{w:World}{es:List DictEntry}{vs:List (Key×Value)}(d:Pairs (aW P w) es vs):Pairs (aW P' w) es vs:=by
 induction d with
 |nil=>exact .nil
 |cons h1 h2 _ ih=>exact .cons h1 h2 ih
theorem oY {α β:Type}{F:α->β->Prop}:∀ {l:List α}{m:List β}{i:Nat}{b:β},Paired F l m->m[i]?=some b->∃ a,l[i]?=some a/\F a b
 |_,_,_,_,.nil,e=>by simp at e
 |_,_,0,_,.cons h _,e=>by simp at e;subst e;exact ⟨_,rfl,h⟩
 |_,_,i+1,_,.cons _ t,e=>by
  obtain ⟨a,h1,h2⟩:=oY (i:=i) t (by simpa using e)
  exact ⟨a,by simpa using h1,h2⟩
theorem Ct {P P':Program}{w:World}{od:Obj}{vs:List (Key×Value)}(h:od.IsDictOf (aW P w) vs):od.IsDictOf (aW P' w) vs:=by
 obtain ⟨es,ep,a,b,c,d,e⟩:=h
 exact ⟨es,ep,a,b,c,zw d,e⟩
section
variable {X:Cx}{pins:List (Addr×Obj)}{U:St}{H:Hp}{s:Shared}{a d:Addr}{od:Obj}{kvs:List (Key×V)}{k:Key}{y v:V}{u r:Value}{A:Around}{E:Value->Shared->Prop}
theorem Iq {P:Program}{w:World}{k:Key}{u:Value}(h:(aW P w).is k u=true):au (kV k) u:=by
 rcases cO h with ⟨i,t,rfl,rfl⟩|⟨x,t,rfl,rfl⟩
 ·exact ⟨t,rfl⟩
 ·exact ⟨t,rfl⟩
theorem Inv.toFz (I:Inv X pins U H s) (e:H a=some (.dK kvs)):∃ od,Inv X pins U (upd H a (fzH X.w a od kvs)) s:=by
 obtain ⟨z,hd,vs,rel,dd⟩:=gR I.hok e
 obtain ⟨od,ho,hio⟩:=Heap.dictOf_iff.mp dd
 obtain ⟨hh,g,dr,t,os⟩:=s
 refine ⟨od,I.write (t':=t) (h':=hh) (x:=a) (e:=a) (by rw [e];trivial) (.inl rfl) (λb u _ q=>q) ⟨_,ho⟩ ⟨⟨ho,⟨z,λP=>⟨vs,rel,Ct hio⟩⟩,hd⟩,⟨_,ho⟩,λh1 h2 p k=>⟨k _ p.1,p.2⟩⟩⟩
theorem gS (I:Inv X pins U H s) (e:H a=some (fzH X.w a od kvs)):s.heap.get? a=some od/\wg X.w od kvs/\(a==sysModules)=false:=(I.hok a _ e).1
theorem Inv.ofFz (I:Inv X pins U H s) (e:H a=some (fzH X.w a od kvs)):Inv X pins U (upd H a (.dK kvs)) s:=by
 obtain ⟨ho,⟨z,dz⟩,hd⟩:=gS I e
 obtain ⟨vs,rel,dd⟩:=dz X.prog
 obtain ⟨hh,g,dr,t,os⟩:=s
 exact I.write (t':=t) (h':=hh) (x:=a) (e:=a) (by rw [e];trivial) (.inl rfl) (λb u _ q=>q) ⟨_,ho⟩ ⟨z,hd,vs,rel,Heap.dictOf_iff.mpr ⟨od,ho,dd⟩⟩
def RdK (w:World) (H:Hp) (a:Addr) (kvs:List (Key×V)):Prop:=H a=some (.dK kvs)\/∃ od,H a=some (fzH w a od kvs)
theorem rdK (I:Inv X pins U H s) (e:RdK X.w H a kvs):kvs.length<=sizeLine/\(a==sysModules)=false/\∃ vs,KV kvs vs/\s.heap.DictOf (aW X.prog X.w) a vs:=by
 rcases e with e|⟨od,e⟩
 ·exact gR I.hok e
 ·obtain ⟨ho,⟨z,dz⟩,hd⟩:=gS I e
  obtain ⟨vs,rel,dd⟩:=dz X.prog
  exact ⟨z,hd,vs,rel,Heap.dictOf_iff.mpr ⟨od,ho,dd⟩⟩
theorem zx {Q:Value->Shared->Prop}(I:Inv X pins U H s) (g:RdK X.w H a kvs) (l:aZ kvs k=some v) (ry:au (kV k) u) (h:∀ w' s',Inv X pins U H s'->au v w'->Q w' s'):wpAny (model X.prog X.w) A (getItem (.ref a) u) Q E s:=by
 obtain ⟨z,hd,vs,rel,dd⟩:=rdK I g
 obtain ⟨w',hw,QB⟩:=bw.some_of (v:=v) (o:=valueAt vs k) (by rw [<- l];exact rel.val k)
 exact wpAny_getItem_of (eB ry) dd.mapOf hw (h w' _ (I.tok _) QB)
theorem K2 {Q:Value->Shared->Prop}(I:Inv X pins U H s) (g:RdK X.w H a kvs) (ry:au (kV k) u) (h:∀ s',Inv X pins U H s'->Q (.bool (aZ kvs k).isSome) s'):wpAny (model X.prog X.w) A (compareOp .In u (.ref a)) Q E s:=by
 obtain ⟨z,hd,vs,rel,dd⟩:=rdK I g
 refine wpAny_in_of (eB ry) hd dd.mapOf ?_
 rw [<- (rel.val k).isSome_eq]
 exact h _ (I.tok _)
theorem Cu {Q:Value->Shared->Prop}(I:Inv X pins U H s) (g:RdK X.w H a kvs) (ry:au (kV k) u) (h:∀ s',Inv X pins U H s'->Q (.bool (!(aZ kvs k).isSome)) s'):wpAny (model X.prog X.w) A (compareOp .NotIn u (.ref a)) Q E s:=by
 obtain ⟨z,hd,vs,rel,dd⟩:=rdK I g
 refine wpAny_notIn_of (eB ry) hd dd.mapOf ?_
 rw [<- (rel.val k).isSome_eq]
 exact h _ (I.tok _)
theorem K3 (I:Inv X pins U H s) (g:RdK X.w H a kvs):s.TypeIs (.ref a) "dict" /\ ∀ b,Value.ref a=.ref b->∃ ob,s.heap.get? b=some ob/\ob.dict=none:=by
 obtain ⟨z,hd,vs,rel,dd⟩:=rdK I g
 refine ⟨dd.typeIs,λb q=>?_⟩
 cases q
 obtain ⟨ob,_,_,h1,h2,_⟩:=dd
 exact ⟨ob,h1,h2.2.1⟩
def gU (p d:Addr):HO:=.ext λh=>h.get? p=some { cls:=.type "dict_items",data:=.fields #[.ref d] }
def Fa (w:World):V->List V->Hp->VK->Prop:=λx xs H Q=>∃ d kvs,x=.ref d/\xs=[]/\H d=some (.dK kvs)/\∀ p,H p=none->Q (.ref p) (upd H p (gU p d))
theorem AH:MtR X "dict.items" (Fa X.w):=by
 rintro pins s U H x xs v us Q I rx rs ⟨d,kvs,ex,exs,ed,q⟩
 subst ex exs
 cases rs
 cases (show v=Value.ref d from rx)
 obtain ⟨z,hd,vs,rel,dd⟩:=gR I.hok ed
 refine call_meetsIn PySem.F.slot_dict_items dd.typeIs PySem.F.entry_dict_items (PySem.F.args_dict_items_1 _) (meets_dict_items (aW X.prog X.w) d hd) ⟨⟨vs,dd⟩,?_⟩
 refine ⟨.ref s.heap.objs.size,_,I.laid (o:=gU s.heap.objs.size d) (t':=s.toks) (λb u e=>Heap.get?_push_of_some _ e) (Nat.le_refl _) ⟨Heap.get?_push_size _ rfl,⟨_,Heap.get?_push_size _ rfl⟩,λh1 h2 p k=>k _ p⟩,rfl,q _ (I.hok.fresh (Nat.le_refl _))⟩
def ItP (w:World) (d:Addr) (od:Obj) (kvs:List (Key×V)):It :=
 ⟨λi H=>H d=some (fzH w d od kvs)/\i<kvs.length,λi H x H'=>∃ p kv,kvs[i]?=some kv/\H p=none/\x=.ref p/\H'=upd H p (.tup [kV kv.1,kv.2]),λi H=>H d=some (fzH w d od kvs)/\kvs.length<=i⟩
theorem yI {P:Program}{w:World}{K:PySem.W.Frag}{Oh:List Expr}{x1:Nat}{NA:Pos}{vs:List (Key×Value)}{ep:Nat}(d it:Addr) (od:Obj) (kvs:List (Key×V)) (rel:KV kvs vs) (PL:d≠it) (hod:∀ h:Heap,h.get? d=some od->h.DictAt (aW P w) d vs ep) :
  Turn P w K (.Tuple Oh x1 NA) (ItP w d od kvs) [it] it (λi h=>∃ ok ov,IsItemIter h it d i vs.length ep ok ov) where
 mem:=by simp
 obj:=λi h st b hb=>by
  obtain rfl:b=it:=by simpa using hb
  obtain ⟨ok,ov,e⟩:=st
  exact ⟨_,e,λv z=>by cases z⟩
 keep:=λi h h' zz51 k=>by obtain ⟨ok,ov,e⟩:=zz51;exact ⟨ok,ov,k it (by simp) _ e⟩
 item:=by
  rintro X hP hw hK hc i pins s U H E I hf ⟨ok,ov,st⟩ ⟨hg,hi⟩
  subst hP hw hK
  have hl:i<vs.length:=by rw [<- rel.length];exact hi
  obtain ⟨⟨k,x⟩,hx⟩:∃ p,vs[i]?=some p:=⟨vs[i],by simp [hl]⟩
  obtain ⟨f0,f1,f2,f3,f4,f5⟩:=hf it (by simp)
  refine wpAny_pyNext_items_item st (hod _ (gS I hg).1) hx λkey h' Tr Q7 ht hsz sb=>?_
  refine ⟨_,rfl,wpAny_letOwnedTupleGo_items Q7 λh2 st2 Ti=>?_⟩
  have hit:it<s.heap.objs.size:=Heap.lt_size st
  obtain ⟨kv,e1,e2,e3⟩:∃ kv,kvs[i]?=some kv/\kv.1=k/\au kv.2 x:=by
   obtain ⟨kv,z1,z2⟩:=oY rel hx
   exact ⟨kv,z1,z2.1,z2.2⟩
  have ht2:h2.get? s.heap.objs.size=some { cls:=.type "tuple",data:=.seq #[key,x] }:=(Ti.2 _ (Nat.ne_of_gt hit)).trans ht
  have Im:Inv X pins U (upd H s.heap.objs.size (.tup [kV kv.1,kv.2])) { s with heap:=s.heap.push { cls:=.type "tuple",data:=.seq #[key,x] },toks:=s.toks } :=
   I.laid (t':=s.toks) (λb u e=>Heap.get?_push_of_some _ e) (Nat.le_refl _) ⟨by show 2<=sizeLine;decide,[key,x],.cons (by rw [e2];exact Iq Tr) (.cons e3 .nil),⟨_,Heap.get?_push_size _ rfl,rfl,_,rfl⟩⟩
  have I2:Inv X pins U (upd H s.heap.objs.size (.tup [kV kv.1,kv.2])) { s with heap:=h2 }:=by
   refine Im.turned (t':=s.toks) (λb o hb e=>?_) (by rw [aB (Nat.ne_of_lt hit)];exact f0) f1 f3 f4 f5
   by_cases hbs:b=s.heap.objs.size
   ·subst hbs
    rw [show ({ s with heap:=s.heap.push { cls:=.type "tuple",data:=.seq #[key,x] },toks:=s.toks }:Shared).heap.get? s.heap.objs.size=some { cls:=.type "tuple",data:=.seq #[key,x] } from Heap.get?_push_size _ rfl] at e
    cases e;exact ht2
   ·exact (Ti.2 b hb).trans (sb b o hb (by rw [<- Heap.get?_push_ne _ _ _ hbs];exact e))
  refine ⟨.ref s.heap.objs.size,_,I2,rfl,⟨s.heap.objs.size,kv,e1,I.hok.fresh (Nat.le_refl _),rfl,rfl⟩,⟨_,_,st2⟩,λb hb=>?_⟩
  obtain rfl:b=it:=by simpa using hb
  rw [aB (Nat.ne_of_lt hit)];exact f0
 done:=by
  rintro X hP hw hK hc i pins s U H E I hf ⟨ok,ov,st⟩ ⟨hg,hi⟩
  subst hP hw hK
  obtain ⟨f0,f1,f2,f3,f4,f5⟩:=hf it (by simp)
  refine wpAny_pyNext_items_end (I.ok.hd hc) st (hod _ (gS I hg).1) (List.getElem?_eq_none (by rw [<- rel.length];exact hi)) λh' eb=>⟨rfl,I.turned (t':=s.toks) (λb o hb e=>eb b o hb e) f0 f1 f3 f4 f5⟩
 self:=λA i s Q E zz52 h=>by obtain ⟨ok,ov,st⟩:=zz52;exact PySem.W.kcp_self st h
def tiP (w:World) (te:TE):TI:=λU H R=>te U H λx H1=>∃ p d kvs,x=.ref p/\H1 p=some (gU p d)/\H1 d=some (.dK kvs)/\∀ od,R (ItP w d od kvs) (upd H1 d (fzH w d od kvs))
theorem AI {e:Expr}{te:TE}{Oh:List Expr}{x1:Nat}{NA:Pos}(he:PE X e te):PI X (.Tuple Oh x1 NA) e (tiP X.w te):=by
 intro pins s U H R I h
 refine thn (he pins s U H _ I h) λv s1 zz53=>?_
 obtain ⟨x,H1,I1,r1,p,d,kvs,ex,ep,ed,hR⟩:=zz53
 subst ex
 cases (show v=Value.ref p from r1)
 have hv:s1.heap.get? p=some { cls:=.type "dict_items",data:=.fields #[.ref d] }:=(I1.hok p _ ep).1
 obtain ⟨od,I2⟩:=I1.toFz ed
 obtain ⟨ho,⟨z,dz⟩,hd⟩:=gS I2 aM
 obtain ⟨vs,rel,es,ep',q1,q2,q3,q4,q5⟩:=dz X.prog
 have at_:∀ h:Heap,h.get? d=some od->h.DictAt (aW X.prog X.w) d vs ep':=λh e=>⟨od,es,e,q1,q2,q3,q4,q5⟩
 refine wpAny_pyIter_items ⟨_,hv,rfl,rfl⟩ (at_ _ ho) ?_
 have Tv:d<s1.heap.objs.size:=Heap.lt_size ho
 have I3:Inv X pins U (upd H1 d (fzH X.w d od kvs)) { s1 with heap:=s1.heap.push { cls:=.type "dict_itemiterator",data:=.fields #[.none,.bool false,.ref d,.int 0 0,.int vs.length 0,.int ep' 0,.none,.none] } }:=I2.kept (t':=s1.toks) λb u e=>Heap.get?_push_of_some _ e
 refine ⟨s1.heap.objs.size,[s1.heap.objs.size],_,_,_,rfl,I3,yI d _ od kvs rel (Nat.ne_of_lt Tv) at_,⟨.none,.none,Heap.get?_push_size _ rfl⟩,λb hb=>?_,hR od⟩
 obtain rfl:b=s1.heap.objs.size:=by simpa using hb
 exact I2.fpOk (Nat.le_refl _) (I2.hok.fresh (Nat.le_refl _))
def Ir (w:World) (td ty:TE):TE:=λU H Q=>td U H λx H1=>ty U H1 λy H2=>∃ a kvs k v,x=.ref a/\RdK w H2 a kvs/\y=kV k/\aZ kvs k=some v/\Q v H2
theorem Cv {o i:Expr}{pos:Pos}{td ty:TE}(ho:PE X o td) (hi:PE X i ty) (hs:hZ i):PE X (.Subscript o i pos) (Ir X.w td ty):=by
 intro pins s U H Q I h
 refine Cr PySem.F.slot_dict_getitem.lookup hs (thn (ho pins s U H _ I h) λu s1 zz54=>?_)
 obtain ⟨x,H1,I1,rx,q1⟩:=zz54
 refine thn (hi pins s1 U H1 _ I1 q1) λiv s2 zz55=>?_
 obtain ⟨y,H2,I2,ry,a,kvs,k,v,ex,g,ey,l,q2⟩:=zz55
 subst ex ey
 obtain rfl:u=Value.ref a:=rx
 exact ⟨(K3 I2 g).1,zx I2 g l ry λw' s3 I3 QB=>⟨v,H2,I3,QB,q2⟩⟩
def Iu:V->List V->Hp->VK->Prop:=λx xs H Q=>∃ d kvs k v,x=.ref d/\xs=[kV k]/\H d=some (.dK kvs)/\aZ kvs k=some v/\Q v (upd H d (.dK (eA kvs k)))
theorem Cw:MtR X "dict.pop" Iu:=by
 rintro pins s U H x xs v us Q I rx rs ⟨d,kvs,k,v',ex,exs,ed,l,q⟩
 subst ex exs
 obtain ⟨u,rfl,ru⟩:=bW rs
 cases (show v=Value.ref d from rx)
 exact Ip I ed ru l (.inl rfl) λw' s' I' QB=>⟨v',_,I',QB,q⟩
theorem PE.unf {e:Expr}{t:TE}(h:PE X e t):PE X e (λU H Q=>t U H λv H'=>∃ d od kvs,H' d=some (fzH X.w d od kvs)/\Q v (upd H' d (.dK kvs))):=λpins s U H Q I q =>
 thn (h pins s U H _ I q) λu s' zz56=>by obtain ⟨v,H',I',r,d,od,kvs,e,q'⟩:=zz56;exact ⟨v,_,I'.ofFz e,r,q'⟩
end
end L2
namespace T2
open PySem L2
inductive T where
 |non|bl (b:Bool)|int (i:Int)|str (x:Str)|tup (ts:List T)|lst (ts:List T)|scr (ns:List Int)|ref (a:Addr)|ty (n:String)
inductive O where
 |lst (ts:List T)|dK (kvs:List (Key×T))|dT (kvs:List (List Key×T))|ins (C:Addr) (fs:List (Str×T))
  |fK (w:World) (od:Obj) (vs:List (Key×V)) (kvs:List (Key×T))
  |exk (C:Addr)
def _root_.L2.exH (C a:Addr):HO:=.ext λh=>∃ ob,h.get? a=some ob/\ob.cls=.ref C/\ob.dict=none/\∃ vs,ob.data=.fields vs/\vs[2]?=some .none
abbrev Sto:=Addr->Option O
noncomputable def put (S:Sto) (a:Addr) (o:O):Sto:=λb=>if b=a then some o else S b
theorem aI {S:Sto}{a:Addr}{o:O}:put S a o a=some o:=by unfold put;rw [if_pos rfl]
theorem ay {S:Sto}{a b:Addr}{o:O}(h:b≠a):put S a o b=S b:=by unfold put;rw [if_neg h]
theorem c7 {S:Sto}{a:Addr}{o u:O}:put (put S a o) a u=put S a u:=by
 funext b;unfold put;split<;>rfl
abbrev Fg:=PySem.W.Frag
def Scr (K:Fg) (H:Hp) (S:Sto) (p:Addr) (ns:List Int):Prop:=(S p=none/\∃ o,H p=some (.frz o (.lst (ns.map V.int))))\/SqL K (λ_=>none) p (ns.map V.int)
mutual
inductive Rp (K:Fg) (H:Hp) (S:Sto):T->V->Prop
 |non:Rp K H S .non .non
 |bl {b}:Rp K H S (.bl b) (.bl b)
 |int {i}:Rp K H S (.int i) (.int i)
 |str {x}:Rp K H S (.str x) (.str x)
 |ty {n}:Rp K H S (.ty n) (.ty n)
 |ref {a}:Rp K H S (.ref a) (.ref a)
 |tup {p ts vs}:S p=none->H p=some (.tup vs)->Rps K H S ts vs->Rp K H S (.tup ts) (.ref p)
 |lst {p ts vs}:S p=none->H p=some (.lst vs)->Rps K H S ts vs->Rp K H S (.lst ts) (.ref p)
 |scr {p ns}:Scr K H S p ns->Rp K H S (.scr ns) (.ref p)
inductive Rps (K:Fg) (H:Hp) (S:Sto):List T->List V->Prop
 |nil:Rps K H S [] []
 |cons {t v ts vs}:Rp K H S t v->Rps K H S ts vs->Rps K H S (t::ts) (v::vs)
end
def Fr (H:Hp) (S:Sto) (H':Hp) (S':Sto):Prop:=∀ a o,H a=some o->S a=none->H' a=some o/\S' a=none
theorem Fr.refl {H S}:Fr H S H S:=λ_ _ h n=>⟨h,n⟩
theorem Fr.trans {H S H1 S1 H2 S2}(f:Fr H S H1 S1) (g:Fr H1 S1 H2 S2):Fr H S H2 S2:=λa o h n=>by
 obtain ⟨h1,n1⟩:=f a o h n
 exact g a o h1 n1
section
variable {K:Fg}{H H':Hp}{S S':Sto}
theorem Scr.fr {p ns}(h:Scr K H S p ns) (f:Fr H S H' S'):Scr K H' S' p ns:=by
 rcases h with ⟨n,o,e⟩|h
 ·obtain ⟨e',n'⟩:=f p _ e n
  exact .inl ⟨n',o,e'⟩
 ·exact .inr h
theorem Scr.sq {p ns}(h:Scr K H S p ns):SqL K H p (ns.map V.int):=by
 rcases h with ⟨_,o,e⟩|h
 ·exact .inl (.inr ⟨o,e⟩)
 ·rcases h with (h|⟨o,h⟩)|h
  ·cases h
  ·cases h
  ·exact .inr h
mutual
theorem Rp.fr (f:Fr H S H' S'):∀ {t v},Rp K H S t v->Rp K H' S' t v
 |_,_,.non=>.non
 |_,_,.bl=>.bl
 |_,_,.int=>.int
 |_,_,.str=>.str
 |_,_,.ty=>.ty
 |_,_,.ref=>.ref
 |_,_,.tup n h r=>.tup (f _ _ h n).2 (f _ _ h n).1 (Rps.fr f r)
 |_,_,.lst n h r=>.lst (f _ _ h n).2 (f _ _ h n).1 (Rps.fr f r)
 |_,_,.scr h=>.scr (h.fr f)
theorem Rps.fr (f:Fr H S H' S'):∀ {ts vs},Rps K H S ts vs->Rps K H' S' ts vs
 |_,_,.nil=>.nil
 |_,_,.cons a b=>.cons (Rp.fr f a) (Rps.fr f b)
end
theorem Rps.length:∀ {ts vs},Rps K H S ts vs->vs.length=ts.length
 |_,_,.nil=>rfl
 |_,_,.cons _ b=>by simp [Rps.length b]
theorem Rps.append:∀ {ts vs us ws},Rps K H S ts vs->Rps K H S us ws->Rps K H S (ts++us) (vs++ws)
 |_,_,_,_,.nil,r=>r
 |_,_,_,_,.cons a b,r=>.cons a (Rps.append b r)
theorem Rps.drop:∀ {ts vs}(n:Nat),Rps K H S ts vs->Rps K H S (ts.drop n) (vs.drop n)
 |_,_,0,r=>r
 |_,_,_+1,.nil=>.nil
 |_,_,n+1,.cons _ b=>Rps.drop n b
theorem Rps.take:∀ {ts vs}(n:Nat),Rps K H S ts vs->Rps K H S (ts.take n) (vs.take n)
 |_,_,0,_=>.nil
 |_,_,_+1,.nil=>.nil
 |_,_,n+1,.cons a b=>.cons a (Rps.take n b)
theorem Rps.set {t v}(r:Rp K H S t v):∀ {ts vs}(i:Nat),Rps K H S ts vs->Rps K H S (ts.set i t) (vs.set i v)
 |_,_,_,.nil=>.nil
 |_,_,0,.cons _ b=>.cons r b
 |_,_,i+1,.cons a b=>.cons a (Rps.set r i b)
theorem Rps.get:∀ {ts vs}{i:Nat}{t},Rps K H S ts vs->ts[i]?=some t->∃ v,vs[i]?=some v/\Rp K H S t v
 |_,_,_,_,.nil,e=>by simp at e
 |_,_,0,_,.cons a _,e=>by simp at e;subst e;exact ⟨_,rfl,a⟩
 |_,_,i+1,_,.cons _ b,e=>by
  obtain ⟨v,h1,h2⟩:=Rps.get (i:=i) b (by simpa using e)
  exact ⟨v,by simpa using h1,h2⟩
theorem Rps.getV:∀ {ts vs}{i:Nat}{v},Rps K H S ts vs->vs[i]?=some v->∃ t,ts[i]?=some t/\Rp K H S t v
 |_,_,_,_,.nil,e=>by simp at e
 |_,_,0,_,.cons a _,e=>by simp at e;subst e;exact ⟨_,rfl,a⟩
 |_,_,i+1,_,.cons _ b,e=>by
  obtain ⟨v,h1,h2⟩:=Rps.getV (i:=i) b (by simpa using e)
  exact ⟨v,by simpa using h1,h2⟩
theorem Rps.ints {ns:List Int}:Rps K H S (ns.map T.int) (ns.map V.int):=by
 induction ns with
 |nil=>exact .nil
 |cons a l ih=>exact .cons .int ih
theorem Rps.strs {ns:List Str}:Rps K H S (ns.map T.str) (ns.map V.str):=by
 induction ns with
 |nil=>exact .nil
 |cons a l ih=>exact .cons .str ih
end
inductive ORp (K:Fg) (H:Hp) (S:Sto) (a:Addr):O->Prop
 |lst {ts vs}:H a=some (.lst vs)->Rps K H S ts vs->ORp K H S a (.lst ts)
 |dK {kvs kts}:H a=some (.dK kvs)->Paired (λ(p:Key×T) (q:Key×V)=>p.1=q.1/\Rp K H S p.2 q.2) kts kvs->ORp K H S a (.dK kts)
 |dT {kvs kts}:H a=some (.dT kvs)->Paired (λ(p:List Key×T) (q:List Key×V)=>p.1=q.1/\Rp K H S p.2 q.2) kts kvs->ORp K H S a (.dT kts)
 |fK {w od kvs kts}:H a=some (fzH w a od kvs)->Paired (λ(p:Key×T) (q:Key×V)=>p.1=q.1/\Rp K H S p.2 q.2) kts kvs->ORp K H S a (.fK w od kvs kts)
 |ins {C dx fs fts}:H a=some (.ins C dx fs)->Paired (λ(p:Str×T) (q:Str×V)=>p.1=q.1/\Rp K H S p.2 q.2) fts fs->ORp K H S a (.ins C fts)
 |exk {C}:H a=some (exH C a)->ORp K H S a (.exk C)
section
variable {K:Fg}{H:Hp}{S:Sto}{v:V}{a:Addr}
theorem Rp.iint {i:Int}(r:Rp K H S (.int i) v):v=.int i:=by cases r;rfl
theorem Rp.istr {x:Str}(r:Rp K H S (.str x) v):v=.str x:=by cases r;rfl
theorem Rp.itup {ts:List T}(r:Rp K H S (.tup ts) v):∃ p vs,v=.ref p/\H p=some (.tup vs)/\Rps K H S ts vs:=by cases r with|tup n h p=>exact ⟨_,_,rfl,h,p⟩
end
def SRp (K:Fg) (H:Hp) (S:Sto):Prop:=∀ a o,S a=some o->ORp K H S a o
section
variable {K:Fg}{H H':Hp}{S S':Sto}{a:Addr}{o:O}
theorem ORp.some (r:ORp K H S a o):∃ u,H a=some u:=by cases r<;>exact ⟨_,‹_›⟩
theorem SRp.fresh (s:SRp K H S) (h:H a=none):S a=none:=by
 cases e:S a with
 |none=>rfl
 |some o=>obtain ⟨u,q⟩:=(s a o e).some;rw [h] at q;cases q
theorem ORp.fr (r:ORp K H S a o) (f:Fr H S H' S') (h:H' a=H a):ORp K H' S' a o:=by
 cases r with
 |lst e q=>exact .lst (h.trans e) (q.fr f)
 |dK e q=>exact .dK (h.trans e) (Paired.mapP q λ_ _ z=>⟨z.1,z.2.fr f⟩)
 |dT e q=>exact .dT (h.trans e) (Paired.mapP q λ_ _ z=>⟨z.1,z.2.fr f⟩)
 |fK e q=>exact .fK (h.trans e) (Paired.mapP q λ_ _ z=>⟨z.1,z.2.fr f⟩)
 |ins e q=>exact .ins (h.trans e) (Paired.mapP q λ_ _ z=>⟨z.1,z.2.fr f⟩)
 |exk e=>exact .exk (h.trans e)
theorem Fr.new {p:Addr}{u:HO}(h:H p=none):Fr H S (upd H p u) S:=λa o e n=>⟨by rw [aB (bB e h)];exact e,n⟩
theorem SRp.new {p:Addr}{u:HO}(s:SRp K H S) (h:H p=none):SRp K (upd H p u) S:=λa o e=>by
 obtain ⟨x,hx⟩:=(s a o e).some
 exact (s a o e).fr (Fr.new h) (aB (bB hx h))
theorem Fr.newT {p:Addr}{u:HO}{o:O}(h:H p=none):Fr H S (upd H p u) (put S p o):=λa _ e n =>
 ⟨by rw [aB (bB e h)];exact e,by rw [ay (bB e h)];exact n⟩
theorem SRp.newT {p:Addr}{u:HO}{o:O}(s:SRp K H S) (h:H p=none) (n:ORp K (upd H p u) (put S p o) p o):SRp K (upd H p u) (put S p o):=λa o' e=>by
 by_cases ha:a=p
 ·subst ha;rw [aI] at e;cases e;exact n
 ·rw [ay ha] at e
  exact (s a o' e).fr (Fr.newT h) (aB ha)
theorem Fr.write {p:Addr}{u:HO}{o:O}(h:S p≠none):Fr H S (upd H p u) (put S p o):=λa _ e n =>
 have ne:a≠p:=λz=>by subst z;exact h n
 ⟨by rw [aB ne];exact e,by rw [ay ne];exact n⟩
theorem SRp.write {p:Addr}{u:HO}{o:O}(s:SRp K H S) (h:S p≠none) (n:ORp K (upd H p u) (put S p o) p o):SRp K (upd H p u) (put S p o):=λa o' e=>by
 by_cases ha:a=p
 ·subst ha;rw [aI] at e;cases e;exact n
 ·rw [ay ha] at e
  exact (s a o' e).fr (Fr.write h) (aB ha)
def Le (S0 S:Sto):Prop:=∀ a o,S0 a=some o->S a=some o
theorem Le.refl {S}:Le S S:=λ_ _ h=>h
theorem Le.none {S0 S:Sto}(l:Le S0 S){a:Addr}(h:S a=none):S0 a=none:=by
 cases e:S0 a with
 |none=>rfl
 |some o=>rw [l a o e] at h;cases h
theorem Fr.le {S0:Sto}(l:Le S0 S):Fr H S H S0:=λ_ _ h n=>⟨h,l.none n⟩
theorem SRp.le {S0:Sto}(s:SRp K H S) (l:Le S0 S):SRp K H S0:=λa o e=>(s a o (l a o e)).fr (Fr.le l) rfl
end
abbrev StT:=List (Option T)
abbrev WE:=StT->Sto->(T->Sto->Prop)->Prop
abbrev WT:=StT->Sto->(Bool->Sto->Prop)->Prop
abbrev WA:=StT->Sto->(List T->Sto->Prop)->Prop
structure EndsT where
 nx:StT->Sto->Prop
 rt:T->Sto->Prop
 bk:StT->Sto->Prop:=λ_ _=>False
 ct:StT->Sto->Prop:=λ_ _=>False
abbrev WS:=EndsT->StT->Sto->Prop
def Cov (K:Fg) (H:Hp) (S:Sto) (U:St) (LQ:StT):Prop:=LQ.length=U.length/\∀ (i:Nat) (t:T),LQ[i]?=some (some t)->∃ v:V,U[i]?=some (some v)/\Rp K H S t v
theorem Cov.fr {K H S H' S' U LQ}(c:Cov K H S U LQ) (f:Fr H S H' S'):Cov K H' S' U LQ:=⟨c.1,λi t e=>by
 obtain ⟨v,h,r⟩:=c.2 i t e
 exact ⟨v,h,r.fr f⟩⟩
theorem Cov.set {K H S U LQ t v}(c:Cov K H S U LQ) (r:Rp K H S t v) (i:Nat):Cov K H S (U.set i (some v)) (LQ.set i (some t)):=by
 refine ⟨by simp [c.1],λj u e=>?_⟩
 by_cases h:i=j
 ·subst h
  by_cases hl:i<LQ.length
  ·rw [List.getElem?_set_self hl] at e
   cases e
   exact ⟨v,List.getElem?_set_self (by rw [<- c.1];exact hl),r⟩
  ·rw [List.getElem?_eq_none (by simp;omega)] at e;cases e
 ·rw [List.getElem?_set_ne h] at e ⊢
  exact c.2 j u e
abbrev Bh (K:Fg) (H:Hp) (S:Sto) (Qt:T->Sto->Prop) (Q:VK):Prop:=∀ v H' t S',Fr H S H' S'->SRp K H' S'->Rp K H' S' t v->Qt t S'->Q v H'
def lE (K:Fg) (w:WE):TE:=λU H Q=>∃ S LQ Qt,SRp K H S/\Cov K H S U LQ/\w LQ S Qt/\Bh K H S Qt Q
def lT (K:Fg) (w:WT):TT:=λU H Q=>∃ S LQ Qt,SRp K H S/\Cov K H S U LQ/\w LQ S Qt/\∀ b H' S',Fr H S H' S'->SRp K H' S'->Qt b S'->Q b H'
def lA (K:Fg) (w:WA):TA:=λU H Q=>∃ S LQ Qt,SRp K H S/\Cov K H S U LQ/\w LQ S Qt/\∀ vs H' ts S',Fr H S H' S'->SRp K H' S'->Rps K H' S' ts vs->Qt ts S'->Q vs H'
structure EndsOk (K:Fg) (H:Hp) (S:Sto) (Dt:EndsT) (D:Ends):Prop where
 nx:∀ LR H' L9 S',Fr H S H' S'->SRp K H' S'->Cov K H' S' LR L9->Dt.nx L9 S'->D.nx LR H'
 rt:∀ v H' t S',Fr H S H' S'->SRp K H' S'->Rp K H' S' t v->Dt.rt t S'->D.rt v H'
 bk:∀ LR H' L9 S',Fr H S H' S'->SRp K H' S'->Cov K H' S' LR L9->Dt.bk L9 S'->D.bk LR H'
 ct:∀ LR H' L9 S',Fr H S H' S'->SRp K H' S'->Cov K H' S' LR L9->Dt.ct L9 S'->D.ct LR H'
theorem EndsOk.fr {K H S H' S' Dt D}(e:EndsOk K H S Dt D) (f:Fr H S H' S'):EndsOk K H' S' Dt D :=
 ⟨λLR H2 L9 S2 g=>e.nx LR H2 L9 S2 (f.trans g),λv H2 t S2 g=>e.rt v H2 t S2 (f.trans g),λLR H2 L9 S2 g=>e.bk LR H2 L9 S2 (f.trans g),λLR H2 L9 S2 g=>e.ct LR H2 L9 S2 (f.trans g)⟩
def lS (K:Fg) (w:WS):TS:=λD U H=>∃ S LQ Dt,SRp K H S/\Cov K H S U LQ/\w Dt LQ S/\EndsOk K H S Dt D
def QE (K:Fg) (X:Cx) (e:Expr) (w:WE):Prop:=PE X e (lE K w)
def QT (K:Fg) (X:Cx) (e:Expr) (w:WT):Prop:=PT X e (lT K w)
def QW (K:Fg) (X:Cx) (e:Expr) (w:WT):Prop:=PW X e (lT K w)
def QA (K:Fg) (X:Cx) (es:List Expr) (w:WA):Prop:=PA X es (lA K w)
def QS (K:Fg) (X:Cx) (st:Stmt) (w:WS):Prop:=PS X st (lS K w)
def QSs (K:Fg) (X:Cx) (st:List Stmt) (w:WS):Prop:=PSs X st (lS K w)
theorem PE.of {X:Cx}{e:Expr}{t t':TE}(h:PE X e t) (i:∀ U H Q,t' U H Q->t U H Q):PE X e t':=λpins s U H Q I q=>h pins s U H Q I (i U H Q q)
theorem PT.of {X:Cx}{e:Expr}{t t':TT}(h:PT X e t) (i:∀ U H Q,t' U H Q->t U H Q):PT X e t':=λpins s U H Q I q=>h pins s U H Q I (i U H Q q)
theorem PW.of {X:Cx}{e:Expr}{t t':TT}(h:PW X e t) (i:∀ U H Q,t' U H Q->t U H Q):PW X e t':=λwh pins s U H Q I q=>h wh pins s U H Q I (i U H Q q)
theorem PA.of {X:Cx}{e:List Expr}{t t':TA}(h:PA X e t) (i:∀ U H Q,t' U H Q->t U H Q):PA X e t':=λp pins s U H Q I q=>h p pins s U H Q I (i U H Q q)
theorem PS.of {X:Cx}{e:Stmt}{t t':TS}(h:PS X e t) (i:∀ D U H,t' D U H->t D U H):PS X e t':=λpins s U H D I q=>h pins s U H D I (i D U H q)
theorem PSs.of {X:Cx}{e:List Stmt}{t t':TS}(h:PSs X e t) (i:∀ D U H,t' D U H->t D U H):PSs X e t':=λpins s U H D I q=>h pins s U H D I (i D U H q)
section
variable {K:Fg}{X:Cx}{a b c e:Expr}{wa wb wc:WE}{pos:Pos}
def wV (i:Nat):WE:=λU S Q=>∃ t,U[i]?=some (some t)/\Q t S
def wC (t:T):WE:=λ_ S Q=>Q t S
theorem Iw {i:Nat}{x:Str}(h:PE X (.Name x pos) (v1 i)):QE K X (.Name x pos) (wV i):=PE.of h λU H Q zz57=>by
 obtain ⟨S,LQ,Qt,s,c,⟨t,e,q⟩,hq⟩:=zz57
 obtain ⟨v,e2,r⟩:=c.2 i t e
 exact ⟨v,e2,hq v H t S .refl s r q⟩
theorem aj {i j}:QE K X (.Constant (.int i) j pos) (wC (.int i)):=PE.of Ep λU H Q zz58=>by obtain ⟨S,LQ,Qt,s,c,q,hq⟩:=zz58;exact hq _ H _ S .refl s .int q
theorem bx {i j}:QE K X (.Constant (.bool i) j pos) (wC (.bl i)):=PE.of HM λU H Q zz59=>by obtain ⟨S,LQ,Qt,s,c,q,hq⟩:=zz59;exact hq _ H _ S .refl s .bl q
theorem jC {j}:QE K X (.Constant .none j pos) (wC .non):=PE.of Er λU H Q zz60=>by obtain ⟨S,LQ,Qt,s,c,q,hq⟩:=zz60;exact hq _ H _ S .refl s .non q
theorem ag {x j}:QE K X (.Constant (.str x) j pos) (wC (.str x)):=PE.of jh λU H Q zz61=>by obtain ⟨S,LQ,Qt,s,c,q,hq⟩:=zz61;exact hq _ H _ S .refl s .str q
theorem mZ {x:Str}{t:T}{v:V}(h:PE X (.Name x pos) (tC v)) (r:∀ H S,Rp K H S t v):QE K X (.Name x pos) (wC t):=PE.of h λU H Q zz62=>by obtain ⟨S,LQ,Qt,s,c,q,hq⟩:=zz62;exact hq _ H _ S .refl s (r _ _) q
abbrev G2:=T->T->Sto->(T->Sto->Prop)->Prop
def l2 (K:Fg) (g:G2):R2:=λx y H Q=>∃ S tx ty Qt,SRp K H S/\Rp K H S tx x/\Rp K H S ty y/\g tx ty S Qt/\Bh K H S Qt Q
def w2 (g:G2) (wa wb:WE):WE:=λU S Q=>wa U S λx S1=>wb U S1 λy S2=>g x y S2 Q
theorem jD {g:G2}{U H Q}(h:lE K (w2 g wa wb) U H Q):tOp (l2 K g) (lE K wa) (lE K wb) U H Q:=by
 obtain ⟨S,LQ,Qt,s,c,q,hq⟩:=h
 refine ⟨S,LQ,_,s,c,q,λx H1 tx S1 f1 s1 r1 q1=>?_⟩
 refine ⟨S1,LQ,_,s1,c.fr f1,q1,λy H2 ty S2 f2 s2 r2 q2=>?_⟩
 exact ⟨S2,tx,ty,Qt,s2,r1.fr f2,r2,q2,λv H' t S' f=>hq v H' t S' ((f1.trans f2).trans f)⟩
theorem aE {op:Operator}{g:G2}(ho:OpR X (binaryOp op) (l2 K g)) (ha:QE K X a wa) (hb:QE K X b wb):QE K X (.BinOp a op b pos) (w2 g wa wb):=PE.of (HY ho ha hb) λ_ _ _ h=>jD h
theorem ci {op:CmpOp}{g:G2}(ho:OpR X (compareOp op) (l2 K g)) (ha:QE K X a wa) (hb:QE K X b wb) (hm:behindInMarks op b=false:=by exact L2.mT _):QE K X (.Compare a [op] [b] pos) (w2 g wa wb):=PE.of (BY ho ha hb hm) λ_ _ _ h=>jD h
def wB (w:WE):WT:=λU S Q=>w U S λx S1=>∃ k,x=.bl k/\Q k S1
theorem Ix {w:WE}{U H Q}(h:lT K (wB w) U H Q):nX (lE K w) U H Q:=by
 obtain ⟨S,LQ,Qt,s,c,q,hq⟩:=h
 refine ⟨S,LQ,_,s,c,q,λx H1 tx S1 f1 s1 r1 q1=>?_⟩
 obtain ⟨k,rfl,q1⟩:=q1
 cases r1
 exact ⟨k,rfl,hq k H1 S1 f1 s1 q1⟩
theorem aS {op:CmpOp}{g:G2}(ho:OpR X (compareOp op) (l2 K g)) (ha:QE K X a wa) (hb:QE K X b wb) (hm:behindInMarks op b=false:=by exact L2.mT _):QT K X (.Compare a [op] [b] pos) (wB (w2 g wa wb)) :=
 PT.of (BZ ho ha hb hm) λU H Q h=>by
  obtain ⟨S,LQ,Qt,s,c,q,hq⟩:=h
  exact jD ⟨S,LQ,_,s,c,q,λv H' t S' f s' r zz63=>by obtain ⟨k,e,q'⟩:=zz63;exact by subst e;cases r;exact ⟨k,rfl,hq k H' S' f s' q'⟩⟩
def gJ (g g':G2) (wa wb wc:WE):WE:=λU S Q=>wa U S λx S1=>wb U S1 λy S2=>g x y S2 λz S3=>∃ k,z=.bl k/\if k=true then wc U S3 λu S4=>g' y u S4 Q else Q (.bl false) S3
theorem qC {g g':G2}{U H Q}(h:lE K (gJ g g' wa wb wc) U H Q):mU (l2 K g) (l2 K g') (lE K wa) (lE K wb) (lE K wc) U H Q:=by
 obtain ⟨S,LQ,Qt,s,c,q,hq⟩:=h
 refine ⟨S,LQ,_,s,c,q,λx H1 tx S1 f1 s1 r1 q1=>?_⟩
 refine ⟨S1,LQ,_,s1,c.fr f1,q1,λy H2 ty S2 f2 s2 r2 q2=>?_⟩
 refine ⟨S2,tx,ty,_,s2,r1.fr f2,r2,q2,λz H3 tz S3 f3 s3 r3 q3=>?_⟩
 obtain ⟨k,rfl,q3⟩:=q3
 cases r3
 refine ⟨k,rfl,?_⟩
 cases k with
 |false=>exact hq _ _ _ _ ((f1.trans f2).trans f3) s3 .bl q3
 |true =>
  refine ⟨S3,LQ,_,s3,c.fr ((f1.trans f2).trans f3),q3,λu H4 tu S4 f4 s4 r4 q4=>?_⟩
  exact ⟨S4,ty,tu,Qt,s4,(r2.fr f3).fr f4,r4,q4,λv H' t S' f=>hq v H' t S' ((((f1.trans f2).trans f3).trans f4).trans f)⟩
theorem i7 {op Qz:CmpOp}{g g':G2}(ho:OpR X (compareOp op) (l2 K g)) (Qy:OpR X (compareOp Qz) (l2 K g')) (ha:QE K X a wa) (hb:QE K X b wb) (hc:QE K X c wc) (hm:lastMarks [op,Qz] [b,c]=false:=by with_unfolding_all rfl) :
  QE K X (.Compare a [op,Qz] [b,c] pos) (gJ g g' wa wb wc):=PE.of (Al ho Qy ha hb hc hm) λ_ _ _ h=>qC h
theorem dZ {op Qz:CmpOp}{g g':G2}(ho:OpR X (compareOp op) (l2 K g)) (Qy:OpR X (compareOp Qz) (l2 K g')) (ha:QE K X a wa) (hb:QE K X b wb) (hc:QE K X c wc) (hm:lastMarks [op,Qz] [b,c]=false:=by with_unfolding_all rfl) :
  QT K X (.Compare a [op,Qz] [b,c] pos) (wB (gJ g g' wa wb wc)):=PT.of (Am ho Qy ha hb hc hm) λU H Q h=>by
  obtain ⟨S,LQ,Qt,s,c,q,hq⟩:=h
  exact qC ⟨S,LQ,_,s,c,q,λv H' t S' f s' r zz64=>by obtain ⟨k,e,q'⟩:=zz64;exact by subst e;cases r;exact ⟨k,rfl,hq k H' S' f s' q'⟩⟩
theorem bg (h:QE K X e wa) (he:∀ whole,isTrue e X.env whole=(do let v <- whole;standAt e.pos;holding [v] (truthy v)):=by intro _;rfl):QT K X e (wB wa):=PT.of (Es h he) λ_ _ _ h=>Ix h
def wj (t u:WT):WT:=λU S Q=>t U S λc S1=>if c=true then u U S1 Q else Q false S1
def wOr (t u:WT):WT:=λU S Q=>t U S λc S1=>if c=true then Q true S1 else u U S1 Q
def wm (t:WT):WT:=λU S Q=>t U S λc S1=>Q (!c) S1
variable {ta tb:WT}{rest:List Expr}
theorem tH (ha:QT K X a ta):QW K X (.BoolOp .And [a] pos) ta:=BQ ha
theorem gW (ha:QT K X a ta):QW K X (.BoolOp .Or [a] pos) ta:=Et ha
theorem uQ (ha:QT K X a ta) (hb:QW K X (.BoolOp .And (b::rest) pos) tb):QW K X (.BoolOp .And (a::b::rest) pos) (wj ta tb):=PW.of (Eu ha hb) λU H Q zz65=>by
 obtain ⟨S,LQ,Qt,s,c,q,hq⟩:=zz65
 refine ⟨S,LQ,_,s,c,q,λk H1 S1 f1 s1 q1=>?_⟩
 cases k with
 |true=>exact ⟨S1,LQ,_,s1,c.fr f1,q1,λb H' S' f=>hq b H' S' (f1.trans f)⟩
 |false=>exact hq false H1 S1 f1 s1 q1
theorem ia (ha:QT K X a ta) (hb:QW K X (.BoolOp .Or (b::rest) pos) tb):QW K X (.BoolOp .Or (a::b::rest) pos) (wOr ta tb):=PW.of (HN ha hb) λU H Q zz66=>by
 obtain ⟨S,LQ,Qt,s,c,q,hq⟩:=zz66
 refine ⟨S,LQ,_,s,c,q,λk H1 S1 f1 s1 q1=>?_⟩
 cases k with
 |false=>exact ⟨S1,LQ,_,s1,c.fr f1,q1,λb H' S' f=>hq b H' S' (f1.trans f)⟩
 |true=>exact hq true H1 S1 f1 s1 q1
theorem eF (h:QW K X e ta):QT K X e ta:=h _
theorem bt (ha:QT K X a ta):QT K X (.UnaryOp .Not a pos) (wm ta):=PT.of (Ev ha) λU H Q zz67=>by obtain ⟨S,LQ,Qt,s,c,q,hq⟩:=zz67;exact ⟨S,LQ,_,s,c,q,λk H1 S1 f1 s1 q1=>hq _ H1 S1 f1 s1 q1⟩
def uR (wa wb:WE):WE:=λU S Q=>wa U S λx S1=>∃ k,x=.bl k/\if k=true then wb U S1 Q else Q (.bl false) S1
def wq (wa wb:WE):WE:=λU S Q=>wa U S λx S1=>∃ k,x=.bl k/\if k=true then Q (.bl true) S1 else wb U S1 Q
def uS (wa:WE):WE:=λU S Q=>wa U S λx S1=>∃ k,x=.bl k/\Q (.bl (!k)) S1
theorem cU {op}(h:QE K X a wa):QE K X (.BoolOp op [a] pos) wa:=Ew h
theorem d7 (ha:QE K X a wa) (hb:QE K X (.BoolOp .And (b::rest) pos) wb):QE K X (.BoolOp .And (a::b::rest) pos) (uR wa wb):=PE.of (Ex ha hb) λU H Q zz68=>by
 obtain ⟨S,LQ,Qt,s,c,q,hq⟩:=zz68
 refine ⟨S,LQ,_,s,c,q,λx H1 tx S1 f1 s1 r1 q1=>?_⟩
 obtain ⟨k,rfl,q1⟩:=q1
 cases r1
 refine ⟨k,rfl,?_⟩
 cases k with
 |true=>exact ⟨S1,LQ,_,s1,c.fr f1,q1,λv H' t S' f=>hq v H' t S' (f1.trans f)⟩
 |false=>exact hq _ H1 _ S1 f1 s1 .bl q1
theorem n4 (ha:QE K X a wa) (hb:QE K X (.BoolOp .Or (b::rest) pos) wb):QE K X (.BoolOp .Or (a::b::rest) pos) (wq wa wb):=PE.of (HR ha hb) λU H Q zz69=>by
 obtain ⟨S,LQ,Qt,s,c,q,hq⟩:=zz69
 refine ⟨S,LQ,_,s,c,q,λx H1 tx S1 f1 s1 r1 q1=>?_⟩
 obtain ⟨k,rfl,q1⟩:=q1
 cases r1
 refine ⟨k,rfl,?_⟩
 cases k with
 |false=>exact ⟨S1,LQ,_,s1,c.fr f1,q1,λv H' t S' f=>hq v H' t S' (f1.trans f)⟩
 |true=>exact hq _ H1 _ S1 f1 s1 .bl q1
theorem tI (ha:QE K X a wa):QE K X (.UnaryOp .Not a pos) (uS wa):=PE.of (Ey ha) λU H Q zz70=>by
 obtain ⟨S,LQ,Qt,s,c,q,hq⟩:=zz70
 refine ⟨S,LQ,_,s,c,q,λx H1 tx S1 f1 s1 r1 q1=>?_⟩
 obtain ⟨k,rfl,q1⟩:=q1
 cases r1
 exact ⟨k,rfl,hq _ H1 _ S1 f1 s1 .bl q1⟩
def wIf (t:WT) (wa wb:WE):WE:=λU S Q=>t U S λc S1=>if c=true then wa U S1 Q else wb U S1 Q
theorem jE {c:Expr}(hc:QT K X c ta) (ha:QE K X a wa) (hb:QE K X b wb):QE K X (.IfExp c a b pos) (wIf ta wa wb):=PE.of (Ai hc ha hb) λU H Q zz71=>by
 obtain ⟨S,LQ,Qt,s,c,q,hq⟩:=zz71
 refine ⟨S,LQ,_,s,c,q,λk H1 S1 f1 s1 q1=>?_⟩
 cases k with
 |true=>exact ⟨S1,LQ,_,s1,c.fr f1,q1,λv H' t S' f=>hq v H' t S' (f1.trans f)⟩
 |false=>exact ⟨S1,LQ,_,s1,c.fr f1,q1,λv H' t S' f=>hq v H' t S' (f1.trans f)⟩
def dq:WA:=λ_ S Q=>Q [] S
def n5 (wa:WE) (wr:WA):WA:=λU S Q=>wa U S λx S1=>wr U S1 λxs S2=>Q (x::xs) S2
variable {es:List Expr}{wr:WA}
theorem af:QA K X [] dq:=PA.of mV λU H Q zz72=>by obtain ⟨S,LQ,Qt,s,c,q,hq⟩:=zz72;exact hq [] H [] S .refl s .nil q
theorem ae (ha:QE K X e wa) (hr:QA K X es wr) (hs:starEach (e::es) X.env=(false,eval e X.env)::starEach es X.env:=by exact L2.Cf rfl):QA K X (e::es) (n5 wa wr):=PA.of (mC ha hr hs) λU H Q zz73=>by
 obtain ⟨S,LQ,Qt,s,c,q,hq⟩:=zz73
 refine ⟨S,LQ,_,s,c,q,λx H1 tx S1 f1 s1 r1 q1=>?_⟩
 exact ⟨S1,LQ,_,s1,c.fr f1,q1,λvs H2 ts S2 f2 s2 r2 q2=>hq _ H2 _ S2 (f1.trans f2) s2 (.cons (r1.fr f2) r2) q2⟩
def wt (wr:WA):WE:=λU S Q=>wr U S λts S1=>ts.length<=sizeLine/\Q (.tup ts) S1
theorem aY {x1}(h:QA K X es wr):QE K X (.Tuple es x1 pos) (wt wr):=PE.of (ES h) λU H Q zz74=>by
 obtain ⟨S,LQ,Qt,s,c,q,hq⟩:=zz74
 refine ⟨S,LQ,_,s,c,q,λvs H1 ts S1 f1 s1 r1 q1=>?_⟩
 refine ⟨by rw [r1.length];exact q1.1,λp hp=>hq _ _ (.tup ts) S1 (f1.trans (Fr.new hp)) (s1.new hp) (.tup (s1.fresh hp) aM (r1.fr (Fr.new hp))) q1.2⟩
def wu (wr:WA):WE:=λU S Q=>wr U S λts S1=>ts.length<=sizeLine/\Q (.lst ts) S1
def uT (wr:WA):WE:=λU S Q=>wr U S λts S1=>ts.length<=sizeLine/\∀ p,S1 p=none->Q (.ref p) (put S1 p (.lst ts))
theorem cq (h:QA K X es wr):QE K X (.List es pos) (wu wr):=PE.of (tm h) λU H Q zz75=>by
 obtain ⟨S,LQ,Qt,s,c,q,hq⟩:=zz75
 refine ⟨S,LQ,_,s,c,q,λvs H1 ts S1 f1 s1 r1 q1=>?_⟩
 refine ⟨by rw [r1.length];exact q1.1,λp hp=>hq _ _ (.lst ts) S1 (f1.trans (Fr.new hp)) (s1.new hp) (.lst (s1.fresh hp) aM (r1.fr (Fr.new hp))) q1.2⟩
theorem m3 (h:QA K X es wr):QE K X (.List es pos) (uT wr):=PE.of (tm h) λU H Q zz76=>by
 obtain ⟨S,LQ,Qt,s,c,q,hq⟩:=zz76
 refine ⟨S,LQ,_,s,c,q,λvs H1 ts S1 f1 s1 r1 q1=>?_⟩
 refine ⟨by rw [r1.length];exact q1.1,λp hp=>hq _ _ (.ref p) _ (f1.trans (Fr.newT hp)) (s1.newT hp (.lst aM (r1.fr (Fr.newT hp)))) .ref (q1.2 p (s1.fresh hp))⟩
end
section
variable {K:Fg}{X:Cx}{e:Expr}{we:WE}{st:Stmt}{rest:List Stmt}{w u:WS}{pos:Pos}
def uU:WS:=λD U S=>D.nx U S
def oZ (w u:WS):WS:=λD U S=>w { D with nx:=u D } U S
theorem aF:QSs K X [] uU:=PSs.of BR λD U H zz77=>by obtain ⟨S,LQ,Dt,s,c,q,he⟩:=zz77;exact he.nx U H LQ S .refl s c q
theorem ak (h1:QS K X st w) (h2:QSs K X rest u):QSs K X (st::rest) (oZ w u):=PSs.of (Aj h1 h2) λD U H ⟨S,LQ,Dt,s,c,q,he⟩ =>
 ⟨S,LQ,{ Dt with nx:=u Dt },s,c,q,⟨λ_ _ L9 S' f s' c' q'=>⟨S',L9,Dt,s',c',q',he.fr f⟩,he.rt,he.bk,he.ct⟩⟩
theorem ai (h1:QS K X st w):QSs K X [st] w:=BS h1
def uV (we:WE):WS:=λD U S=>we U S λ_ S1=>D.nx U S1
theorem aR (he:QE K X e we) (hs:swapsWith e none pos.line X.env=pure false:=by rfl):QS K X (.Expr e pos) (uV we):=PS.of (BU he hs) λD U H ⟨S,LQ,Dt,s,c,q,he⟩ =>
 ⟨S,LQ,_,s,c,q,λ_ H1 _ S1 f1 s1 _ q1=>he.nx U H1 LQ S1 f1 s1 (c.fr f1) q1⟩
def ww (we:WE):WS:=λD U S=>we U S D.rt
theorem av (he:QE K X e we):QS K X (.Return (some e) pos) (ww we):=PS.of (Ez he) λD U H zz78=>by obtain ⟨S,LQ,Dt,s,c,q,he⟩:=zz78;exact ⟨S,LQ,_,s,c,q,he.rt⟩
def wx (t:WT) (w u:WS):WS:=λD U S=>t U S λb S1=>if b=true then w D U S1 else u D U S1
theorem az {c:Expr}{a b:List Stmt}{t:WT}(hc:QT K X c t) (ha:QSs K X a w) (hb:QSs K X b u):QS K X (.If c a b pos) (wx t w u):=PS.of (HV hc ha hb) λD U H zz79=>by
 obtain ⟨S,LQ,Dt,s,c,q,he⟩:=zz79
 refine ⟨S,LQ,_,s,c,q,λk H1 S1 f1 s1 q1=>?_⟩
 cases k with
 |true=>exact ⟨S1,LQ,Dt,s1,c.fr f1,q1,he.fr f1⟩
 |false=>exact ⟨S1,LQ,Dt,s1,c.fr f1,q1,he.fr f1⟩
def tJ:WS:=λ_ _ _=>False
theorem bf:QS K X st tJ:=λ_ _ _ _ _ _ zz80=>by obtain ⟨_,_,_,_,_,q,_⟩:=zz80;exact q.elim
theorem eV {TC:List Stmt}:QSs K X TC tJ:=λ_ _ _ _ _ _ zz81=>by obtain ⟨_,_,_,_,_,q,_⟩:=zz81;exact q.elim
abbrev WG:=T->StT->Sto->(StT->Sto->Prop)->Prop
abbrev WGs:=List T->StT->Sto->(StT->Sto->Prop)->Prop
def lG (K:Fg) (g:WG):TG:=λv U H Q=>∃ S t LQ Qt,SRp K H S/\Rp K H S t v/\Cov K H S U LQ/\g t LQ S Qt/\∀ LR H' L9 S',Fr H S H' S'->SRp K H' S'->Cov K H' S' LR L9->Qt L9 S'->Q LR H'
def lGs (K:Fg) (g:WGs):TGs:=λvs U H Q=>∃ S ts LQ Qt,SRp K H S/\Rps K H S ts vs/\Cov K H S U LQ/\g ts LQ S Qt/\∀ LR H' L9 S',Fr H S H' S'->SRp K H' S'->Cov K H' S' LR L9->Qt L9 S'->Q LR H'
def QG (K:Fg) (X:Cx) (tg:Expr) (g:WG):Prop:=PG X tg (lG K g)
def QGs (K:Fg) (X:Cx) (tg:List Expr) (g:WGs):Prop:=PGs X tg (lGs K g)
theorem PG.of {X:Cx}{e:Expr}{t t':TG}(h:PG X e t) (i:∀ v U H Q,t' v U H Q->t v U H Q):PG X e t':=λpins s U H v u Q I r q=>h pins s U H v u Q I r (i v U H Q q)
theorem PGs.of {X:Cx}{e:List Expr}{t t':TGs}(h:PGs X e t) (i:∀ v U H Q,t' v U H Q->t v U H Q):PGs X e t':=λpins s U H v u Q I r q=>h pins s U H v u Q I r (i v U H Q q)
def wgN (i:Nat):WG:=λt U S Q=>Q (U.set i (some t)) S
theorem Cy {i:Nat}{x:Str}(h:PG X (.Name x pos) (jz i)):QG K X (.Name x pos) (wgN i):=PG.of h λv U H Q zz82=>by obtain ⟨S,t,LQ,Qt,s,r,c,q,hq⟩:=zz82;exact hq _ H _ S .refl s (c.set r i) q
def uW:WGs:=λts U S Q=>ts=[]/\Q U S
def tK (g:WG) (h:WGs):WGs:=λts U S Q=>∃ t r,ts=t::r/\g t U S λLR S'=>h r LR S' Q
variable {tg:Expr}{tgs:List Expr}{g:WG}{gs:WGs}
theorem gC:QGs K X [] uW:=PGs.of BW λv U H Q zz83=>by
 obtain ⟨S,t,LQ,Qt,s,r,c,⟨e,q⟩,hq⟩:=zz83
 subst e;cases r
 exact ⟨rfl,hq _ H _ S .refl s c q⟩
theorem cz (h1:QG K X tg g) (h2:QGs K X tgs gs) (h:∀ {t u},PG X tg t->PGs X tgs u->PGs X (tg::tgs) (uM t u)):QGs K X (tg::tgs) (tK g gs):=PGs.of (h h1 h2) λv U H Q zz84=>by
 obtain ⟨S,t,LQ,Qt,s,r,c,⟨y,ys,e,q⟩,hq⟩:=zz84
 subst e
 cases r with
 |cons r rs =>
  refine ⟨_,_,rfl,S,y,LQ,_,s,r,c,q,λLR H' L9 S' f s' c' q'=>?_⟩
  exact ⟨S',ys,L9,Qt,s',rs.fr f,c',q',λMR H2 Ow S2 f2=>hq MR H2 Ow S2 (f.trans f2)⟩
def uX (n:Nat) (g:WGs):WG:=λt U S Q=>∃ ts,t=.tup ts/\ts.length=n/\g ts U S Q
theorem gK {es:List Expr}{k n:Nat}(h:∀ {t},PGs X es t->PG X (.Tuple es k pos) (oU K n t)) (h1:QGs K X es gs):QG K X (.Tuple es k pos) (uX n gs):=PG.of (h h1) λv U H Q zz85=>by
 obtain ⟨S,t,LQ,Qt,s,r,c,⟨ts,e,l,q⟩,hq⟩:=zz85
 subst e
 cases r with
 |tup n' hp rs=>exact ⟨_,_,rfl,SqT.of hp,by rw [rs.length];exact l,S,ts,LQ,Qt,s,rs,c,q,hq⟩
def eG (we:WE) (g:WG):WS:=λD U S=>we U S λt S1=>g t U S1 D.nx
theorem Cz {D U H}(h:lS K (eG we g) D U H):fS (lE K we) (lG K g) D U H:=by
 obtain ⟨S,LQ,Dt,s,c,q,he⟩:=h
 refine ⟨S,LQ,_,s,c,q,λv H1 t S1 f1 s1 r1 q1=>?_⟩
 exact ⟨S1,t,LQ,_,s1,r1,c.fr f1,q1,λLR H' L9 S' f=>he.nx LR H' L9 S' (f1.trans f)⟩
theorem Iy (h:∀ {t g},PE X e t->PG X tg g->PS X (.Assign [tg] e pos) (fS t g)) (he:QE K X e we) (hg:QG K X tg g):QS K X (.Assign [tg] e pos) (eG we g):=PS.of (h he hg) λ_ _ _ h=>Cz h
theorem Iz {i:Nat}{x:Str}{MT:Pos}(hN:X.N.Nodup) (hi:X.N[i]?=some x) (hx:Loc X.env.scope x) (he:QE K X e we) (hs:swapsWith e (some (.Name x MT)) pos.line X.env=pure false:=by rfl)
  (hf:X.fn x=true\/X.env.scope.names.lookup x=some .local:=by first|exact .inl rfl|exact .inr rfl|assumption):QS K X (.Assign [.Name x MT] e pos) (eG we (wgN i)):=PS.of (ED hN hi hx he hs hf) λD U H h=>by
 obtain ⟨S,LQ,Dt,s,c,q,he⟩:=h
 exact ⟨S,LQ,_,s,c,q,λv H1 t S1 f1 s1 r1 q1=>he.nx _ H1 _ S1 f1 s1 ((c.fr f1).set r1 i) q1⟩
end
end T2
namespace T2
open PySem PySem.Spec PyProof.Rows L2
abbrev WSp:=List T->Sto->(T->Sto->Prop)->Prop
def lSp (K:Fg) (w:WSp):Sp:=λvs H Q _=>∃ S ts Qt,SRp K H S/\Rps K H S ts vs/\w ts S Qt/\Bh K H S Qt Q
noncomputable def bV (N:List Str) (ts:List T):StT:=ts.map some++List.replicate (N.length - ts.length) none
theorem lF {K:Fg}{H:Hp}{S:Sto}{N:List Str}{ts:List T}{vs:List V}(r:Rps K H S ts vs):Cov K H S (L2.bX N vs) (bV N ts):=by
 have l:=r.length
 refine ⟨by unfold L2.bX bV;simp [l],λi t e=>?_⟩
 unfold bV at e
 by_cases hi:i<ts.length
 ·rw [List.getElem?_append_left (by simpa using hi),List.getElem?_map] at e
  cases q:ts[i]? with
  |none=>rw [q] at e;cases e
  |some a =>
   rw [q] at e;cases e
   obtain ⟨v,hv,rv⟩:=r.get q
   refine ⟨v,?_,rv⟩
   unfold L2.bX
   rw [List.getElem?_append_left (by simp;omega),List.getElem?_map,hv];rfl
 ·rw [List.getElem?_append_right (by simpa using hi),List.getElem?_replicate] at e
  split at e<;>cases e
def Fin (Q:T->Sto->Prop) (t:T) (S:Sto):Prop:=(∃ S0,Le S0 S/\Q t S0)\/∃ p ts S0,t=.ref p/\S p=some (.lst ts)/\Le S0 S/\S0 p=none/\Q (.lst ts) S0
theorem Fin.mk {Q:T->Sto->Prop}{t:T}{S:Sto}(h:Q t S):Fin Q t S:=.inl ⟨S,.refl,h⟩
theorem Fin.le {Q:T->Sto->Prop}{t:T}{S S0:Sto}(l:Le S0 S) (h:Q t S0):Fin Q t S:=.inl ⟨S0,l,h⟩
theorem Fin.ends {K:Fg}{H H':Hp}{S S':Sto}{Qt:T->Sto->Prop}{Q:VK}(b:Bh K H S Qt Q){v:V}{t:T}(f:Fr H S H' S') (s:SRp K H' S') (r:Rp K H' S' t v) (q:Fin Qt t S'):Q v H':=by
 rcases q with ⟨S0,l,q⟩|⟨p,ts,S0,rfl,e,l,n,q⟩
 ·exact b v H' t S0 (f.trans (Fr.le l)) (s.le l) (r.fr (Fr.le l)) q
 ·cases r
  cases s p _ e with
  |lst hp rs=>exact b _ H' (.lst ts) S0 (f.trans (Fr.le l)) (s.le l) (.lst n hp (rs.fr (Fr.le l))) q
section
variable {P:Program}{w:World}{K:Fg}{mg:Str->Option Value}{base:Heap}
theorem Fc {x qual:Str}{st:Stmt}{f:Addr}{fd:FuncData}{N ps:List Str}{k:Nat}{L5:WSp}(F:Fun K x qual st f fd) (Sc:FnScope N ps (aq st)) (len:∀ ts S Q,L5 ts S Q->ts.length=ps.length)
  (NL:∀ (cdv:Value) (A:Around) (outer:List Env) (s:Shared) (H:Hp) (E:XK),Room k (A.deeper (envOfC qual (aq st) s.heap.objs.size f cdv)) ->
   ∃ u,QSs K (cJ CX0 P w K mg base N qual (aq st) f cdv A outer s H E).nox (bG st) u/\∀ ts S Q,L5 ts S Q->u { nx:=λ_ S'=>Fin Q .non S',rt:=Fin Q } (bV N ts) S):FnOk P w K mg base CX0 (k+1) f fd ps (lSp K L5):=by
 refine Fun.ok F Sc (λvs H Q E ⟨S,ts,Qt,s,r,q,_⟩=>by rw [r.length];exact len _ _ _ q) λcdv A outer s H vs Q E hr ⟨S,ts,Qt,sr,r,q,b⟩=>?_
 obtain ⟨u,hu,hq⟩:=NL cdv A outer s H E hr
 refine ⟨_,hu,S,bV N ts,_,sr,lF r,hq ts S Qt q,⟨λ_ H' _ S' f s' _ q'=>Fin.ends b f s' .non q',λv H' t S' f s' r' q'=>Fin.ends b f s' r' q',λ_ _ _ _ _ _ _ q'=>q'.elim,λ_ _ _ _ _ _ _ q'=>q'.elim⟩⟩
end
section
variable {K:Fg}{X:Cx}{k:Nat}{f C:Addr}{fd:FuncData}{ps:List Str}{L5:WSp}{NZ:List T}{dvs:List V}{ds:List Value}{x m:Str}{p pos apos:Pos}{e o:Expr}{es:List Expr}{wa:WE}{wr:WA}
def gX (L5:WSp) (NZ:List T) (wr:WA):WE:=λU S Q=>wr U S λts S1=>L5 (ts++NZ) S1 Q
theorem AJ {U H Q}(hd:∀ H S,Rps K H S NZ dvs) (h:lE K (gX L5 NZ wr) U H Q):nZ (lSp K L5) dvs E0 (lA K wr) U H Q:=by
 obtain ⟨S,LQ,Qt,s,c,q,hq⟩:=h
 refine ⟨S,LQ,_,s,c,q,λvs H1 ts S1 f1 s1 r1 q1=>?_⟩
 exact ⟨S1,_,Qt,s1,r1.append (hd _ _),q1,λv H' t S' f=>hq v H' t S' (f1.trans f)⟩
theorem Fd (hd:∀ H S,Rps K H S NZ dvs) (hp:PE X e (nZ (lSp K L5) dvs E0 (lA K wr))):QE K X e (gX L5 NZ wr):=PE.of hp λ_ _ _ h=>AJ hd h
def dJ (G:Addr->Prop) (m:Str) (L5:WSp) (NZ:List T) (wa:WE) (wr:WA):WE:=λU S Q=>wa U S λx S1=>∃ a C fs,x=.ref a/\S1 a=some (.ins C fs)/\G C/\fs.lookup m=none/\wr U S1 λts S2=>L5 (x::(ts++NZ)) S2 Q
end
theorem cP {K:Fg}{H:Hp}{S:Sto}{m:Str}:∀ {fts:List (Str×T)}{fs:List (Str×V)},Paired (λ(p:Str×T) (q:Str×V)=>p.1=q.1/\Rp K H S p.2 q.2) fts fs->fts.lookup m=none->fs.lookup m=none:=by
 intro kts kvs pr
 induction pr with
 |nil=>intro _;exact rfl
 |@cons p q2 l l' er t ih =>
  intro h
  obtain ⟨a,b⟩:=p;obtain ⟨c,d⟩:=q2;obtain ⟨e,r⟩:=er
  simp only at e;subst e
  rw [List.lookup_cons] at h ⊢
  by_cases z:(m==a)=true
  ·rw [z] at h;cases h
  ·simp only [Bool.not_eq_true] at z
   rw [z] at h ⊢
   exact ih h
theorem lJ {K:Fg}{H:Hp}{S:Sto}{m:Str}{t:T}:∀ {fts:List (Str×T)}{fs:List (Str×V)},Paired (λ(p:Str×T) (q:Str×V)=>p.1=q.1/\Rp K H S p.2 q.2) fts fs->fts.lookup m=some t->∃ v,fs.lookup m=some v/\Rp K H S t v:=by
 intro kts kvs pr
 induction pr with
 |nil=>intro h;cases h
 |@cons p q2 l l' er ps ih =>
  intro h
  obtain ⟨a,b⟩:=p;obtain ⟨c,d⟩:=q2;obtain ⟨e,r⟩:=er
  simp only at e;subst e
  rw [List.lookup_cons] at h ⊢
  by_cases z:(m==a)=true
  ·rw [z] at h ⊢;cases h;exact ⟨d,rfl,r⟩
  ·simp only [Bool.not_eq_true] at z
   rw [z] at h ⊢
   exact ih h
noncomputable def bz (f:Str) (v:T):List (Str×T)->List (Str×T)
 |[]=>[(f,v)]
 |(g,u)::r=>if g=f then (g,v)::r else (g,u)::bz f v r
theorem yJ {K:Fg}{H:Hp}{S:Sto}{f:Str}{t:T}{v:V}(r:Rp K H S t v):∀ {fts:List (Str×T)}{fs:List (Str×V)},Paired (λ(p:Str×T) (q:Str×V)=>p.1=q.1/\Rp K H S p.2 q.2) fts fs ->
  Paired (λ(p:Str×T) (q:Str×V)=>p.1=q.1/\Rp K H S p.2 q.2) (bz f t fts) (bb f v fs):=by
 intro kts kvs pr
 induction pr with
 |nil=>exact .cons ⟨rfl,r⟩ .nil
 |@cons p q2 l l' er ps ih =>
  obtain ⟨a,b⟩:=p;obtain ⟨c,d⟩:=q2;obtain ⟨e,q⟩:=er
  simp only at e;subst e
  unfold bz bb
  by_cases z:a=f
  ·rw [if_pos z,if_pos z];exact .cons ⟨rfl,r⟩ ps
  ·rw [if_neg z,if_neg z];exact .cons ⟨rfl,q⟩ (ih)
theorem Paired.len {α β:Type}{F:α->β->Prop}:∀ {l:List α}{l':List β},Paired F l l'->l'.length=l.length
 |_,_,.nil=>rfl
 |_,_,.cons _ t=>by simp [Paired.len t]
section
variable {K:Fg}{X:Cx}{CX:CXT}{k:Nat}{f:Addr}{fd:FuncData}{ps:List Str}{sp:Sp}{L5:WSp}{NZ:List T}{dvs:List V}{ds:List Value}{E:XK}{x m:Str}{p pos apos:Pos}{e o:Expr}{es:List Expr}{wa:WE}{wr:WA}{ta:TE}{t:TA}{G:Addr->Prop}
def fD (G:Addr->Prop) (m:Str) (sp:Sp) (dvs:List V) (E:XK) (ta:TE) (t:TA):TE:=λU H Q=>ta U H λx H1=>∃ a C dx fs,x=.ref a/\H1 a=some (.ins C dx fs)/\G C/\fs.lookup m=none /\
 t U H1 λvs H2=>sp (x::(vs++dvs)) H2 Q E
theorem qS {pl:Sem Bool}(he:PE X o ta) (hG:∀ C,G C->Cls X.K C/\Meth X.K C m f) (F:FnOk X.prog X.w X.K X.mg X.base CX k f fd ps sp) (hr:Room k X.A) (hb:ao X.K fd ps ds) (hd:am dvs ds) (hx:dF CX X E) (ha:PA X (e::es) t)
  (PC:starEach (e::es) X.env=(false,eval e X.env)::starEach es X.env:=by rfl) (MS:(backTo pos (starEach es X.env)).any (·.1)=false:=by rfl)
  (ht:eval (.Call (.Attribute o m apos) (e::es) [] pos) X.env=(do
   let ov <- eval o X.env
   standAt apos.atName
   let (f,first) <- holding [ov] (getMethod ov m pl)
   callWith pos f first (backTo pos (starEach (e::es) X.env)) (backToKw pos (keywordEach [] X.env))):=by rfl) :
  PE X (.Call (.Attribute o m apos) (e::es) [] pos) (fD G m sp dvs E ta t):=by
 intro pins s U H Q I h
 refine PySem.W.methodCall_KW (pl:=pl) (thn (he pins s U H _ I h) λu s1 ⟨x,H1,I1,rx,a,C,dx,fs,ex,ea,g,l,q⟩=>?_) ht
 subst ex
 obtain rfl:u=Value.ref a:=rx
 obtain ⟨c,hm⟩:=hG C g
 refine fW I1 ea c hm l ?_
 refine PySem.W.callWith_K (first:=[.ref a]) (h₀:=X.base) I.ok.mod.kin hm.kp (thn (ha pos pins s1 U H1 _ I1 q) λus s2 ⟨vs,H2,I2,r,q2⟩=>⟨I2.kIn,?_⟩) PC MS
 exact mW (us:=.ref a::us) (vs:=.ref a::vs) F hr hb hd hx I2 (.cons rfl r) q2
theorem zy {pl:Sem Bool}(he:PE X o ta) (hG:∀ C,G C->Cls X.K C/\Meth X.K C m f) (F:FnOk X.prog X.w X.K X.mg X.base CX k f fd ps sp) (hr:Room k X.A) (hb:ao X.K fd ps ds) (hd:am dvs ds) (hx:dF CX X E)
  (ht:eval (.Call (.Attribute o m apos) [] [] pos) X.env=(do
   let ov <- eval o X.env
   standAt apos.atName
   let (f,first) <- holding [ov] (getMethod ov m pl)
   callWith pos f first (backTo pos (starEach [] X.env)) (backToKw pos (keywordEach [] X.env))):=by rfl) :
  PE X (.Call (.Attribute o m apos) [] [] pos) (fD G m sp dvs E ta dn):=by
 intro pins s U H Q I h
 refine PySem.W.methodCall_KW (pl:=pl) (thn (he pins s U H _ I h) λu s1 ⟨x,H1,I1,rx,a,C,dx,fs,ex,ea,g,l,q⟩=>?_) ht
 subst ex
 obtain rfl:u=Value.ref a:=rx
 obtain ⟨c,hm⟩:=hG C g
 refine fW I1 ea c hm l ?_
 exact PySem.W.callWith_K0 (first:=[.ref a]) I1.kIn hm.kp (mW (us:=[.ref a]) (vs:=[.ref a]) F hr hb hd hx I1 (.cons rfl .nil) q)
theorem AK {U H Q}(hd:∀ H S,Rps K H S NZ dvs) (h:lE K (dJ G m L5 NZ wa wr) U H Q):fD G m (lSp K L5) dvs E0 (lE K wa) (lA K wr) U H Q:=by
 obtain ⟨S,LQ,Qt,s,c,q,hq⟩:=h
 refine ⟨S,LQ,_,s,c,q,λx H1 tx S1 f1 s1 r1 q1=>?_⟩
 obtain ⟨a,C,fs,rfl,ea,g,l,q1⟩:=q1
 cases r1
 cases s1 a _ ea with
 |ins eh pr =>
  refine ⟨a,C,_,_,rfl,eh,g,cP pr l,S1,LQ,_,s1,c.fr f1,q1,λvs H2 ts S2 f2 s2 r2 q2=>?_⟩
  exact ⟨S2,_,Qt,s2,.cons .ref (r2.append (hd _ _)),q2,λv H' t S' f=>hq v H' t S' ((f1.trans f2).trans f)⟩
theorem tL (hd:∀ H S,Rps K H S NZ dvs) (hp:PE X e (fD G m (lSp K L5) dvs E0 (lE K wa) (lA K wr))):QE K X e (dJ G m L5 NZ wa wr):=PE.of hp λ_ _ _ h=>AK hd h
theorem zA {U H Q}(hd:∀ H S,Rps K H S NZ dvs) (h:lE K (dJ G m L5 NZ wa dq) U H Q):fD G m (lSp K L5) dvs E0 (lE K wa) dn U H Q:=by
 obtain ⟨S,LQ,Qt,s,c,q,hq⟩:=h
 refine ⟨S,LQ,_,s,c,q,λx H1 tx S1 f1 s1 r1 q1=>?_⟩
 obtain ⟨a,C,fs,rfl,ea,g,l,q1⟩:=q1
 cases r1
 cases s1 a _ ea with
 |ins eh pr =>
  refine ⟨a,C,_,_,rfl,eh,g,cP pr l,?_⟩
  exact ⟨S1,_,Qt,s1,.cons .ref (Rps.append .nil (hd _ _)),q1,λv H' t S' f=>hq v H' t S' (f1.trans f)⟩
theorem CA (hd:∀ H S,Rps K H S NZ dvs) (hp:PE X e (fD G m (lSp K L5) dvs E0 (lE K wa) dn)):QE K X e (dJ G m L5 NZ wa dq):=PE.of hp λ_ _ _ h=>zA hd h
def gY (C:Addr) (L5:WSp) (NZ:List T) (wr:WA):WE:=λU S Q=>wr U S λts S1=>∀ x,S1 x=none->L5 (.ref x::(ts++NZ)) (put S1 x (.ins C [])) (λt S2=>t=.non/\Q (.ref x) S2)
theorem mG {H:Hp}{S:Sto}{C x dx:Addr}(hx:H x=none) (hd:H dx=none):Fr H S (upd (upd H dx (.own x)) x (.ins C dx [])) (put S x (.ins C [])):=λa o e n =>
 ⟨by rw [aB (bB e hx),aB (bB e hd)];exact e,by rw [ay (bB e hx)];exact n⟩
theorem AL {H:Hp}{S:Sto}{C x dx:Addr}(s:SRp K H S) (hx:H x=none) (hd:H dx=none):SRp K (upd (upd H dx (.own x)) x (.ins C dx [])) (put S x (.ins C [])):=λa o e=>by
 by_cases ha:a=x
 ·subst ha;rw [aI] at e;cases e;exact .ins aM .nil
 ·rw [ay ha] at e
  obtain ⟨u,hu⟩:=(s a o e).some
  exact (s a o e).fr (mG hx hd) (by rw [aB ha,aB (bB hu hd)])
theorem rV {C:Addr}{S:Sto}{H:Hp}{ts:List T}{vs:List V}{Qt:T->Sto->Prop}{Q:VK}(hd:∀ H S,Rps K H S NZ dvs) (s:SRp K H S) (r:Rps K H S ts vs) (b:Bh K H S Qt Q)
  (q:∀ x,S x=none->L5 (.ref x::(ts++NZ)) (put S x (.ins C [])) (λt S2=>t=.non/\Qt (.ref x) S2)) (x dx:Addr) (hx:H x=none) (TD:H dx=none) :
  lSp K L5 (.ref x::(vs++dvs)) (upd (upd H dx (.own x)) x (.ins C dx [])) (λv H2=>v=.non/\Q (.ref x) H2) E0:=by
 refine ⟨_,_,_,AL s hx TD,.cons .ref ((r.fr (mG hx TD)).append (hd _ _)),q x (s.fresh hx),λv H' t S' f s' r' q'=>?_⟩
 obtain ⟨rfl,q'⟩:=q'
 cases r'
 exact ⟨rfl,b _ H' _ S' ((mG hx TD).trans f) s' .ref q'⟩
theorem Fe {C:Addr}(hd:∀ H S,Rps K H S NZ dvs) (hp:PE X e (jA C (lSp K L5) dvs E0 (lA K wr))):QE K X e (gY C L5 NZ wr):=PE.of hp λU H Q zz86=>by
 obtain ⟨S,LQ,Qt,s,c,q,hq⟩:=zz86
 refine ⟨S,LQ,_,s,c,q,λvs H1 ts S1 f1 s1 r1 q1 x dx hx TD _=>?_⟩
 exact rV hd s1 r1 (λv H' t S' f=>hq v H' t S' (f1.trans f)) q1 x dx hx TD
theorem CB {C:Addr}(hd:∀ H S,Rps K H S NZ dvs) (hp:PE X e (jA C (lSp K L5) dvs E0 dn)):QE K X e (gY C L5 NZ dq):=PE.of hp λU H Q ⟨S,LQ,Qt,s,c,q,hq⟩=>λx dx hx TD _ =>
 rV hd s .nil hq q x dx hx TD
def jW (G:Addr->Prop) (wa:WE) (f:Str):WE:=λU S Q=>wa U S λx S1=>∃ a C fs v,x=.ref a/\S1 a=some (.ins C fs)/\G C/\fs.lookup f=some v/\Q v S1
theorem IA {f:Str}(hK:X.K=K) (hG:∀ C,G C->Cls K C/\aJ K C f) (he:QE K X o wa) (hb:attributeBase o f X.env (eval o X.env)=eval o X.env):QE K X (.Attribute o f pos) (jW G wa f):=by
 subst hK
 refine PE.of (EO he hb) λU H Q zz87=>?_
 obtain ⟨S,LQ,Qt,s,c,q,hq⟩:=zz87
 refine ⟨S,LQ,_,s,c,q,λx H1 tx S1 f1 s1 r1 q1=>?_⟩
 obtain ⟨a,C,fs,v,rfl,ea,g,l,q1⟩:=q1
 cases r1
 cases s1 a _ ea with
 |ins eh pr =>
  obtain ⟨u,lu,ru⟩:=lJ pr l
  exact ⟨a,C,_,_,u,rfl,eh,(hG C g).1,(hG C g).2,lu,hq u H1 v S1 f1 s1 ru q1⟩
def uY (G:Addr->Prop) (wa wv:WE) (f:Str):WS:=λD U S=>wv U S λy S1=>wa U S1 λx S2=>∃ a C fs,x=.ref a/\S2 a=some (.ins C fs)/\G C/\fs.length<1000/\D.nx U (put S2 a (.ins C (bz f y fs)))
theorem lK {H:Hp}{S:Sto}{a C dx:Addr}{fts:List (Str×T)}{fs:List (Str×V)}{f:Str}{t:T}{v:V}(s:SRp K H S) (ea:S a=some (.ins C fts)) (eh:H a=some (.ins C dx fs))
  (pr:Paired (λ(p:Str×T) (q:Str×V)=>p.1=q.1/\Rp K H S p.2 q.2) fts fs) (r:Rp K H S t v):Fr H S (upd H a (.ins C dx (bb f v fs))) (put S a (.ins C (bz f t fts)))/\SRp K (upd H a (.ins C dx (bb f v fs))) (put S a (.ins C (bz f t fts))):=by
 have hn:S a≠none:=by rw [ea];simp
 refine ⟨Fr.write hn,s.write hn (.ins aM ?_)⟩
 exact Paired.mapP (yJ r pr) λ_ _ z=>⟨z.1,z.2.fr (Fr.write hn)⟩
theorem bE {f:Str}{wv:WE}{value:Expr}{MT:Pos}(hK:X.K=K) (hG:∀ C,G C->Cls K C/\aJ K C f) (ha:QE K X o wa) (hv:QE K X value wv) (hs:swapsWith value (some (.Attribute o f MT)) pos.line X.env=pure false:=by rfl) :
  QS K X (.Assign [.Attribute o f MT] value pos) (uY G wa wv f):=by
 subst hK
 refine PS.of (EQ ha hv hs) λD U H zz88=>?_
 obtain ⟨S,LQ,Dt,s,c,q,he⟩:=zz88
 refine ⟨S,LQ,_,s,c,q,λy H1 ty S1 f1 s1 r1 q1=>?_⟩
 refine ⟨S1,LQ,_,s1,c.fr f1,q1,λx H2 tx S2 f2 s2 r2 q2=>?_⟩
 obtain ⟨a,C,fs,rfl,ea,g,l,q2⟩:=q2
 cases r2
 cases s2 a _ ea with
 |ins eh pr =>
  obtain ⟨fw,sw⟩:=lK (f:=f) s2 ea eh pr (r1.fr f2)
  exact ⟨a,C,_,_,rfl,eh,(hG C g).1,(hG C g).2,by rw [Paired.len pr];exact l,he.nx _ _ LQ _ ((f1.trans f2).trans fw) sw (c.fr ((f1.trans f2).trans fw)) q2⟩
def qT (G:Addr->Prop) (wa wv:WE) (f:Str):WS:=λD U S=>wa U S λx S1=>∃ a C fs i,x=.ref a/\S1 a=some (.ins C fs)/\G C/\fs.lookup f=some (.int i) /\
 wv U S1 λy S2=>∃ j Nz,y=.int j/\S2 a=some (.ins C Nz)/\Nz.length<1000/\D.nx U (put S2 a (.ins C (bz f (.int (i+j)) Nz)))
theorem qD {f:Str}{wv:WE}{value:Expr}{NA:Pos}(hK:X.K=K) (hG:∀ C,G C->Cls K C/\aJ K C f) (ha:QE K X o wa) (hv:QE K X value wv):QS K X (.AugAssign (.Attribute o f NA) .Add value pos) (qT G wa wv f):=by
 subst hK
 refine PS.of (qk ha hv ER) λD U H zz89=>?_
 obtain ⟨S,LQ,Dt,s,c,q,he⟩:=zz89
 refine ⟨S,LQ,_,s,c,q,λx H1 tx S1 f1 s1 r1 q1=>?_⟩
 obtain ⟨a,C,fs,i,rfl,ea,g,l,q1⟩:=q1
 cases r1
 cases s1 a _ ea with
 |ins eh pr =>
  obtain ⟨u,lu,ru⟩:=lJ pr l
  cases ru
  refine ⟨a,C,_,_,_,rfl,eh,(hG C g).1,(hG C g).2,lu,S1,LQ,_,s1,c.fr f1,q1,λy H2 ty S2 f2 s2 r2 q2=>?_⟩
  obtain ⟨j,Nz,rfl,ea2,l2,q2⟩:=q2
  cases r2
  cases s2 a _ ea2 with
  |ins eh2 pr2 =>
   obtain ⟨fw,sw⟩:=lK (f:=f) (t:=.int (i+j)) (v:=.int (i+j)) s2 ea2 eh2 pr2 .int
   exact ⟨i,j,rfl,rfl,_,_,eh2,by rw [Paired.len pr2];exact l2,he.nx _ _ LQ _ ((f1.trans f2).trans fw) sw (c.fr ((f1.trans f2).trans fw)) q2⟩
end
noncomputable def aN (S:Sto):T->Option (List T)
 |.lst ts=>some ts
 |.scr ns=>some (ns.map T.int)
 |.ref a=>match S a with
  |some (.lst ts)=>some ts
  |_=>none
 |_=>none
theorem jj {S:Sto}{p:Addr}{ts:List T}(e:S p=some (.lst ts)):aN S (.ref p)=some ts:=by delta aN;dsimp only;rw [e]
noncomputable def cj (S:Sto):T->Option (List T)
 |.lst ts=>some ts
 |.ref a=>match S a with
  |some (.lst ts)=>some ts
  |_=>none
 |_=>none
theorem i8 {K H S t v ts}(s:SRp K H S) (r:Rp K H S t v) (e:cj S t=some ts):∃ p vs,v=.ref p/\H p=some (.lst vs)/\Rps K H S ts vs:=by
 cases r with
 |lst n h q=>cases e;exact ⟨_,_,rfl,h,q⟩
 |ref =>
  rename_i a
  delta cj at e
  dsimp only at e
  cases q:S a with
  |none=>rw [q] at e;cases e
  |some o =>
   rw [q] at e
   cases o with
   |lst us=>cases e;cases s a _ q with
    |lst h rs=>exact ⟨a,_,rfl,h,rs⟩
   |_=>cases e
 |_=>cases e
theorem bT {K H S t v ts}(s:SRp K H S) (r:Rp K H S t v) (e:aN S t=some ts):∃ p vs,v=.ref p/\SqL K H p vs/\Rps K H S ts vs:=by
 cases r with
 |scr h=>cases e;exact ⟨_,_,rfl,h.sq,Rps.ints⟩
 |lst n h q=>cases e;exact ⟨_,_,rfl,SqL.of h,q⟩
 |ref =>
  obtain ⟨p,vs,e1,e2,e3⟩:=i8 s (Rp.ref (K:=K) (H:=H) (S:=S)) (show cj S (.ref _)=some ts from e)
  exact ⟨p,vs,e1,SqL.of e2,e3⟩
 |_=>cases e
def a0 (tr:Bool) (ts:List T) (S:Sto) (Q:T->Sto->Prop):Prop:=match tr with
 |false=>Q (.lst ts) S
 |true=>∀ p,S p=none->Q (.ref p) (put S p (.lst ts))
theorem fF {K H S ts vs tr Qt}{Q:VK}(s:SRp K H S) (r:Rps K H S ts vs) (n:a0 tr ts S Qt) (b:Bh K H S Qt Q):∀ p,H p=none->Q (.ref p) (upd H p (.lst vs)):=λp hp=>by
 cases tr with
 |false=>exact b _ _ (.lst ts) S (Fr.new hp) (s.new hp) (.lst (s.fresh hp) aM (r.fr (Fr.new hp))) n
 |true=>exact b _ _ (.ref p) _ (Fr.newT hp) (s.newT hp (.lst aM (r.fr (Fr.newT hp)))) .ref (n p (s.fresh hp))
section
variable {K:Fg}{X:Cx}
def gI (C:Int->Int->Prop) (f:Int->Int->T):G2:=λx y S Q=>match x,y with
 |.int i,.int j=>C i j/\Q (f i j) S
 |_,_=>False
theorem jF {f:Value->Value->Sem Value}{C:Int->Int->Prop}{g:Int->Int->Int}(h:OpR X f (rI C λi j=>.int (g i j))):OpR X f (l2 K (gI C λi j=>.int (g i j))):=by
 rintro pins s U H x y v u Q I rx ry ⟨S,tx,ty,Qt,sr,hx,hy,hg,b⟩
 cases hx<;>first|exact hg.elim|skip
 cases hy<;>first|exact hg.elim|skip
 exact h pins s U H _ _ v u Q I rx ry ⟨_,_,rfl,rfl,hg.1,b _ H _ S .refl sr .int hg.2⟩
theorem Ff {f:Value->Value->Sem Value}{g:Int->Int->Int}(h:OpR X f (rI0 λi j=>.int (g i j))):OpR X f (l2 K (gI (λ_ _=>True) λi j=>.int (g i j))):=by
 rintro pins s U H x y v u Q I rx ry ⟨S,tx,ty,Qt,sr,hx,hy,hg,b⟩
 cases hx<;>first|exact hg.elim|skip
 cases hy<;>first|exact hg.elim|skip
 exact h pins s U H _ _ v u Q I rx ry ⟨_,_,rfl,rfl,b _ H _ S .refl sr .int hg.2⟩
def eD:G2:=gI (λ_ _=>True) λi j=>.int (i - j)
def wy:G2:=gI (λ_ j=>0<j/\j<18446744073709551616) λi j=>.int (i / j)
def wz:G2:=gI (λ_ j=>0<j) λi j=>.int (i % j)
def wD:G2:=gI v4 λi j=>.int (i ^ j.toNat)
def wE:G2:=gI (λ_ j=>0<=j) λi j=>.int (i / 2 ^ j.toNat)
theorem uZ:OpR X (binaryOp .Sub) (l2 K eD):=Ff EG
theorem n6:OpR X (binaryOp .FloorDiv) (l2 K wy):=jF Ay
theorem df:OpR X (binaryOp .Mod) (l2 K wz):=jF EI
theorem n9:OpR X (binaryOp .Pow) (l2 K wD):=jF EJ
theorem IB:OpR X (binaryOp .RShift) (l2 K wE):=jF EK
def ib (tr:Bool):G2:=λx y S Q=>match x,y with
 |.int i,.int j=>Q (.int (i+j)) S
 |.str a,.str c=>a.length+c.length<=sizeLine/\Q (.str (a++c)) S
 |x,y=>∃ ts us,cj S x=some ts/\cj S y=some us/\ts.length+us.length<=sizeLine/\a0 tr (ts++us) S Q
theorem aX (tr:Bool):OpR X (binaryOp .Add) (l2 K (ib tr)):=by
 rintro pins s U H x y v u Q I rx ry ⟨S,tx,ty,Qt,sr,hx,hy,hg,b⟩
 have lists:(∃ ts us,cj S tx=some ts/\cj S ty=some us/\ts.length+us.length<=sizeLine/\a0 tr (ts++us) S Qt)->wpAny (model X.prog X.w) X.A (binaryOp .Add v u) (EP X pins U Q) X.xe s:=by
  rintro ⟨ts,us,e1,e2,hz,n⟩
  obtain ⟨p,vs,rfl,h1,r1⟩:=i8 sr hx e1
  obtain ⟨q,ws,rfl,h2,r2⟩:=i8 sr hy e2
  exact EY pins s U H _ _ v u Q I rx ry ⟨p,q,vs,ws,rfl,rfl,h1,h2,by rw [r1.length,r2.length];exact hz,fF sr (r1.append r2) n b⟩
 cases tx with
 |int i =>
  cases ty with
  |int j=>cases hx;cases hy;exact EF pins s U H _ _ v u Q I rx ry ⟨i,j,rfl,rfl,b _ H _ S .refl sr .int hg⟩
  |_=>exact lists hg
 |str a =>
  cases ty with
  |str c=>cases hx;cases hy;exact yD pins s U H _ _ v u Q I rx ry ⟨a,c,rfl,rfl,hg.1,b _ H _ S .refl sr .str hg.2⟩
  |_=>exact lists hg
 |_=>exact lists hg
def wF (tr:Bool):G2:=λx y S Q=>match x,y with
 |.int i,.int j=>hW i j/\Q (.int (i * j)) S
 |x,.int k=>∃ ts,cj S x=some ts /\ -(2 ^ 63)<=k/\k<2 ^ 63/\ts.length * k.toNat<=sizeLine/\a0 tr (List.replicate k.toNat ts).flatten S Q
 |_,_=>False
theorem Rps.rep {H S ts vs}(r:Rps K H S ts vs):∀ n:Nat,Rps K H S (List.replicate n ts).flatten (List.replicate n vs).flatten
 |0=>.nil
 |n+1=>by simp only [List.replicate_succ,List.flatten_cons];exact r.append (Rps.rep r n)
theorem fM (tr:Bool):OpR X (binaryOp .Mult) (l2 K (wF tr)):=by
 rintro pins s U H x y v u Q I rx ry ⟨S,tx,ty,Qt,sr,hx,hy,hg,b⟩
 have lists:∀ k,ty=.int k->(∃ ts,cj S tx=some ts /\ -(2 ^ 63)<=k/\k<2 ^ 63/\ts.length * k.toNat<=sizeLine/\a0 tr (List.replicate k.toNat ts).flatten S Qt)->wpAny (model X.prog X.w) X.A (binaryOp .Mult v u) (EP X pins U Q) X.xe s:=by
  rintro k rfl ⟨ts,e1,k1,k2,hz,n⟩
  obtain ⟨p,vs,rfl,h1,r1⟩:=i8 sr hx e1
  cases hy
  exact EZ pins s U H _ _ v u Q I rx ry ⟨p,k,vs,rfl,rfl,h1,k1,k2,by rw [r1.length];exact hz,fF sr (r1.rep _) n b⟩
 cases ty with
 |int k =>
  cases tx with
  |int i=>cases hx;cases hy;exact EH pins s U H _ _ v u Q I rx ry ⟨i,k,rfl,rfl,hg.1,b _ H _ S .refl sr .int hg.2⟩
  |_=>exact lists k rfl hg
 |_=>cases tx<;>exact hg.elim
mutual
noncomputable def cM:T->Option PyData
 |.non=>some .none
 |.bl b=>some (.bool b)
 |.int i=>some (.int i)
 |.str x=>some (.str x)
 |.tup ts=>(bi ts).map .tuple
 |.lst ts=>(bi ts).map .list
 |.scr ns=>some (.list (ns.map .int))
 |_=>none
noncomputable def bi:List T->Option (List PyData)
 |[]=>some []
 |t::ts=>match cM t,bi ts with
  |some d,some ds=>some (d::ds)
  |_,_=>none
end
noncomputable def du (S:Sto) (t:T):Option PyData:=match t with
 |.ref a=>match S a with
  |some (.lst ts)=>(bi ts).map .list
  |_=>none
 |t=>cM t
theorem qU {ts:List T}:cM (.tup ts)=(bi ts).map .tuple:=rfl
theorem qV {ts:List T}:cM (.lst ts)=(bi ts).map .list:=rfl
theorem rW {t:T}{ts:List T}:bi (t::ts)=(match cM t,bi ts with|some d,some ds=>some (d::ds)|_,_=>none):=rfl
theorem rX {t:T}{ts:List T}{d:PyData}{ds:List PyData}(h1:cM t=some d) (h2:bi ts=some ds):bi (t::ts)=some (d::ds):=by rw [rW,h1,h2]
theorem CC {t:T}{ts:List T}{es:List PyData}(e:bi (t::ts)=some es):∃ d ds,cM t=some d/\bi ts=some ds/\es=d::ds:=by
 rw [rW] at e
 cases h1:cM t with
 |none=>rw [h1] at e;cases e
 |some d =>
  cases h2:bi ts with
  |none=>rw [h1,h2] at e;cases e
  |some dl=>rw [h1,h2] at e;cases e;exact ⟨d,dl,rfl,rfl,rfl⟩
theorem AM {H:Hp}{ns:List Int}:DatVs K H (ns.map V.int) (ns.map PyData.int):=by
 induction ns with
 |nil=>exact .nil
 |cons a l ih=>exact .cons (.int a) ih
mutual
theorem mH {H S}:∀ {t v d},Rp K H S t v->cM t=some d->DatV K H v d
 |_,_,_,.non,e=>by cases e;exact .non
 |_,_,_,.bl,e=>by cases e;exact .bl _
 |_,_,_,.int,e=>by cases e;exact .int _
 |_,_,_,.str,e=>by cases e;exact .str _
 |_,_,_,.ty,e=>by cases e
 |_,_,_,.ref,e=>by cases e
 |_,_,_,.tup n h r,e=>by
  simp only [qU,qV,Option.map_eq_some_iff] at e
  obtain ⟨ds,e,rfl⟩:=e
  exact .tup (SqT.of h) (iY r e)
 |_,_,_,.lst n h r,e=>by
  simp only [qU,qV,Option.map_eq_some_iff] at e
  obtain ⟨ds,e,rfl⟩:=e
  exact .lst (SqL.of h) (iY r e)
 |_,_,_,.scr h,e=>by cases e;exact .lst h.sq AM
theorem iY {H S}:∀ {ts vs ds},Rps K H S ts vs->bi ts=some ds->DatVs K H vs ds
 |_,_,_,.nil,e=>by cases e;exact .nil
 |_,_,_,.cons (t:=t) (ts:=ts) a r,e=>by
  obtain ⟨d,dl,h1,h2,rfl⟩:=CC e
  exact .cons (mH a h1) (iY r h2)
end
theorem i9 {H S t v d}(s:SRp K H S) (r:Rp K H S t v) (e:du S t=some d):DatV K H v d:=by
 cases t with
 |ref a =>
  cases r
  delta du at e
  dsimp only at e
  cases q:S a with
  |none=>rw [q] at e;cases e
  |some o =>
   rw [q] at e
   cases o with
   |lst us =>
    simp only [Option.map_eq_some_iff] at e
    obtain ⟨ds,e,rfl⟩:=e
    cases s a _ q with
    |lst h rs=>exact .lst (SqL.of h) (iY rs e)
   |_=>cases e
 |_=>exact mH r e
def gEq (neg:Bool):G2:=λx y S Q=>match x,y with
 |.int i,.int j=>Q (.bl (neg ^^ decide (i=j))) S
 |.str i,.str j=>Q (.bl (neg ^^ decide (i=j))) S
 |.bl i,.bl j=>Q (.bl (neg ^^ decide (i=j))) S
 |x,y=>∃ dx dy,du S x=some dx/\du S y=some dy/\dx.canLay0=true/\dy.canLay0=true/\min dx.depth dy.depth<=64/\Q (.bl (neg ^^ PyData.eqv dx dy)) S
theorem eI (hK:X.K=K) (hu:X.A.units+64<cLine):OpR X (compareOp .Eq) (l2 K (gEq false)):=by
 subst hK
 rintro pins s U H x y v u Q I rx ry ⟨S,tx,ty,Qt,sr,hx,hy,hg,b⟩
 have deep:(∃ dx dy,du S tx=some dx/\du S ty=some dy/\dx.canLay0=true/\dy.canLay0=true/\min dx.depth dy.depth<=64/\Qt (.bl (false ^^ PyData.eqv dx dy)) S)->wpAny (model X.prog X.w) X.A (compareOp .Eq v u) (EP X pins U Q) X.xe s:=by
  rintro ⟨dx,dy,e1,e2,c1,c2,hd,q⟩
  exact E2 hu pins s U H _ _ v u Q I rx ry ⟨dx,dy,i9 sr hx e1,i9 sr hy e2,c1,c2,hd,b _ H _ S .refl sr .bl q⟩
 cases tx with
 |int i =>
  cases ty with
  |int j=>cases hx;cases hy;exact nV pins s U H _ _ v u Q I rx ry ⟨rfl,b _ H _ S .refl sr .bl (by have hg:Qt (.bl (false ^^ decide (i=j))) S:=hg;simpa using hg)⟩
  |_=>exact deep hg
 |str i =>
  cases ty with
  |str j=>cases hx;cases hy;exact nV pins s U H _ _ v u Q I rx ry ⟨rfl,b _ H _ S .refl sr .bl (by have hg:Qt (.bl (false ^^ decide (i=j))) S:=hg;simpa using hg)⟩
  |_=>exact deep hg
 |bl i =>
  cases ty with
  |bl j=>cases hx;cases hy;exact nV pins s U H _ _ v u Q I rx ry ⟨rfl,b _ H _ S .refl sr .bl (by have hg:Qt (.bl (false ^^ decide (i=j))) S:=hg;simpa using hg)⟩
  |_=>exact deep hg
 |_=>exact deep hg
theorem jX (hK:X.K=K) (hu:X.A.units+64<cLine):OpR X (compareOp .NotEq) (l2 K (gEq true)):=by
 subst hK
 rintro pins s U H x y v u Q I rx ry ⟨S,tx,ty,Qt,sr,hx,hy,hg,b⟩
 have deep:(∃ dx dy,du S tx=some dx/\du S ty=some dy/\dx.canLay0=true/\dy.canLay0=true/\min dx.depth dy.depth<=64/\Qt (.bl (true ^^ PyData.eqv dx dy)) S)->wpAny (model X.prog X.w) X.A (compareOp .NotEq v u) (EP X pins U Q) X.xe s:=by
  rintro ⟨dx,dy,e1,e2,c1,c2,hd,q⟩
  exact E3 hu pins s U H _ _ v u Q I rx ry ⟨dx,dy,i9 sr hx e1,i9 sr hy e2,c1,c2,hd,b _ H _ S .refl sr .bl q⟩
 cases tx with
 |int i =>
  cases ty with
  |int j=>cases hx;cases hy;exact nW pins s U H _ _ v u Q I rx ry ⟨rfl,b _ H _ S .refl sr .bl (by have hg:Qt (.bl (true ^^ decide (i=j))) S:=hg;simpa using hg)⟩
  |_=>exact deep hg
 |str i =>
  cases ty with
  |str j=>cases hx;cases hy;exact nW pins s U H _ _ v u Q I rx ry ⟨rfl,b _ H _ S .refl sr .bl (by have hg:Qt (.bl (true ^^ decide (i=j))) S:=hg;simpa using hg)⟩
  |_=>exact deep hg
 |bl i =>
  cases ty with
  |bl j=>cases hx;cases hy;exact nW pins s U H _ _ v u Q I rx ry ⟨rfl,b _ H _ S .refl sr .bl (by have hg:Qt (.bl (true ^^ decide (i=j))) S:=hg;simpa using hg)⟩
  |_=>exact deep hg
 |_=>exact deep hg
noncomputable def ltS (a c:Str):Bool:=decide (a.cps.toList<c.cps.toList)
def gLt:G2:=λx y S Q=>match x,y with
 |.int i,.int j=>Q (.bl (decide (i<j))) S
 |.str a,.str c=>Q (.bl (ltS a c)) S
 |_,_=>False
def gLe:G2:=λx y S Q=>match x,y with
 |.int i,.int j=>Q (.bl (decide (i<=j))) S
 |.str a,.str c=>Q (.bl (!ltS c a)) S
 |_,_=>False
def gGt:G2:=λx y S Q=>match x,y with
 |.int i,.int j=>Q (.bl (decide (j<i))) S
 |_,_=>False
def gGe:G2:=λx y S Q=>match x,y with
 |.int i,.int j=>Q (.bl (decide (j<=i))) S
 |_,_=>False
theorem jY:OpR X (compareOp .Lt) (l2 K gLt):=by
 rintro pins s U H x y v u Q I rx ry ⟨S,tx,ty,Qt,sr,hx,hy,hg,b⟩
 cases hx<;>first|exact hg.elim|skip
 ·cases hy<;>first|exact hg.elim|skip
  exact H0 pins s U H _ _ v u Q I rx ry ⟨_,_,rfl,rfl,b _ H _ S .refl sr .bl hg⟩
 ·cases hy<;>first|exact hg.elim|skip
  exact za pins s U H _ _ v u Q I rx ry ⟨_,_,rfl,rfl,b _ H _ S .refl sr .bl hg⟩
theorem bd:OpR X (compareOp .LtE) (l2 K gLe):=by
 rintro pins s U H x y v u Q I rx ry ⟨S,tx,ty,Qt,sr,hx,hy,hg,b⟩
 cases hx<;>first|exact hg.elim|skip
 ·cases hy<;>first|exact hg.elim|skip
  exact Ia pins s U H _ _ v u Q I rx ry ⟨_,_,rfl,rfl,b _ H _ S .refl sr .bl hg⟩
 ·cases hy<;>first|exact hg.elim|skip
  exact zt pins s U H _ _ v u Q I rx ry ⟨_,_,rfl,rfl,b _ H _ S .refl sr .bl hg⟩
theorem wG:OpR X (compareOp .Gt) (l2 K gGt):=by
 rintro pins s U H x y v u Q I rx ry ⟨S,tx,ty,Qt,sr,hx,hy,hg,b⟩
 cases hx<;>first|exact hg.elim|skip
 cases hy<;>first|exact hg.elim|skip
 exact Ib pins s U H _ _ v u Q I rx ry ⟨_,_,rfl,rfl,b _ H _ S .refl sr .bl hg⟩
theorem o0:OpR X (compareOp .GtE) (l2 K gGe):=by
 rintro pins s U H x y v u Q I rx ry ⟨S,tx,ty,Qt,sr,hx,hy,hg,b⟩
 cases hx<;>first|exact hg.elim|skip
 cases hy<;>first|exact hg.elim|skip
 exact Ic pins s U H _ _ v u Q I rx ry ⟨_,_,rfl,rfl,b _ H _ S .refl sr .bl hg⟩
def isN:T->Bool
 |.non=>true
 |_=>false
def gIs (neg:Bool):G2:=λx y S Q=>match y with
 |.non=>Q (.bl (neg ^^ isN x)) S
 |_=>False
theorem IC {H S t v}(r:Rp K H S t v):decide (v=V.non)=isN t:=by cases r<;>simp [isN]
theorem wI:OpR X (compareOp .Is) (l2 K (gIs false)):=by
 rintro pins s U H x y v u Q I rx ry ⟨S,tx,ty,Qt,sr,hx,hy,hg,b⟩
 cases hy<;>first|exact hg.elim|skip
 refine EM pins s U H _ _ v u Q I rx ry ⟨rfl,b _ H _ S .refl sr .bl ?_⟩
 rw [IC hx];simpa [gIs] using hg
def wJ (wa:WE):WE:=λU S Q=>wa U S λx S1=>match x with
 |.int i=>Q (.int (-i)) S1
 |_=>False
theorem gZ {a:Expr}{wa:WE}{pos:Pos}(ha:QE K X a wa):QE K X (.UnaryOp .USub a pos) (wJ wa):=PE.of (HZ EL ha) λU H Q zz90=>by
 obtain ⟨S,LQ,Qt,s,c,q,hq⟩:=zz90
 refine ⟨S,LQ,_,s,c,q,λx H1 tx S1 f1 s1 r1 q1=>?_⟩
 cases r1<;>first|exact q1.elim|skip
 exact ⟨_,rfl,hq _ H1 _ S1 f1 s1 .int q1⟩
def ixT (S:Sto) (x y:T):Option T:=match x,y with
 |.tup ts,.int i=>atI ts i
 |.str z,.int i=>if z.length<=sizeLine then (atI z.cps.toList i).map λc=>.str ⟨#[c]⟩ else none
 |x,.int i=>(aN S x).bind λts=>atI ts i
 |_,_=>none
theorem Fh {S:Sto}{p:Addr}{ts:List T}{i:Int}(e:S p=some (.lst ts)):ixT S (.ref p) (.int i)=atI ts i:=by
 show (aN S (.ref p)).bind (λts=>atI ts i)=_
 rw [jj e];rfl
def gIx:G2:=λx y S Q=>∃ r,ixT S x y=some r/\Q r S
theorem tM {H S ts vs i t}(r:Rps K H S ts vs) (e:atI ts i=some t):∃ v,atI vs i=some v/\Rp K H S t v:=by
 unfold atI at e ⊢
 rw [r.length]
 cases q:ixN ts.length i with
 |none=>rw [q] at e;cases e
 |some j =>
  rw [q] at e
  simp only [Option.bind_some] at e ⊢
  exact r.get e
theorem K4 (hK:X.K=K):IxR X (l2 K gIx):=by
 subst hK
 rintro value slice pins s U H x y v u Q I rx ry ⟨S,tx,ty,Qt,sr,hx,hy,⟨r,e,q⟩,b⟩ hs
 have lists:∀ i,ty=.int i->(aN S tx).bind (λts=>atI ts i)=some r->wpAny (model X.prog X.w) X.A (subscriptTail value slice v u) (EP X pins U Q) X.xe s:=by
  rintro i rfl e
  cases hy
  cases h1:aN S tx with
  |none=>rw [h1] at e;cases e
  |some ts =>
   rw [h1] at e
   obtain ⟨p,vs,rfl,hq,rs⟩:=bT sr hx h1
   obtain ⟨w',e2,r2⟩:=tM rs e
   exact Ca value slice pins s U H _ _ v u Q I rx ry ⟨p,vs,i,w',rfl,rfl,hq,e2,b _ H _ S .refl sr r2 q⟩ hs
 cases ty with
 |int i =>
  cases tx with
  |tup ts =>
   cases hy
   cases hx with
   |tup n hp rs =>
    obtain ⟨w',e2,r2⟩:=tM rs (show atI ts i=some r from e)
    exact EU value slice pins s U H _ _ v u Q I rx ry ⟨_,_,i,w',rfl,rfl,SqT.of hp,e2,b _ H _ S .refl sr r2 q⟩ hs
  |str z =>
   cases hy
   cases hx
   delta ixT at e
   dsimp only at e
   split at e
   ·next hz =>
    simp only [Option.map_eq_some_iff] at e
    obtain ⟨c,e,rfl⟩:=e
    exact EV value slice pins s U H _ _ v u Q I rx ry ⟨z,i,c,rfl,rfl,hz,e,b _ H _ S .refl sr .str q⟩ hs
   ·cases e
  |_=>exact lists i rfl e
 |_=>cases tx<;>cases e
theorem K5 {a c:Expr}{wa wc:WE}{pos:Pos}(hK:X.K=K) (ha:QE K X a wa) (hc:QE K X c wc) (hs:mE c):QE K X (.Subscript a c pos) (w2 gIx wa wc):=PE.of (Ih (K4 hK) ha hc hs) λ_ _ _ h=>jD h
abbrev WO:=StT->Sto->(Option Int->Sto->Prop)->Prop
def lO (K:Fg) (w:WO):TO:=λU H Q=>∃ S LQ Qt,SRp K H S/\Cov K H S U LQ/\w LQ S Qt/\∀ b H' S',Fr H S H' S'->SRp K H' S'->Qt b S'->Q b H'
def QO (K:Fg) (X:Cx) (e:Option Expr) (w:WO):Prop:=PO X e (lO K w)
theorem PO.of {e:Option Expr}{t t':TO}(h:PO X e t) (i:∀ U H Q,t' U H Q->t U H Q):PO X e t':=λpins s U H Q I q=>h pins s U H Q I (i U H Q q)
def woN:WO:=λ_ S Q=>Q none S
def woS (wa:WE):WO:=λU S Q=>wa U S λx S1=>match x with
 |.int i=>Q (some i) S1
 |_=>False
theorem bH:QO K X none woN:=PO.of B8 λU H Q zz91=>by obtain ⟨S,LQ,Qt,s,c,q,hq⟩:=zz91;exact hq none H S .refl s q
theorem bI {e:Expr}{wa:WE}(h:QE K X e wa):QO K X (some e) (woS wa):=PO.of (B9 h) λU H Q zz92=>by
 obtain ⟨S,LQ,Qt,s,c,q,hq⟩:=zz92
 refine ⟨S,LQ,_,s,c,q,λx H1 tx S1 f1 s1 r1 q1=>?_⟩
 cases r1<;>first|exact q1.elim|skip
 exact ⟨_,rfl,hq _ H1 S1 f1 s1 q1⟩
def eJ (ts:List T) (lo hi:Option Int):List T:=(ts.drop (HT.sIx ts.length 0 lo)).take (HT.sIx ts.length ts.length hi - HT.sIx ts.length 0 lo)
theorem Fi {H S ts vs lo hi}(r:Rps K H S ts vs):Rps K H S (eJ ts lo hi) (fT vs lo hi):=by
 unfold eJ fT
 rw [r.length]
 exact (r.drop _).take _
def gSl (tr:Bool) (x:T) (lo hi:Option Int) (S:Sto) (Q:T->Sto->Prop):Prop:=match x with
 |.str z=>z.length<=sizeLine/\Q (.str (Txt.slice z lo hi)) S
 |x=>∃ ts,aN S x=some ts/\a0 tr (eJ ts lo hi) S Q
def l3 (K:Fg) (g:T->Option Int->Option Int->Sto->(T->Sto->Prop)->Prop):V->Option Int->Option Int->Hp->VK->Prop:=λx lo hi H Q=>∃ S tx Qt,SRp K H S/\Rp K H S tx x/\g tx lo hi S Qt/\Bh K H S Qt Q
theorem K6 (tr:Bool) (hK:X.K=K):SlR X (l3 K (gSl tr)):=by
 subst hK
 rintro pins s U H x v vl vu lo hi sl Q I rx hs pl pu ⟨S,tx,Qt,sr,hx,hg,b⟩
 have lists:(∃ ts,aN S tx=some ts/\a0 tr (eJ ts lo hi) S Qt)->v7 X.K x lo hi H Q:=by
  rintro ⟨ts,e,n⟩
  obtain ⟨p,vs,rfl,hq,rs⟩:=bT sr hx e
  exact ⟨p,vs,rfl,hq,fF sr (Fi rs) n b⟩
 cases tx with
 |str z=>cases hx;exact E5 pins s U H _ v vl vu lo hi sl Q I rx hs pl pu ⟨z,rfl,hg.1,b _ H _ S .refl sr .str hg.2⟩
 |_=>exact Cb pins s U H _ v vl vu lo hi sl Q I rx hs pl pu (lists hg)
def wSl (tr:Bool) (wa:WE) (wl wh:WO):WE:=λU S Q=>wa U S λx S1=>wl U S1 λl S2=>wh U S2 λh S3=>gSl tr x l h S3 Q
theorem bJ (tr:Bool){e:Expr}{lo hi:Option Expr}{wa:WE}{wl wh:WO}{p2 pos:Pos}(hK:X.K=K) (he:QE K X e wa) (hl:QO K X lo wl) (hu:QO K X hi wh):QE K X (.Subscript e (.Slice lo hi none p2) pos) (wSl tr wa wl wh) :=
 PE.of (Au (K6 tr hK) he hl hu) λU H Q zz93=>by
  obtain ⟨S,LQ,Qt,s,c,q,hq⟩:=zz93
  refine ⟨S,LQ,_,s,c,q,λx H1 tx S1 f1 s1 r1 q1=>?_⟩
  refine ⟨S1,LQ,_,s1,c.fr f1,q1,λl H2 S2 f2 s2 q2=>?_⟩
  refine ⟨S2,LQ,_,s2,c.fr (f1.trans f2),q2,λh H3 S3 f3 s3 q3=>?_⟩
  exact ⟨S3,tx,Qt,s3,(r1.fr f2).fr f3,q3,λv H' t S' f=>hq v H' t S' (((f1.trans f2).trans f3).trans f)⟩
end
structure Src where
 items:List T
 grd:Sto->Prop
abbrev WI:=StT->Sto->(Src->Sto->Prop)->Prop
structure Iter (K:Fg) (J:It) (src:Src) (H1:Hp) (S1:Sto):Prop where
 go:∀ H S i,Fr H1 S1 H S->SRp K H S->src.grd S->i<src.items.length->J.go i H
 yld:∀ H S i x H',Fr H1 S1 H S->SRp K H S->src.grd S->i<src.items.length->J.yld i H x H'->∃ t,src.items[i]?=some t/\Fr H S H' S/\SRp K H' S/\Rp K H' S t x
 stop:∀ H S,Fr H1 S1 H S->SRp K H S->src.grd S->J.stop src.items.length H
def lI (K:Fg) (w:WI):TI:=λU H R=>∃ S LQ Rt,SRp K H S/\Cov K H S U LQ/\w LQ S Rt/\∀ J H1 src S1,Fr H S H1 S1->SRp K H1 S1->Iter K J src H1 S1->Rt src S1->R J H1
def QI (K:Fg) (X:Cx) (tg Mg:Expr) (w:WI):Prop:=PI X tg Mg (lI K w)
section
variable {K:Fg}{X:Cx}{tg:Expr}
theorem PI.of {e:Expr}{t t':TI}(h:PI X tg e t) (i:∀ U H Q,t' U H Q->t U H Q):PI X tg e t':=λpins s U H Q I q=>h pins s U H Q I (i U H Q q)
theorem rY {α:Type}{l:List α}{i:Nat}{t:α}(h:l[i]?=some t):l.drop i=t::l.drop (i+1):=by
 obtain ⟨hl,e⟩:=List.getElem?_eq_some_iff.mp h
 rw [<- e];exact List.drop_eq_getElem_cons hl
def dw (grd:Sto->Prop) (g:WG) (wb:WS) (D:EndsT):List T->StT->Sto->Prop
 |[],U,S=>grd S/\D.nx U S
 |t::ts,U,S=>grd S/\g t U S λMR S2=>wb { nx:=dw grd g wb D ts,rt:=D.rt,bk:=D.nx,ct:=dw grd g wb D ts } MR S2
def o4 (wi:WI) (g:WG) (wb:WS):WS:=λD U S=>wi U S λsrc S1=>dw src.grd g wb D src.items U S1
theorem CD {wi:WI}{g:WG}{wb:WS}{D U H}(h:lS K (o4 wi g wb) D U H):v2 (lI K wi) (lG K g) (lS K wb) D U H:=by
 obtain ⟨S,LQ,Dt,s,c,q,he⟩:=h
 refine ⟨S,LQ,_,s,c,q,λJ H1 src S1 f1 s1 it q1=>?_⟩
 refine ⟨λi m U H=>m=src.items.length - i/\i<=src.items.length/\∃ S LQ,Fr H1 S1 H S/\SRp K H S/\Cov K H S U LQ/\dw src.grd g wb Dt (src.items.drop i) LQ S,
  ⟨_,rfl,Nat.zero_le _,S1,LQ,.refl,s1,c.fr f1,by simpa using q1⟩,?_⟩
 rintro i m U H ⟨rfl,hi,S2,Ow,f2,s2,c2,q2⟩
 by_cases hl:i<src.items.length
 ·have e1:src.items[i]?=some src.items[i]:=by simp [hl]
  rw [rY e1] at q2
  obtain ⟨hg,q2⟩:=q2
  refine .inr ⟨it.go H S2 i f2 s2 hg hl,λLR H'=>∃ S LQ,Fr H1 S1 H' S/\SRp K H' S/\Cov K H' S LR LQ/\dw src.grd g wb Dt (src.items.drop (i+1)) LQ S,λLR H' n=>⟨src.items.length - (i+1),by omega,rfl,hl,n⟩,λx H' y=>?_⟩
  obtain ⟨t,et,f3,s3,r3⟩:=it.yld H S2 i x H' f2 s2 hg hl y
  rw [e1] at et;cases et
  refine ⟨S2,_,Ow,_,s3,r3,c2.fr f3,q2,λσ4 H4 Rh S4 f4 s4 c4 q4=>?_⟩
  have fA:=(f2.trans f3).trans f4
  refine ⟨S4,Rh,_,s4,c4,q4,⟨λLR H' L9 S' f s' c' q'=>⟨S',L9,fA.trans f,s',c',q'⟩,λv H' t S' f=>he.rt v H' t S' ((f1.trans fA).trans f),λLR H' L9 S' f=>he.nx LR H' L9 S' ((f1.trans fA).trans f),λLR H' L9 S' f s' c' q'=>⟨S',L9,fA.trans f,s',c',q'⟩⟩⟩
 ·have e:i=src.items.length:=by omega
  subst e
  rw [List.drop_eq_nil_of_le (Nat.le_refl _)] at q2
  exact .inl ⟨it.stop H S2 f2 s2 q2.1,he.nx U H Ow S2 (f1.trans f2) s2 c2 q2.2⟩
theorem u0 {Mg:Expr}{body:List Stmt}{wi:WI}{g:WG}{wb:WS}{pos:Pos}(hp:PassesOwn (model X.prog X.w) X.A X.env X.xe) (hc:X.calm=true) (hi:QI K X tg Mg wi) (hg:QG K X tg g) (hb:QSs K X body wb)
  (hs:∀ x,foldedSetIterable Mg X.env x=pure x:=by intro _;rfl):QS K X (.For tg Mg body [] pos) (o4 wi g wb):=PS.of (EE hp hc hi hg hb hs) λ_ _ _ h=>CD h
def c8 (t:T) (ts:List T) (S:Sto):Prop:=match t with
 |.ref a=>S a=some (.lst ts)
 |_=>True
def wiL (wa:WE):WI:=λU S R=>wa U S λx S1=>∃ ts,aN S1 x=some ts/\R ⟨ts,c8 x ts⟩ S1
theorem qE {S S':Sto}{x:T}{ts:List T}(e:aN S x=some ts) (h:c8 x ts S'):aN S' x=some ts:=by
 cases x with
 |ref a=>exact jj h
 |lst us=>exact e
 |scr us=>exact e
 |_=>cases e
theorem qF {H1:Hp}{S1:Sto}{x:T}{a:Addr}{ts:List T}(r:Rp K H1 S1 x (.ref a)) (e:aN S1 x=some ts):Iter K (Itl K a) ⟨ts,c8 x ts⟩ H1 S1:=by
 have main:∀ H S,Fr H1 S1 H S->SRp K H S->c8 x ts S->∃ vs,SqL K H a vs/\Rps K H S ts vs:=λH S f s g=>by
  obtain ⟨p,vs,ep,hq,rs⟩:=bT s (r.fr f) (qE e g)
  cases ep
  exact ⟨vs,hq,rs⟩
 refine ⟨λH S i f s g hl=>?_,λH S i y H' f s g hl hy=>?_,λH S f s g=>?_⟩
 ·obtain ⟨vs,hq,rs⟩:=main H S f s g
  obtain ⟨v,hv,_⟩:=rs.get (i:=i) (t:=ts[i]) (by simp [show i<ts.length from hl])
  exact ⟨vs,v,hq,hv⟩
 ·obtain ⟨vs,hq,rs⟩:=main H S f s g
  obtain ⟨rfl,hy⟩:=hy
  obtain ⟨t,et,rt⟩:=rs.getV (hy vs hq)
  exact ⟨t,et,.refl,s,rt⟩
 ·obtain ⟨vs,hq,rs⟩:=main H S f s g
  exact ⟨vs,hq,by rw [rs.length];exact Nat.le_refl _⟩
theorem d3 {l:Expr}{wa:WE}(hK:X.K=K) (hl:QE K X l wa):QI K X tg l (wiL wa):=by
 subst hK
 refine PI.of (BX hl) λU H R zz94=>?_
 obtain ⟨S,LQ,Rt,s,c,q,hq⟩:=zz94
 refine ⟨S,LQ,_,s,c,q,λv H1 t S1 f1 s1 r1 q1=>?_⟩
 obtain ⟨ts,e,q1⟩:=q1
 obtain ⟨p,vs,rfl,hS,rs⟩:=bT s1 r1 e
 exact ⟨p,rfl,⟨vs,hS⟩,hq _ H1 _ S1 f1 s1 (qF r1 e) q1⟩
def c9 (lo:Int) (n:Nat):List T:=(List.range n).map λ(i:Nat)=>T.int (lo+i)
theorem yK {lo:Int}{n:Nat}{H1 S1}:Iter K (Itr lo n) ⟨c9 lo n,λ_=>True⟩ H1 S1:=by
 refine ⟨λH S i f s g hl=>by simpa [c9,Itr] using hl,λH S i y H' f s g hl hy=>?_,λH S f s g=>by simp [c9,Itr]⟩
 obtain ⟨rfl,rfl⟩:=hy
 have hl':i<n:=by simpa [c9] using hl
 exact ⟨.int (lo+i),by simp [c9,hl'],.refl,s,.int⟩
def wK (wa:WE):WI:=λU S R=>wa U S λx S1=>match x with
 |.int j=>-(2 ^ 62)<=j/\j<2 ^ 62/\R ⟨c9 0 j.toNat,λ_=>True⟩ S1
 |_=>False
theorem zB {a:Expr}{wa:WE}{p pos:Pos}(hg:Gl X "range") (hm:X.mg "range"=none) (ha:QE K X a wa) (hs:starEach [a] X.env=[(false,eval a X.env)]:=by rfl) (TB:starEach [a] X.env=(false,eval a X.env)::starEach [] X.env:=by rfl) :
  QI K X tg (.Call (.Name "range" p) [a] [] pos) (wK wa) :=
 PI.of (y9 hg hm (mC ha mV TB) hs) λU H R zz95=>by
  obtain ⟨S,LQ,Rt,s,c,q,hq⟩:=zz95
  refine ⟨S,LQ,_,s,c,q,λx H1 tx S1 f1 s1 r1 q1=>?_⟩
  cases r1<;>first|exact q1.elim|skip
  exact ⟨_,rfl,q1.1,q1.2.1,hq _ H1 _ S1 f1 s1 yK q1.2.2⟩
def gL (z:Str):List T:=z.cps.toList.map λc=>T.str ⟨#[c]⟩
def wiS (wa:WE):WI:=λU S R=>wa U S λx S1=>match x with
 |.str z=>R ⟨gL z,λ_=>True⟩ S1
 |_=>False
theorem m5 {l:Expr}{wa:WE}(hl:QE K X l wa):QI K X tg l (wiS wa):=PI.of (E4 hl) λU H R zz96=>by
 obtain ⟨S,LQ,Rt,s,c,q,hq⟩:=zz96
 refine ⟨S,LQ,_,s,c,q,λx H1 tx S1 f1 s1 r1 q1=>?_⟩
 cases r1<;>first|exact q1.elim|skip
 refine ⟨_,rfl,hq _ H1 _ S1 f1 s1 ⟨λH S i f s g hl=>by simpa [gL,Its] using hl,λH S i y H' f s g hl hy=>?_,λH S f s g=>by simp [gL,Its]⟩ q1⟩
 obtain ⟨rfl,c,ec,rfl⟩:=hy
 exact ⟨.str ⟨#[c]⟩,by simp [gL,ec],.refl,s,.str⟩
def QTs (K:Fg) (X:Cx) (Og:List Expr) (w:WT):Prop:=PTs X Og (lT K w)
def jG:WT:=λ_ S Q=>Q true S
theorem d4:QTs K X [] jG:=λpins s U H Q I zz97=>by obtain ⟨S,LQ,Qt,sr,c,q,hq⟩:=zz97;exact Cj pins s U H Q I (hq true H S .refl sr q)
theorem ja {c:Expr}{w:WT}(h:QT K X c w):QTs K X [c] w:=Ck h
noncomputable def fg (n:Nat) (LZ:List Nat) (U:StT):StT:=List.replicate n none++LZ.map λi=>(U[i]?).join
def cV (grd:Sto->Prop) (g:WG) (tt:WT) (te:WE) (Q:List T->Sto->Prop):List T->List T->StT->Sto->Prop
 |[],LU,_,S=>grd S/\Q LU S
 |x::xs,LU,U,S=>grd S/\g x U S λMR S2=>tt MR S2 λb S3=>if b=true then te MR S3 λy S4=>LU.length<sizeLine/\cV grd g tt te Q xs (LU++[y]) MR S4 else cV grd g tt te Q xs LU MR S3
def jH (tr:Bool) (wi:WI) (n:Nat) (LZ:List Nat) (g:WG) (tt:WT) (te:WE):WE:=λU S Q=>wi U S λsrc S1=>cV src.grd g tt te (λts S2=>a0 tr ts S2 Q) src.items [] (fg n LZ U) S1
theorem AN {H S U LQ n LZ}(c:Cov K H S U LQ):Cov K H S (fu n LZ U) (fg n LZ LQ):=by
 refine ⟨by simp [fu,fg],λi t e=>?_⟩
 unfold fg at e
 unfold fu
 by_cases hi:i<n
 ·rw [List.getElem?_append_left (by simpa using hi),List.getElem?_replicate] at e
  rw [if_pos hi] at e;cases e
 ·rw [List.getElem?_append_right (by simpa using hi)] at e ⊢
  simp only [List.length_replicate,List.getElem?_map] at e ⊢
  cases q:LZ[i - n]? with
  |none=>rw [q] at e;cases e
  |some j =>
   rw [q] at e
   simp only [Option.map_some,Option.some.injEq] at e ⊢
   cases z:LQ[j]? with
   |none=>rw [z] at e;cases e
   |some o =>
    rw [z] at e
    simp only [Option.join_some] at e
    subst e
    obtain ⟨v,hv,rv⟩:=c.2 j t z
    exact ⟨v,by rw [hv];rfl,rv⟩
mutual
theorem Rp.chg {H S D φ o}(e:H D=some (.ext φ)):∀ {t v},Rp K H S t v->Rp K (upd H D o) S t v
 |_,_,.non=>.non
 |_,_,.bl=>.bl
 |_,_,.int=>.int
 |_,_,.str=>.str
 |_,_,.ty=>.ty
 |_,_,.ref=>.ref
 |_,_,.tup n h r=>.tup n (by rw [aB (cS h e (by intro z;cases z))];exact h) (Rps.chg e r)
 |_,_,.lst n h r=>.lst n (by rw [aB (cS h e (by intro z;cases z))];exact h) (Rps.chg e r)
 |_,_,.scr h=>.scr (by
   rcases h with ⟨n,o',h⟩|h
   ·exact .inl ⟨n,o',by rw [aB (cS h e (by intro z;cases z))];exact h⟩
   ·exact .inr h)
theorem Rps.chg {H S D φ o}(e:H D=some (.ext φ)):∀ {ts vs},Rps K H S ts vs->Rps K (upd H D o) S ts vs
 |_,_,.nil=>.nil
 |_,_,.cons a b=>.cons (Rp.chg e a) (Rps.chg e b)
end
theorem SRp.chg {H S D φ o}(e:H D=some (.ext φ)) (n:S D=none) (s:SRp K H S):SRp K (upd H D o) S:=λa o' h=>by
 have ha:a≠D:=λz=>by rw [z,n] at h;cases h
 cases s a o' h with
 |lst h' r=>exact .lst (by rw [aB ha];exact h') (Rps.chg e r)
 |dK h' r=>exact .dK (by rw [aB ha];exact h') (Paired.mapP r λ_ _ z=>⟨z.1,Rp.chg e z.2⟩)
 |dT h' r=>exact .dT (by rw [aB ha];exact h') (Paired.mapP r λ_ _ z=>⟨z.1,Rp.chg e z.2⟩)
 |fK h' r=>exact .fK (by rw [aB ha];exact h') (Paired.mapP r λ_ _ z=>⟨z.1,Rp.chg e z.2⟩)
 |ins h' r=>exact .ins (by rw [aB ha];exact h') (Paired.mapP r λ_ _ z=>⟨z.1,Rp.chg e z.2⟩)
 |exk h'=>exact .exk (by rw [aB ha];exact h')
theorem Cov.chg {H S D φ o U LQ}(e:H D=some (.ext φ)) (c:Cov K H S U LQ):Cov K (upd H D o) S U LQ:=⟨c.1,λi t h=>by
 obtain ⟨v,h1,r⟩:=c.2 i t h
 exact ⟨v,h1,Rp.chg e r⟩⟩
theorem Fr.at {H S H1 S1 D o}(f:Fr H1 S1 H S) (hD:H1 D=none):Fr H1 S1 (upd H D o) S:=λa u h n=>by
 rw [aB (bB h hD)];exact f a u h n
mutual
theorem Rp.trk {H S D φ o p}(e:H D=some (.ext φ)):∀ {t v},Rp K H S t v->Rp K (upd H D o) (put S D p) t v
 |_,_,.non=>.non
 |_,_,.bl=>.bl
 |_,_,.int=>.int
 |_,_,.str=>.str
 |_,_,.ty=>.ty
 |_,_,.ref=>.ref
 |_,_,.tup n h r=>.tup (by rw [ay (cS h e (by intro z;cases z))];exact n) (by rw [aB (cS h e (by intro z;cases z))];exact h) (Rps.trk e r)
 |_,_,.lst n h r=>.lst (by rw [ay (cS h e (by intro z;cases z))];exact n) (by rw [aB (cS h e (by intro z;cases z))];exact h) (Rps.trk e r)
 |_,_,.scr h=>.scr (by
   rcases h with ⟨n,o',h⟩|h
   ·exact .inl ⟨by rw [ay (cS h e (by intro z;cases z))];exact n,o',by rw [aB (cS h e (by intro z;cases z))];exact h⟩
   ·exact .inr h)
theorem Rps.trk {H S D φ o p}(e:H D=some (.ext φ)):∀ {ts vs},Rps K H S ts vs->Rps K (upd H D o) (put S D p) ts vs
 |_,_,.nil=>.nil
 |_,_,.cons a b=>.cons (Rp.trk e a) (Rps.trk e b)
end
theorem SRp.trk {H S D φ zs LU}(e:H D=some (.ext φ)) (s:SRp K H S) (r:Rps K H S LU zs):SRp K (upd H D (.lst zs)) (put S D (.lst LU)):=λa o' h=>by
 by_cases ha:a=D
 ·subst ha;rw [aI] at h;cases h;exact .lst aM (Rps.trk e r)
 ·rw [ay ha] at h
  cases s a o' h with
  |lst h' r=>exact .lst (by rw [aB ha];exact h') (Rps.trk e r)
  |dK h' r=>exact .dK (by rw [aB ha];exact h') (Paired.mapP r λ_ _ z=>⟨z.1,Rp.trk e z.2⟩)
  |dT h' r=>exact .dT (by rw [aB ha];exact h') (Paired.mapP r λ_ _ z=>⟨z.1,Rp.trk e z.2⟩)
  |fK h' r=>exact .fK (by rw [aB ha];exact h') (Paired.mapP r λ_ _ z=>⟨z.1,Rp.trk e z.2⟩)
  |ins h' r=>exact .ins (by rw [aB ha];exact h') (Paired.mapP r λ_ _ z=>⟨z.1,Rp.trk e z.2⟩)
  |exk h'=>exact .exk (by rw [aB ha];exact h')
theorem qW {tr:Bool}{wi:WI}{n:Nat}{LZ:List Nat}{g:WG}{tt:WT}{te:WE}{U H Q}(h:lE K (jH tr wi n LZ g tt te) U H Q):mY (lI K wi) n LZ (lG K g) (lT K tt) (lE K te) U H Q:=by
 obtain ⟨S,LQ,Qt,s,c,q,hq⟩:=h
 refine ⟨S,LQ,_,s,c,q,λJ H1 src S1 f1 s1 it q1=>?_⟩
 intro D hD
 refine ⟨λi m zs σc H=>m=src.items.length - i/\i<=src.items.length/\H D=some (bP D zs)/\∃ S LQ LU,S D=none/\Fr H1 S1 H S/\Rps K H S LU zs/\SRp K H S/\Cov K H S σc LQ/\cV src.grd g tt te (λts S2=>a0 tr ts S2 Qt) (src.items.drop i) LU LQ S,
  ⟨_,rfl,Nat.zero_le _,aM,S1,fg n LZ LQ,[],s1.fresh hD,Fr.new hD,.nil,s1.new hD,AN ((c.fr f1).fr (Fr.new hD)),by simpa using q1⟩,?_⟩
 rintro i m zs σc H ⟨rfl,hi,e2,S2,Ow,LU,n2,f2,r2,s2,c2,q2⟩
 refine ⟨e2,?_⟩
 by_cases hl:i<src.items.length
 ·have e1:src.items[i]?=some src.items[i]:=by simp [hl]
  rw [rY e1] at q2
  obtain ⟨hg,q2⟩:=q2
  refine .inr ⟨it.go H S2 i f2 s2 hg hl,λzs' LR H'=>H' D=some (bP D zs')/\∃ S LQ LU,S D=none/\Fr H1 S1 H' S/\Rps K H' S LU zs'/\SRp K H' S/\Cov K H' S LR LQ/\cV src.grd g tt te (λts S2=>a0 tr ts S2 Qt) (src.items.drop (i+1)) LU LQ S,
   λzs' LR H' n=>⟨src.items.length - (i+1),by omega,rfl,hl,n⟩,λx H' y=>?_⟩
  obtain ⟨t,et,f3,s3,r3⟩:=it.yld H S2 i x H' f2 s2 hg hl y
  rw [e1] at et;cases et
  have e3:=f3 D _ e2 n2
  refine ⟨S2,_,Ow,_,s3,r3,c2.fr f3,q2,λσ4 H4 Rh S4 f4 s4 c4 q4=>?_⟩
  have e4:=f4 D _ e3.1 e3.2
  refine ⟨S4,Rh,_,s4,c4,q4,λb H5 S5 f5 s5 q5=>?_⟩
  have e5:=f5 D _ e4.1 e4.2
  have fB:=((f3.trans f4).trans f5)
  cases b with
  |false=>exact ⟨e5.1,S5,Rh,LU,e5.2,f2.trans fB,r2.fr fB,s5,c4.fr f5,q5⟩
  |true =>
   refine ⟨S5,Rh,_,s5,c4.fr f5,q5,λy H6 ty S6 f6 s6 r6 q6=>?_⟩
   have e6:=f6 D _ e5.1 e5.2
   have fC:=fB.trans f6
   exact ⟨e6.1,by rw [r2.length];exact q6.1,aM,S6,Rh,LU++[ty],e6.2,Fr.at (f2.trans fC) hD,Rps.chg e6.1 ((r2.fr fC).append (.cons r6 .nil)),s6.chg e6.1 e6.2,((c4.fr f5).fr f6).chg e6.1,q6.2⟩
 ·have e:i=src.items.length:=by omega
  subst e
  rw [List.drop_eq_nil_of_le (Nat.le_refl _)] at q2
  refine .inl ⟨it.stop H S2 f2 s2 q2.1,?_⟩
  have fE:Fr H1 S1 (upd H D (.lst zs)) S2:=Fr.at f2 hD
  cases tr with
  |false=>exact hq _ _ (.lst LU) S2 (f1.trans fE) (s2.chg e2 n2) (.lst n2 aM (Rps.chg e2 r2)) q2.2
  |true =>
   have fr1:Fr H1 S1 (upd H D (.lst zs)) (put S2 D (.lst LU)):=λa o h nn=>by
    have ha:a≠D:=bB h hD
    rw [ay ha];exact fE a o h nn
   exact hq _ _ (.ref D) _ (f1.trans fr1) (SRp.trk e2 s2 r2) .ref (q2.2 D n2)
theorem dH (tr:Bool){OH Mg LV:Expr}{Og:List Expr}{scope:Scope}{pos:Pos}{wi:WI}{g:WG}{tt:WT}{te:WE}(Nc:List Str) (n:Nat) (LZ:List Nat) (NX:X.calm=true) (hi:QI K X LV Mg wi) (hg:∀ C s₀ H₀ ex,QG K (X.comp scope Nc C s₀ H₀ ex) LV g)
  (ht:∀ C s₀ H₀ ex,QTs K (X.comp scope Nc C s₀ H₀ ex) Og tt) (he:∀ C s₀ H₀ ex,QE K (X.comp scope Nc C s₀ H₀ ex) OH te) (Tz:fq X.env.scope scope=true:=by rfl) (Rg:em X.N Nc scope n LZ=true:=by rfl) (hs:∀ x,foldedSetIterable Mg X.env x=pure x:=by intro _;rfl) :
  QE K X (.ListComp OH [⟨LV,Mg,Og,0⟩] scope pos) (jH tr wi n LZ g tt te):=PE.of (AF Nc n LZ NX hi hg ht he Tz Rg hs) λ_ _ _ h=>qW h
theorem lL (tr:Bool){OH Mg LV:Expr}{Og:List Expr}{scope:Scope}{pos:Pos}{wi:WI}{g:WG}{tt:WT}{te:WE}{i:Nat}{x:Str}{px RA:Pos}(Nc:List Str) (n:Nat) (LZ:List Nat) (NX:X.calm=true) (hN:X.N.Nodup) (hix:X.N[i]?=some x) (hx:Loc X.env.scope x)
  (hi:QI K X LV Mg wi) (hg:∀ C s₀ H₀ ex,QG K (X.comp scope Nc C s₀ H₀ ex) LV g)
  (ht:∀ C s₀ H₀ ex,QTs K (X.comp scope Nc C s₀ H₀ ex) Og tt) (he:∀ C s₀ H₀ ex,QE K (X.comp scope Nc C s₀ H₀ ex) OH te)
  (hsw:swapsWith (.ListComp OH [⟨LV,Mg,Og,0⟩] scope pos) (some (.Name x px)) RA.line X.env=pure true:=by rfl) (Tz:fq X.env.scope scope=true:=by rfl) (Rg:em X.N Nc scope n LZ=true:=by rfl) (hs:∀ x,foldedSetIterable Mg X.env x=pure x:=by intro _;rfl)
  (hf:X.fn x=true\/X.env.scope.names.lookup x=some .local:=by first|exact .inl rfl|exact .inr rfl|assumption) :
  QS K X (.Assign [.Name x px] (.ListComp OH [⟨LV,Mg,Og,0⟩] scope pos) RA) (eG (jH tr wi n LZ g tt te) (wgN i)):=PS.of (AG Nc n LZ NX hN hix hx hi hg ht he hsw Tz Rg hs hf) λD U H h=>by
 obtain ⟨S,LQ,Dt,s,c,q,he⟩:=h
 exact qW ⟨S,LQ,_,s,c,q,λv H1 t S1 f1 s1 r1 q1=>he.nx _ H1 _ S1 f1 s1 ((c.fr f1).set r1 i) q1⟩
end
end T2
namespace L2
open PySem PySem.Spec PyProof.Rows
section
variable {X:Cx}
def CF:V->List V->Hp->VK->Prop:=λx vs H Q=>∃ a b,x=.str a/\vs=[.str b]/\Q (.bl (Txt.startswith a b)) H
theorem xH:MtR X "str.startswith" CF:=by
 intro pins s U H x vs v us Q I rx rv h
 obtain ⟨a,b,rfl,rfl,q⟩:=h
 obtain ⟨t,rfl⟩:=rx
 obtain ⟨u,rfl,t2,rfl⟩:=bW rv
 exact SC.startswith ⟨.bl _,H,I,rfl,q⟩
end
end L2
namespace T2
open PySem PySem.Spec PyProof.Rows L2
section
variable {K:Fg}{X:Cx}
noncomputable def cC:T->Bool
 |.non=>true
 |.bl _=>true
 |.int _=>true
 |.str _=>true
 |_=>false
noncomputable def eqF:T->T->Bool
 |.non,.non=>true
 |.bl a,.bl b=>a==b
 |.bl a,.int b=>(if a then 1 else 0)==b
 |.int a,.bl b=>a==(if b then 1 else 0)
 |.int a,.int b=>a==b
 |.str a,.str b=>a==b
 |_,_=>false
theorem gM {H S t v}(r:Rp K H S t v) (f:cC t=true):cT v=true:=by cases r<;>first|rfl|cases f
theorem ID {H S t v t' v'}(r:Rp K H S t v) (r':Rp K H S t' v') (f:cC t=true) (f':cC t'=true):eqV v v'=eqF t t':=by
 cases r<;>first|(cases f;done)|(cases r'<;>first|(cases f';done)|rfl)
theorem ie {H S t v}(r:Rp K H S t v) (f:cC t=true):∀ {ts vs},Rps K H S ts vs->ts.all cC=true->vs.all cT=true/\inV v vs=ts.any λy=>eqF y t
 |_,_,.nil,_=>⟨rfl,rfl⟩
 |_,_,.cons a b,h=>by
  rw [List.all_cons,Bool.and_eq_true] at h
  obtain ⟨h1,h2⟩:=ie r f b h.2
  refine ⟨by rw [List.all_cons,gM a h.1,h1];rfl,?_⟩
  unfold inV at h2 ⊢
  rw [List.any_cons,List.any_cons,h2,ID a r h.1 f]
noncomputable def cr:T->Option Key
 |.int i=>some (.inl i)
 |.str x=>some (.inr x)
 |_=>none
def gIn (neg:Bool):G2:=λx y S Q=>(∃ i j,x=.str i/\y=.str j/\Q (.bl (neg ^^ !(Builtin.Str.occurrences j i 0 j.length 1).isEmpty)) S) \/
 (∃ ts,y=.tup ts/\cC x=true/\ts.all cC=true/\Q (.bl (neg ^^ ts.any λy=>eqF y x)) S) \/
 ∃ ts,aN S y=some ts/\cC x=true/\ts.all cC=true/\Q (.bl (neg ^^ ts.any λy=>eqF y x)) S
theorem o5 (hK:X.K=K):OpR X (compareOp .In) (l2 K (gIn false)):=by
 subst hK
 rintro pins s U H x y v u Q I rx ry ⟨S,tx,ty,Qt,sr,hx,hy,hg,b⟩
 rcases hg with ⟨i,j,rfl,rfl,q⟩|⟨ts,rfl,fx,ft,q⟩|⟨ts,e,fx,ft,q⟩
 ·obtain rfl:=hx.istr
  obtain rfl:=hy.istr
  exact zb pins s U H _ _ v u Q I rx ry ⟨i,j,rfl,rfl,b _ H _ S .refl sr .bl (by simpa using q)⟩
 ·obtain ⟨p,vs,rfl,hp,rs⟩:=hy.itup
  obtain ⟨h1,h2⟩:=ie hx fx rs ft
  refine qr pins s U H _ _ v u Q I rx ry ⟨_,_,rfl,.inr (SqT.of hp),gM hx fx,h1,?_⟩
  rw [h2]
  exact b _ H _ S .refl sr .bl (by simpa using q)
 ·obtain ⟨p,vs,rfl,hq,rs⟩:=bT sr hy e
  obtain ⟨h1,h2⟩:=ie hx fx rs ft
  refine qr pins s U H _ _ v u Q I rx ry ⟨p,vs,rfl,.inl hq,gM hx fx,h1,?_⟩
  rw [h2]
  exact b _ H _ S .refl sr .bl (by simpa using q)
theorem CG (hK:X.K=K):OpR X (compareOp .NotIn) (l2 K (gIn true)):=by
 subst hK
 rintro pins s U H x y v u Q I rx ry ⟨S,tx,ty,Qt,sr,hx,hy,hg,b⟩
 rcases hg with ⟨i,j,rfl,rfl,q⟩|⟨ts,rfl,fx,ft,q⟩|⟨ts,e,fx,ft,q⟩
 ·obtain rfl:=hx.istr
  obtain rfl:=hy.istr
  exact xU pins s U H _ _ v u Q I rx ry ⟨i,j,rfl,rfl,b _ H _ S .refl sr .bl (by simpa using q)⟩
 ·obtain ⟨p,vs,rfl,hp,rs⟩:=hy.itup
  obtain ⟨h1,h2⟩:=ie hx fx rs ft
  refine pS pins s U H _ _ v u Q I rx ry ⟨_,_,rfl,.inr (SqT.of hp),gM hx fx,h1,?_⟩
  rw [h2]
  exact b _ H _ S .refl sr .bl (by simpa using q)
 ·obtain ⟨p,vs,rfl,hq,rs⟩:=bT sr hy e
  obtain ⟨h1,h2⟩:=ie hx fx rs ft
  refine pS pins s U H _ _ v u Q I rx ry ⟨p,vs,rfl,.inl hq,gM hx fx,h1,?_⟩
  rw [h2]
  exact b _ H _ S .refl sr .bl (by simpa using q)
abbrev GC:=List T->Sto->(T->Sto->Prop)->Prop
def lC (K:Fg) (g:GC):List V->Hp->VK->Prop:=λxs H Q=>∃ S ts Qt,SRp K H S/\Rps K H S ts xs/\g ts S Qt/\Bh K H S Qt Q
def wCB (g:GC) (wr:WA):WE:=λU S Q=>wr U S λts S1=>g ts S1 Q
theorem Fj {g:GC}{wr:WA}{U H Q}(h:lE K (wCB g wr) U H Q):tCB (lC K g) (lA K wr) U H Q:=by
 obtain ⟨S,LQ,Qt,s,c,q,hq⟩:=h
 refine ⟨S,LQ,_,s,c,q,λvs H1 ts S1 f1 s1 r1 q1=>?_⟩
 exact ⟨S1,ts,Qt,s1,r1,q1,λv H' t S' f=>hq v H' t S' (f1.trans f)⟩
theorem wL {g:GC}{wr:WA}{e:Expr}(hp:PE X e (tCB (lC K g) (lA K wr))):QE K X e (wCB g wr):=PE.of hp λ_ _ _ h=>Fj h
def jZ (S:Sto):T->Option Int
 |.str z=>if z.length<=sizeLine then some z.length else none
 |.tup ts=>some ts.length
 |t=>(aN S t).map λts=>ts.length
def j3:GC:=λts S Q=>match ts with
 |[x]=>∃ n,jZ S x=some n/\Q (.int n) S
 |_=>False
theorem bv (hK:X.K=K):a8 X (.builtin "len") (lC K j3):=by
 subst hK
 rintro pins s U H xs us Q I r ⟨S,ts,Qt,sr,rs,hg,b⟩
 cases rs with
 |nil=>exact hg.elim
 |cons a l =>
  cases l with
  |cons _ _=>exact hg.elim
  |nil =>
   obtain ⟨n,e,q⟩:=hg
   rename_i t v
   have lists:(aN S t).map (λts=>(ts.length:Int))=some n->wpAny (model X.prog X.w) X.A (call (.builtin "len") us) (EP X pins U Q) X.xe s:=by
    intro e3
    rw [Option.map_eq_some_iff] at e3
    obtain ⟨ts,e3,rfl⟩:=e3
    obtain ⟨p,vs,rfl,hq,rs⟩:=bT sr a e3
    exact pT pins s U H _ us Q I r ⟨p,vs,rfl,.inl hq,by rw [rs.length];exact b _ H _ S .refl sr .int q⟩
   cases t with
   |str z =>
    cases a
    delta jZ at e
    dsimp only at e
    split at e
    ·next hz=>cases e;exact xW pins s U H _ us Q I r ⟨z,rfl,hz,b _ H _ S .refl sr .int q⟩
    ·cases e
   |tup ts =>
    cases a with
    |tup n' hp rs=>cases e;exact pT pins s U H _ us Q I r ⟨_,_,rfl,.inr (SqT.of hp),by rw [rs.length];exact b _ H _ S .refl sr .int q⟩
   |_=>exact lists e
noncomputable def tyT (S:Sto):T->Option Value
 |.non=>some (.type "NoneType")
 |.bl _=>some (.type "bool")
 |.int _=>some (.type "int")
 |.str _=>some (.type "str")
 |.tup _=>some (.type "tuple")
 |.lst _=>some (.type "list")
 |.ref a=>match S a with
  |some (.lst _)=>some (.type "list")
  |some (.dK _)=>some (.type "dict")
  |some (.dT _)=>some (.type "dict")
  |_=>none
 |_=>none
def wM (K:Fg):GC:=λts S Q=>match ts with
 |[x,.ty n]=>∃ t b,tyT S x=some t/\PySem.W.kitOne K t (.type n)=some b/\Q (.bl b) S
 |_=>False
theorem Fk {H S t v ty}(s:SRp K H S) (r:Rp K H S t v) (e:tyT S t=some ty):TyOf K H v ty:=by
 cases r with
 |non=>cases e;exact .non
 |bl=>cases e;exact .bl _
 |int=>cases e;exact .int _
 |str=>cases e;exact .str _
 |tup n h _=>cases e;exact .tup h
 |lst n h _=>cases e;exact .lst h
 |ty=>cases e
 |scr _=>cases e
 |ref =>
  rename_i a
  delta tyT at e
  dsimp only at e
  cases q:S a with
  |none=>rw [q] at e;cases e
  |some o =>
   rw [q] at e
   cases o with
   |lst us=>cases e;cases s a _ q with
    |lst h rs=>exact .lst h
   |dK us=>cases e;cases s a _ q with
    |dK h rs=>exact .dK h
   |dT us=>cases e;cases s a _ q with
    |dT h rs=>exact .dT h
   |fK _ _ _ _=>cases e
   |ins _ _=>cases e
   |exk _=>cases e
theorem u6 (hK:X.K=K):a8 X (.builtin "isinstance") (lC K (wM K)):=by
 subst hK
 rintro pins s U H xs us Q I r ⟨S,ts,Qt,sr,rs,hg,b⟩
 cases rs with
 |nil=>exact hg.elim
 |cons a l =>
  cases l with
  |nil=>exact hg.elim
  |cons a2 l2 =>
   cases l2 with
   |cons _ _=>cases a2<;>exact hg.elim
   |nil =>
    cases a2<;>first|exact hg.elim|skip
    obtain ⟨t,k,e,hk,q⟩:=hg
    exact yk pins s U H _ us Q I r ⟨_,_,t,k,rfl,⟨_,rfl,λz h=>h,hk⟩,Fk sr a e,b _ H _ S .refl sr .bl q⟩
def u7 (tr:Bool):GC:=λts S Q=>match ts with
 |[.tup us]=>a0 tr us S Q
 |[x]=>∃ us,aN S x=some us/\a0 tr us S Q
 |_=>False
theorem Fl (tr:Bool) (hK:X.K=K):a8 X (.type "list") (lC K (u7 tr)):=by
 subst hK
 rintro pins s U H xs us Q I r ⟨S,ts,Qt,sr,rs,hg,b⟩
 cases rs with
 |nil=>exact hg.elim
 |cons a l =>
  cases l with
  |cons _ _=>cases a<;>exact hg.elim
  |nil =>
   rename_i t v
   have lists:(∃ us,aN S t=some us/\a0 tr us S Qt)->wpAny (model X.prog X.w) X.A (call (.type "list") us) (EP X pins U Q) X.xe s:=by
    rintro ⟨ws,e,n⟩
    obtain ⟨p,vs,rfl,hq,rs⟩:=bT sr a e
    exact pU pins s U H _ us Q I r ⟨p,vs,rfl,.inl hq,fF sr rs n b⟩
   cases t with
   |tup ws =>
    cases a with
    |tup n' hp rs=>exact pU pins s U H _ us Q I r ⟨_,_,rfl,.inr (SqT.of hp),fF sr rs hg b⟩
   |_=>exact lists hg
noncomputable def dP:List T->Option (List Bool)
 |[]=>some []
 |.bl i::ts=>(dP ts).map (i::·)
 |_=>none
theorem Fm {i:Bool}{ts:List T}:dP (.bl i::ts)=(dP ts).map (i::·):=rfl
theorem tN {H S}:∀ {ts vs ns},Rps K H S ts vs->dP ts=some ns->vs=ns.map V.bl
 |_,_,_,.nil,e=>by cases e;rfl
 |_,_,_,.cons a b,e=>by
  cases a<;>first|(cases e;done)|skip
  simp only [Fm,Option.map_eq_some_iff] at e
  obtain ⟨ns,e,rfl⟩:=e
  rw [List.map_cons,<- tN b e]
noncomputable def eC:List T->Option (List Str)
 |[]=>some []
 |.str i::ts=>(eC ts).map (i::·)
 |_=>none
theorem rZ {i:Str}{ts:List T}:eC (.str i::ts)=(eC ts).map (i::·):=rfl
theorem r9 {H S}:∀ {ts vs ns},Rps K H S ts vs->eC ts=some ns->vs=ns.map V.str
 |_,_,_,.nil,e=>by cases e;rfl
 |_,_,_,.cons a b,e=>by
  cases a<;>first|(cases e;done)|skip
  simp only [rZ,Option.map_eq_some_iff] at e
  obtain ⟨ns,e,rfl⟩:=e
  rw [List.map_cons,<- r9 b e]
def wO:GC:=λts S Q=>match ts with
 |[x]=>∃ us bs,aN S x=some us/\dP us=some bs/\Q (.bl (bs.all id)) S
 |_=>False
theorem og (hK:X.K=K) (hc:X.calm=true):a8 X (.builtin "all") (lC K wO):=by
 subst hK
 rintro pins s U H xs us Q I r ⟨S,ts,Qt,sr,rs,hg,b⟩
 cases rs with
 |nil=>exact hg.elim
 |cons a l =>
  cases l with
  |cons _ _=>exact hg.elim
  |nil =>
   obtain ⟨ws,ns,e,en,q⟩:=hg
   obtain ⟨p,vs,rfl,hq,rs⟩:=bT sr a e
   exact zv hc pins s U H _ us Q I r ⟨p,ns,rfl,by rw [<- tN rs en];exact hq,b _ H _ S .refl sr .bl q⟩
def wP:GC:=λts S Q=>∃ i j,ts=[.int i,.int j]/\Q (.int (if j<i then j else i)) S
theorem IE (hc:X.calm=true):a8 X (.builtin "min") (lC K wP):=by
 rintro pins s U H xs us Q I r ⟨S,ts,Qt,sr,rs,⟨i,j,rfl,q⟩,b⟩
 cases rs with
 |cons a l =>
  cases l with
  |cons a2 l2 =>
   cases l2
   obtain rfl:=a.iint
   obtain rfl:=a2.iint
   exact zc hc pins s U H _ us Q I r ⟨_,_,rfl,b _ H _ S .refl sr .int q⟩
abbrev GM:=T->List T->Sto->(T->Sto->Prop)->Prop
def lM (K:Fg) (g:GM):V->List V->Hp->VK->Prop:=λx xs H Q=>∃ S t ts Qt,SRp K H S/\Rp K H S t x/\Rps K H S ts xs/\g t ts S Qt/\Bh K H S Qt Q
def tyM (ty:String) (S:Sto) (x:T):Prop:=match x with
 |.str _=>ty="str"
 |.lst _=>ty="list"
 |.ref a=>match S a with
  |some (.lst _)=>ty="list"
  |some (.dK _)=>ty="dict"
  |some (.dT _)=>ty="dict"
  |_=>False
 |_=>False
def wBM (ty:String) (g:GM) (wa:WE) (wr:WA):WE:=λU S Q=>wa U S λx S1=>tyM ty S1 x/\wr U S1 λts S2=>g x ts S2 Q
theorem IF {H S t v ty}(s:SRp K H S) (r:Rp K H S t v) (h:tyM ty S t):tyV K ty v H:=by
 cases r with
 |str=>exact h
 |lst n hp _=>exact .inl ⟨h,_,SqL.of hp⟩
 |ref =>
  rename_i a
  delta tyM at h
  dsimp only at h
  cases q:S a with
  |none=>rw [q] at h;exact h.elim
  |some o =>
   rw [q] at h
   cases o with
   |lst us=>cases s a _ q with
    |lst hp _=>exact .inl ⟨h,_,SqL.of hp⟩
   |dK us=>cases s a _ q with
    |dK hp _=>exact .inr (.inr (.inl ⟨h,.inl ⟨_,hp⟩⟩))
   |dT us=>cases s a _ q with
    |dT hp _=>exact .inr (.inr (.inl ⟨h,.inr ⟨_,hp⟩⟩))
   |fK _ _ _ _=>exact h.elim
   |ins _ _=>exact h.elim
   |exk _=>exact h.elim
 |_=>exact h.elim
theorem Fn {ty:String}{g:GM}{wa:WE}{wr:WA}{U H Q}(h:lE K (wBM ty g wa wr) U H Q):tBM K ty (lM K g) (lE K wa) (lA K wr) U H Q:=by
 obtain ⟨S,LQ,Qt,s,c,q,hq⟩:=h
 refine ⟨S,LQ,_,s,c,q,λx H1 tx S1 f1 s1 r1 q1=>?_⟩
 refine ⟨IF s1 r1 q1.1,S1,LQ,_,s1,c.fr f1,q1.2,λvs H2 ts S2 f2 s2 r2 q2=>?_⟩
 exact ⟨S2,tx,ts,Qt,s2,r1.fr f2,r2,q2,λv H' t S' f=>hq v H' t S' ((f1.trans f2).trans f)⟩
theorem K7 {ty:String}{g:GM}{wa:WE}{wr:WA}{e:Expr}(hp:PE X e (tBM K ty (lM K g) (lE K wa) (lA K wr))):QE K X e (wBM ty g wa wr):=PE.of hp λ_ _ _ h=>Fn h
def tO (tr:Bool):GM:=λx ts S Q=>match x,ts with
 |.str a,[.str c]=>c.length≠0/\a.length<=1000/\a0 tr ((Txt.split a c).map T.str) S Q
 |_,_=>False
theorem CH (tr:Bool):MtR X "str.split" (lM K (tO tr)):=by
 rintro pins s U H x vs v us Q I rx rv ⟨S,t,ts,Qt,sr,hx,rs,hg,b⟩
 cases hx<;>first|exact hg.elim|skip
 cases rs with
 |nil=>exact hg.elim
 |cons a l =>
  cases l with
  |cons _ _=>cases a<;>exact hg.elim
  |nil =>
   cases a<;>first|exact hg.elim|skip
   exact Az pins s U H _ _ v us Q I rx rv ⟨_,_,rfl,rfl,hg.1,hg.2.1,fF sr Rps.strs hg.2.2 b⟩
def u8:GM:=λx ts S Q=>match x,ts with
 |.str a,[y]=>∃ us zs,aN S y=some us/\eC us=some zs/\JoinOk a zs=true/\Q (.str (Txt.join a zs)) S
 |_,_=>False
theorem Fo (hK:X.K=K):MtR X "str.join" (lM K u8):=by
 subst hK
 rintro pins s U H x vs v us Q I rx rv ⟨S,t,ts,Qt,sr,hx,rs,hg,b⟩
 cases hx<;>first|exact hg.elim|skip
 cases rs with
 |nil=>exact hg.elim
 |cons a l =>
  cases l with
  |cons _ _=>exact hg.elim
  |nil =>
   obtain ⟨ws,zs,e,en,hj,q⟩:=hg
   obtain ⟨p,ys,rfl,hq,rs⟩:=bT sr a e
   exact Cq pins s U H _ _ v us Q I rx rv ⟨_,p,zs,rfl,rfl,by rw [<- r9 rs en];exact hq,hj,b _ H _ S .refl sr .str q⟩
def sd:GM:=λx ts S Q=>match x,ts with
 |.str a,[.str c]=>Q (.bl (Txt.startswith a c)) S
 |_,_=>False
theorem lZ:MtR X "str.startswith" (lM K sd):=by
 rintro pins s U H x vs v us Q I rx rv ⟨S,t,ts,Qt,sr,hx,rs,hg,b⟩
 cases hx<;>first|exact hg.elim|skip
 cases rs with
 |nil=>exact hg.elim
 |cons a l =>
  cases l with
  |cons _ _=>cases a<;>exact hg.elim
  |nil =>
   cases a<;>first|exact hg.elim|skip
   exact xH pins s U H _ _ v us Q I rx rv ⟨_,_,rfl,rfl,b _ H _ S .refl sr .bl hg⟩
theorem tP {H S}{a:Addr}{ts:List T}(s:SRp K H S) (e:S a=some (.lst ts)):∃ vs,H a=some (.lst vs)/\Rps K H S ts vs:=by
 cases s a _ e with
 |lst h r=>exact ⟨_,h,r⟩
theorem zC {H S}{a:Addr}{ts us:List T}{ws:List V}{Qt:T->Sto->Prop}{Q:VK}{t:T}{v:V}(s:SRp K H S) (e:S a=some (.lst ts)) (r:Rps K H S us ws) (b:Bh K H S Qt Q) (rt:Rp K H S t v) (q:Qt t (put S a (.lst us))):Q v (upd H a (.lst ws)):=by
 have hn:S a≠none:=by rw [e];simp
 exact b _ _ t _ (Fr.write hn) (s.write hn (.lst aM (r.fr (Fr.write hn)))) (rt.fr (Fr.write hn)) q
def se:GM:=λx ts S Q=>match x,ts with
 |.ref a,[y]=>∃ us,S a=some (.lst us)/\us.length<sizeLine/\Q .non (put S a (.lst (us++[y])))
 |_,_=>False
theorem qX:MtR X "list.append" (lM K se):=by
 rintro pins s U H x vs v us Q I rx rv ⟨S,t,ts,Qt,sr,hx,rs,hg,b⟩
 cases hx<;>first|exact hg.elim|skip
 cases rs with
 |nil=>exact hg.elim
 |cons a l =>
  cases l with
  |cons _ _=>exact hg.elim
  |nil =>
   obtain ⟨ws,e,hl,q⟩:=hg
   obtain ⟨ys,hy,ry⟩:=tP sr e
   exact qv pins s U H _ _ v us Q I rx rv ⟨_,ys,_,rfl,rfl,hy,by rw [ry.length];exact hl,zC sr e (ry.append (.cons a .nil)) b .non q⟩
abbrev GS:=T->T->T->Sto->(Sto->Prop)->Prop
def eK (K:Fg) (g:GS):jQ:=λo i v H Q=>∃ S to ti tv Qt,SRp K H S/\Rp K H S to o/\Rp K H S ti i/\Rp K H S tv v/\g to ti tv S Qt/\∀ H' S',Fr H S H' S'->SRp K H' S'->Qt S'->Q H'
def IG:GS:=λo i v S Q=>match o,i with
 |.ref a,.int k=>∃ us j,S a=some (.lst us)/\ixN us.length k=some j/\Q (put S a (.lst (us.set j v)))
 |_,_=>False
theorem Fp:c3 X (eK K IG):=by
 rintro pins s U H o i v ov iv u Q I ro ri rv ⟨S,to,ti,tv,Qt,sr,hO,hI,hV,hg,b⟩
 cases hO<;>first|exact hg.elim|skip
 cases hI<;>first|exact hg.elim|skip
 rename_i a k
 obtain ⟨us,j,e,hj,q⟩:=hg
 obtain ⟨ys,hy,ry⟩:=tP sr e
 have hn:S a≠none:=by rw [e];simp
 exact Av pins s U H _ _ _ ov iv u Q I ro ri rv ⟨_,ys,_,j,rfl,rfl,hy,by rw [ry.length];exact hj,b _ _ (Fr.write hn) (sr.write hn (.lst aM ((Rps.set hV j ry).fr (Fr.write hn)))) q⟩
def oh (k:Nat):GS:=λo i v S Q=>match o,i with
 |.ref a,.int j=>j=k/\∃ us,S a=some (.lst us)/\k<us.length/\Q (put S a (.lst (us.set k v)))
 |_,_=>False
theorem gN (k:Nat):c3 X (eK K (oh k)):=by
 rintro pins s U H o i v ov iv u Q I ro ri rv ⟨S,to,ti,tv,Qt,sr,hO,hI,hV,hg,b⟩
 refine Fp pins s U H o i v ov iv u Q I ro ri rv ⟨S,to,ti,tv,Qt,sr,hO,hI,hV,?_,b⟩
 cases hO<;>first|exact hg.elim|skip
 cases hI<;>first|exact hg.elim|skip
 obtain ⟨rfl,us,e,hk,q⟩:=hg
 refine ⟨us,k,e,?_,q⟩
 unfold ixN
 rw [if_pos (by omega),if_pos (by omega)]
 rfl
def wgS (wo wi:WE) (g:GS):WG:=λt U S Q=>wo U S λo S1=>wi U S1 λi S2=>g o i t S2 λS3=>Q U S3
theorem Fq {o i:Expr}{wo wi:WE}{g:GS}{pos:Pos}(h:PG X (.Subscript o i pos) (L2.eD (lE K wo) (lE K wi) (eK K g))):QG K X (.Subscript o i pos) (wgS wo wi g):=PG.of h λv U H Q zz98=>by
 obtain ⟨S,t,LQ,Qt,s,r,c,q,hq⟩:=zz98
 refine ⟨S,LQ,_,s,c,q,λx H1 tx S1 f1 s1 r1 q1=>?_⟩
 refine ⟨S1,LQ,_,s1,c.fr f1,q1,λy H2 ty S2 f2 s2 r2 q2=>?_⟩
 exact ⟨S2,tx,ty,t,_,s2,r1.fr f2,r2,(r.fr f1).fr f2,q2,λH' S' f s' q'=>hq U H' LQ S' ((f1.trans f2).trans f) s' (c.fr ((f1.trans f2).trans f)) q'⟩
end
theorem cu {w u:WS}{D:EndsT}{U:StT}{S:Sto}(M:StT->Sto->Prop) (h1:∀ X:StT->Sto->Prop,(∀ U S,M U S->X U S)->w { D with nx:=X } U S) (h2:∀ U S,M U S->u D U S):oZ w u D U S:=h1 _ h2
theorem CI {α:Type}{grd:Sto->Prop}{g:WG}{wb:WS}{D:EndsT}{f:α->T}{ls:List α}{U:StT}{S:Sto}(Iv:List α->StT->Sto->Prop) (h0:Iv ls U S)
  (step:∀ a r U S (N:StT->Sto->Prop),Iv (a::r) U S->(∀ LR S',Iv r LR S'->N LR S')->grd S/\g (f a) U S λMR S2=>wb { nx:=N,rt:=D.rt,bk:=D.nx,ct:=N } MR S2)
  (done:∀ U S,Iv [] U S->grd S/\D.nx U S):dw grd g wb D (ls.map f) U S:=by
 induction ls generalizing U S with
 |nil=>exact done U S h0
 |cons a r ih=>exact step a r U S _ h0 λLR S' iv=>ih iv
theorem yL {grd:Sto->Prop}{g:WG}{wb:WS}{D:EndsT}{lo:Int}{n:Nat}{U:StT}{S:Sto}(Iv:Nat->StT->Sto->Prop) (h0:Iv 0 U S)
  (step:∀ k U S (N:StT->Sto->Prop),k<n->Iv k U S->(∀ LR S',Iv (k+1) LR S'->N LR S')->grd S/\g (.int (lo+k)) U S λMR S2=>wb { nx:=N,rt:=D.rt,bk:=D.nx,ct:=N } MR S2)
  (done:∀ U S,Iv n U S->grd S/\D.nx U S):dw grd g wb D (c9 lo n) U S:=by
 unfold c9
 have main:∀ (m k:Nat) U S,k+m=n->Iv k U S->dw grd g wb D ((List.range' k m).map λ(i:Nat)=>T.int (lo+i)) U S:=by
  intro m
  induction m with
  |zero=>intro k U S e iv;rw [show k=n by omega] at iv;exact done U S iv
  |succ m ih =>
   intro k U S e iv
   rw [List.range'_succ,List.map_cons]
   exact step k U S _ (by omega) iv λLR S' iv'=>ih (k+1) LR S' (by omega) iv'
 rw [List.range_eq_range']
 exact main n 0 U S (by omega) h0
theorem lN {grd:Sto->Prop}{g:WG}{tt:WT}{te:WE}{Q:List T->Sto->Prop}{items LU:List T}{U:StT}{S:Sto}(Iv:List T->List T->StT->Sto->Prop) (h0:Iv items LU U S)
  (step:∀ t ts LU U S (N:List T->StT->Sto->Prop),Iv (t::ts) LU U S->(∀ TF LR S',Iv ts TF LR S'->N TF LR S') ->
   grd S/\g t U S λMR S2=>tt MR S2 λb S3=>if b=true then te MR S3 λy S4=>LU.length<sizeLine/\N (LU++[y]) MR S4 else N LU MR S3)
  (done:∀ LU U S,Iv [] LU U S->grd S/\Q LU S):cV grd g tt te Q items LU U S:=by
 induction items generalizing LU U S with
 |nil=>exact done LU U S h0
 |cons t ts ih=>exact step t ts LU U S _ h0 λTF LR S' iv=>ih iv
theorem eT {α:Type}{grd:Sto->Prop}{g:WG}{tt:WT}{te:WE}{Q:List T->Sto->Prop}(f:α->T) (φ:α->Option T) (cs:StT){ls:List α}{S:Sto}(hg:grd S) (hz:ls.length<=sizeLine)
  (step:∀ a∈ls,∀ (u:Option T) (LU:List T) (N:List T->StT->Sto->Prop),LU.length<sizeLine->(∀ u',N (LU++(φ a).toList) (u'::cs) S) ->
   g (f a) (u::cs) S λMR S2=>tt MR S2 λb S3=>if b=true then te MR S3 λy S4=>LU.length<sizeLine/\N (LU++[y]) MR S4 else N LU MR S3)
  (done:Q (ls.filterMap φ) S):cV grd g tt te Q (ls.map f) [] (none::cs) S:=by
 refine lN (λitems LU LR S'=>∃ pre O1 u,ls=pre++O1/\items=O1.map f/\LU=pre.filterMap φ/\LR=u::cs/\S'=S) ⟨[],ls,none,rfl,rfl,rfl,rfl,rfl⟩ ?_ ?_
 ·rintro t ts LU LR S' N ⟨pre,O1,u,e,e2,rfl,rfl,rfl⟩ hN
  cases O1 with
  |nil=>cases e2
  |cons a r =>
   simp only [List.map_cons,List.cons.injEq] at e2
   obtain ⟨rfl,rfl⟩:=e2
   refine ⟨hg,step a (by rw [e];simp) u _ N ?_ λu'=>hN _ _ _ ⟨pre++[a],r,u',by rw [e];simp,rfl,?_,rfl,rfl⟩⟩
   ·have h1:=List.length_filterMap_le φ pre
    have h2:=congrArg List.length e
    simp only [List.length_append,List.length_cons] at h2
    omega
   ·rw [List.filterMap_append];cases h:φ a<;>simp [h]
 ·rintro LU LR S' ⟨pre,O1,u,e,e2,rfl,rfl,rfl⟩
  cases O1 with
  |nil=>rw [List.append_nil] at e;subst e;exact ⟨hg,done⟩
  |cons a r=>cases e2
section
variable {U:StT}{S S0:Sto}{D:EndsT}{Q:T->Sto->Prop}{B:Bool->Sto->Prop}{L:List T->Sto->Prop}{t x y z:T}{p:Addr}
theorem IH {w u:WS}(h:w { D with nx:=u D } U S):oZ w u D U S:=h
theorem tQ (h:D.nx U S):uU D U S:=h
theorem Fs {w:WE}(h:w U S λ_ S1=>D.nx U S1):uV w D U S:=h
theorem II {w:WE}(h:w U S D.rt):ww w D U S:=h
theorem IJ {t:WT}{w u:WS}(h:t U S λb S1=>if b=true then w D U S1 else u D U S1):wx t w u D U S:=h
theorem IK {w:WE}{g:WG}(h:w U S λt S1=>g t U S1 D.nx):eG w g D U S:=h
theorem u9 {i:Nat}{MR:StT}{Q:StT->Sto->Prop}(e:U.set i (some t)=MR) (h:Q MR S):wgN i t U S Q:=by subst e;exact h
theorem K8 {wo wi:WE}{g:GS}{Q:StT->Sto->Prop}(h:wo U S λo S1=>wi U S1 λi S2=>g o i t S2 λS3=>Q U S3):wgS wo wi g t U S Q:=h
theorem K9 {n:Nat}{g:WGs}{ts:List T}{Q:StT->Sto->Prop}(l:ts.length=n) (h:g ts U S Q):uX n g (.tup ts) U S Q:=⟨ts,rfl,l,h⟩
theorem CJ {g:WG}{h:WGs}{ts:List T}{Q:StT->Sto->Prop}(q:g t U S λLR S'=>h ts LR S' Q):tK g h (t::ts) U S Q:=⟨t,ts,rfl,q⟩
theorem Ft {Q:StT->Sto->Prop}(q:Q U S):uW [] U S Q:=⟨rfl,q⟩
theorem IL {wi:WI}{g:WG}{wb:WS}(h:wi U S λsrc S1=>dw src.grd g wb D src.items U S1):o4 wi g wb D U S:=h
theorem i_V {i:Nat}(e:U[i]?=some (some t)) (h:Q t S):wV i U S Q:=⟨t,e,h⟩
theorem i_C (h:Q t S):wC t U S Q:=h
theorem i_2 {g:G2}{wa wb:WE}(h:wa U S λx S1=>wb U S1 λy S2=>g x y S2 Q):w2 g wa wb U S Q:=h
theorem i_B {w:WE}(h:w U S λx S1=>∃ k,x=.bl k/\B k S1):wB w U S B:=h
theorem K' {k:Bool}{C:Bool->Prop}(h:C k):∃ k',T.bl k=.bl k'/\C k':=⟨k,rfl,h⟩
theorem CK {g g':G2}{wa wb wc:WE}(h:wa U S λx S1=>wb U S1 λy S2=>g x y S2 λz S3=>∃ k,z=.bl k/\if k=true then wc U S3 λu S4=>g' y u S4 Q else Q (.bl false) S3):gJ g g' wa wb wc U S Q:=h
theorem IM {t u:WT}(h:t U S λc S1=>if c=true then u U S1 B else B false S1):wj t u U S B:=h
theorem La {t u:WT}(h:t U S λc S1=>if c=true then B true S1 else u U S1 B):wOr t u U S B:=h
theorem IN {t:WT}(h:t U S λc S1=>B (!c) S1):wm t U S B:=h
theorem Fu (h:B true S):jG U S B:=h
theorem Fv {wa wb:WE}(h:wa U S λx S1=>∃ k,x=.bl k/\if k=true then wb U S1 Q else Q (.bl false) S1):uR wa wb U S Q:=h
theorem IP {wa wb:WE}(h:wa U S λx S1=>∃ k,x=.bl k/\if k=true then Q (.bl true) S1 else wb U S1 Q):wq wa wb U S Q:=h
theorem Fw {wa:WE}(h:wa U S λx S1=>∃ k,x=.bl k/\Q (.bl (!k)) S1):uS wa U S Q:=h
theorem Lb {t:WT}{wa wb:WE}(h:t U S λc S1=>if c=true then wa U S1 Q else wb U S1 Q):wIf t wa wb U S Q:=h
theorem IQ (h:L [] S):dq U S L:=h
theorem Fy {wa:WE}{wr:WA}(h:wa U S λx S1=>wr U S1 λxs S2=>L (x::xs) S2):n5 wa wr U S L:=h
theorem IR {wr:WA}(h:wr U S λts S1=>ts.length<=sizeLine/\Q (.tup ts) S1):wt wr U S Q:=h
theorem IS {wr:WA}(h:wr U S λts S1=>ts.length<=sizeLine/\Q (.lst ts) S1):wu wr U S Q:=h
theorem Fz {wr:WA}(h:wr U S λts S1=>ts.length<=sizeLine/\∀ p,S1 p=none->Q (.ref p) (put S1 p (.lst ts))):uT wr U S Q:=h
theorem FA {w:WSp}{NZ:List T}{wr:WA}(h:wr U S λts S1=>w (ts++NZ) S1 Q):gX w NZ wr U S Q:=h
theorem Lc {g:GC}{wr:WA}(h:wr U S λts S1=>g ts S1 Q):wCB g wr U S Q:=h
theorem Ld {ty:String}{g:GM}{wa:WE}{wr:WA}(h:wa U S λx S1=>tyM ty S1 x/\wr U S1 λts S2=>g x ts S2 Q):wBM ty g wa wr U S Q:=h
theorem IT {wa:WE}(h:wa U S λx S1=>match x with|.int i=>Q (.int (-i)) S1|_=>False):wJ wa U S Q:=h
theorem Lf {tr:Bool}{wa:WE}{wl wh:WO}(h:wa U S λx S1=>wl U S1 λl S2=>wh U S2 λh S3=>gSl tr x l h S3 Q):wSl tr wa wl wh U S Q:=h
theorem Lg {O':Option Int->Sto->Prop}(h:O' none S):woN U S O':=h
theorem Lh {wa:WE}{O':Option Int->Sto->Prop}(h:wa U S λx S1=>match x with|.int i=>O' (some i) S1|_=>False):woS wa U S O':=h
theorem FB {tr:Bool}{wi:WI}{n:Nat}{LZ:List Nat}{g:WG}{tt:WT}{te:WE}(h:wi U S λsrc S1=>cV src.grd g tt te (λts S2=>a0 tr ts S2 Q) src.items [] (fg n LZ U) S1):jH tr wi n LZ g tt te U S Q:=h
theorem FC {ts:List T}(h:Q (.lst ts) S):a0 false ts S Q:=h
variable {R:Src->Sto->Prop}
theorem Li {wa:WE}(h:wa U S λx S1=>∃ ts,aN S1 x=some ts/\R ⟨ts,c8 x ts⟩ S1):wiL wa U S R:=h
theorem IU {wa:WE}(h:wa U S λx S1=>match x with|.int j=>-(2 ^ 62)<=j/\j<2 ^ 62/\R ⟨c9 0 j.toNat,λ_=>True⟩ S1|_=>False):wK wa U S R:=h
theorem Lj {wa:WE}(h:wa U S λx S1=>match x with|.str z=>R ⟨gL z,λ_=>True⟩ S1|_=>False):wiS wa U S R:=h
variable {i j:Int}{a c:Str}{ts us:List T}
theorem IV (h:Q (.int (i - j)) S):eD (.int i) (.int j) S Q:=⟨trivial,h⟩
theorem IW (h0:0<j) (h1:j<18446744073709551616) (h:Q (.int (i / j)) S):wy (.int i) (.int j) S Q:=⟨⟨h0,h1⟩,h⟩
theorem IX (h0:0<j) (h:Q (.int (i % j)) S):wz (.int i) (.int j) S Q:=⟨h0,h⟩
theorem IY (h0:0<=j) (h1:j<=1000000) (h2:i.natAbs<2 ^ 64) (h:Q (.int (i ^ j.toNat)) S):wD (.int i) (.int j) S Q:=⟨⟨h0,h1,h2⟩,h⟩
theorem IZ (h0:0<=j) (h:Q (.int (i / 2 ^ j.toNat)) S):wE (.int i) (.int j) S Q:=⟨h0,h⟩
theorem FD {tr:Bool}(h:Q (.int (i+j)) S):ib tr (.int i) (.int j) S Q:=h
theorem tR {tr:Bool}(h0:a.length+c.length<=sizeLine) (h:Q (.str (a++c)) S):ib tr (.str a) (.str c) S Q:=⟨h0,h⟩
theorem jl {tr:Bool}(e1:cj S x=some ts) (e2:cj S y=some us) (hz:ts.length+us.length<=sizeLine) (h:a0 tr (ts++us) S Q):ib tr x y S Q:=by
 cases x<;>first|(cases e1;done)|exact ⟨ts,us,e1,e2,hz,h⟩
theorem FE {tr:Bool}(h0:hW i j) (h:Q (.int (i * j)) S):wF tr (.int i) (.int j) S Q:=⟨h0,h⟩
theorem Ja {n:Bool}(h:Q (.bl (n ^^ decide (i=j))) S):gEq n (.int i) (.int j) S Q:=h
theorem Jb {n:Bool}(h:Q (.bl (n ^^ decide (a=c))) S):gEq n (.str a) (.str c) S Q:=h
theorem Jc (h:Q (.bl (decide (i<j))) S):gLt (.int i) (.int j) S Q:=h
theorem Jd (h:Q (.bl (decide (i<=j))) S):gLe (.int i) (.int j) S Q:=h
theorem Je (h:Q (.bl (decide (j<i))) S):gGt (.int i) (.int j) S Q:=h
theorem Jf (h:Q (.bl (decide (j<=i))) S):gGe (.int i) (.int j) S Q:=h
theorem Jg (h:Q (.bl (!ltS c a)) S):gLe (.str a) (.str c) S Q:=h
theorem Ll {n:Bool}(h:Q (.bl (n ^^ isN x)) S):gIs n x .non S Q:=h
theorem oj (e:atI ts i=some t) (h:Q t S):gIx (.tup ts) (.int i) S Q:=⟨t,e,h⟩
theorem fN (e:atI ts i=some t) (h:Q t S):gIx (.lst ts) (.int i) S Q:=⟨t,e,h⟩
theorem va (e:S p=some (.lst ts)) (e2:atI ts i=some t) (h:Q t S):gIx (.ref p) (.int i) S Q:=⟨t,(Fh e).trans e2,h⟩
theorem Jh {d:Nat}(hz:a.length<=sizeLine) (e:atI a.cps.toList i=some d) (h:Q (.str ⟨#[d]⟩) S):gIx (.str a) (.int i) S Q:=⟨_,by show (if _ then _ else _)=_;rw [if_pos hz,e];rfl,h⟩
theorem Ji {tr:Bool}{lo hi:Option Int}(hz:a.length<=sizeLine) (h:Q (.str (Txt.slice a lo hi)) S):gSl tr (.str a) lo hi S Q:=⟨hz,h⟩
theorem vb {tr:Bool}{lo hi:Option Int}(h:a0 tr (eJ ts lo hi) S Q):gSl tr (.lst ts) lo hi S Q:=⟨ts,rfl,h⟩
theorem tS {α:Type}{ls:List α}(h0:0<=i) (h1:i<ls.length):∃ z,atI ls i=some z/\z∈ls:=by
 have hj:i.toNat<ls.length:=by omega
 refine ⟨ls[i.toNat],?_,List.getElem_mem hj⟩
 have e:((i.toNat:Nat):Int)=i:=by omega
 have:=i6 (xs:=ls) (j:=i.toNat) (v:=ls[i.toNat]) (by simp [hj])
 rw [e] at this
 exact this
theorem mI {α β:Type}{ls:List α}(f:α->β):atI (ls.map f) i=(atI ls i).map f:=by
 unfold atI
 rw [List.length_map]
 cases ixN ls.length i with
 |none=>rfl
 |some j=>simp [List.getElem?_map]
theorem vc {ns:List Int}(h0:0<=i) (h1:i<ns.length) (h:∀ z,z∈ns->atI ns i=some z->Q (.int z) S):gIx (.scr ns) (.int i) S Q:=by
 obtain ⟨z,e,hz⟩:=tS h0 h1
 exact ⟨.int z,by show atI (ns.map T.int) i=_;simp only [mI,e,Option.map_some],h z hz e⟩
theorem CL {Q:Sto->Prop}{k:Nat}(e0:i=k) (hk:k<ts.length) (e:ts.set k t=us) (h:Q (put S p (.lst us))):oh k (.ref p) (.int i) t (put S p (.lst ts)) Q:=⟨e0,ts,aI,hk,by rw [c7,e];exact h⟩
theorem FF {Q:Sto->Prop}{k:Nat}(e1:S p=some (.lst ts)) (e0:i=k) (hk:k<ts.length) (e:ts.set k t=us) (h:Q (put S p (.lst us))):oh k (.ref p) (.int i) t S Q:=⟨e0,ts,e1,hk,by rw [e];exact h⟩
theorem vd {n:Bool}(f:cC x=true) (f2:ts.all cC=true) (h:Q (.bl (n ^^ ts.any λy=>eqF y x)) S):gIn n x (.tup ts) S Q:=.inr (.inl ⟨ts,rfl,f,f2,h⟩)
theorem FG (hz:a.length<=sizeLine) (h:Q (.int a.length) S):j3 [.str a] S Q:=⟨_,if_pos hz,h⟩
theorem CM:jZ S (.lst ts)=some (ts.length:Int):=rfl
theorem CN {ns:List Int}:jZ S (.scr ns)=some ((ns.map T.int).length:Int):=rfl
theorem FH {α:Type}{f:α->T}{ls:List α}(h:Q (.int ls.length) S):j3 [.lst (ls.map f)] S Q:=⟨_,by rw [CM,List.length_map],h⟩
theorem FI {ns:List Int}(h:Q (.int ns.length) S):j3 [.scr ns] S Q:=⟨_,by rw [CN,List.length_map],h⟩
theorem Jj {K:Fg}{n:String}{v:Value}{b:Bool}(e:tyT S x=some v) (k:PySem.W.kitOne K v (.type n)=some b) (h:Q (.bl b) S):wM K [x,.ty n] S Q:=⟨v,b,e,k,h⟩
theorem Jk (h:Q (.int (if j<i then j else i)) S):wP [.int i,.int j] S Q:=⟨_,_,rfl,h⟩
theorem m6 {bs:List Bool}(e:dP ts=some bs) (h:Q (.bl (bs.all id)) S):wO [.lst ts] S Q:=⟨ts,bs,rfl,e,h⟩
theorem CO {tr:Bool}(e:S p=some (.lst ts)) (h:a0 tr ts S Q):u7 tr [.ref p] S Q:=⟨ts,jj e,h⟩
theorem CP {tr:Bool}(h0:c.length≠0) (h1:a.length<=1000) (h:a0 tr ((Txt.split a c).map T.str) S Q):tO tr (.str a) [.str c] S Q:=⟨h0,h1,h⟩
theorem CQ {zs:List Str}(e:eC ts=some zs) (h0:JoinOk a zs=true) (h:Q (.str (Txt.join a zs)) S):u8 (.str a) [.lst ts] S Q:=⟨ts,zs,rfl,e,h0,h⟩
theorem AO (h:Q (.bl (Txt.startswith a c)) S):sd (.str a) [.str c] S Q:=h
theorem qY (e:S p=some (.lst ts)) (h0:ts.length<sizeLine) (h:Q .non (put S p (.lst (ts++[y])))):se (.ref p) [y] S Q:=⟨ts,e,h0,h⟩
theorem Jl {Q:Prop}(h:Q):tyM "str" S (.str a)/\Q:=⟨rfl,h⟩
theorem Jm {Q:Prop}(e:S p=some (.lst ts)) (h:Q):tyM "list" S (.ref p)/\Q:=⟨by delta tyM;dsimp only;rw [e],h⟩
theorem Jn {A:List T->Prop}(h:A ts):∃ us,aN S (.lst ts)=some us/\A us:=⟨ts,rfl,h⟩
theorem Jo {A:List T->Prop}(e:S p=some (.lst ts)) (h:A ts):∃ us,aN S (.ref p)=some us/\A us:=⟨ts,jj e,h⟩
theorem Lm {ts:List T}{n:Nat}{Q:Prop}(e:ts.length<=sizeLine) (h:Q):ts.length<=sizeLine/\Q:=⟨e,h⟩
theorem m7 (hz:a.length<=sizeLine) (h0:0<=i) (h1:i<a.length) (h:∀ d,d∈a.cps.toList->atI a.cps.toList i=some d->Q (.str ⟨#[d]⟩) S):gIx (.str a) (.int i) S Q:=by
 obtain ⟨d,e,hd⟩:=tS (ls:=a.cps.toList) h0 (by simpa [Str.length] using h1)
 exact Jh hz e (h d hd e)
theorem Le.put {o:O}(h:S p=Option.none):Le S (T2.put S p o):=λa u e=>by
 have:a≠p:=λz=>by rw [z,h] at e;cases e
 rw [ay this];exact e
theorem bU {a b:Addr}{o:O}(h:T2.put S a o b=Option.none):b≠a/\S b=Option.none:=by
 have ne:b≠a:=λz=>by rw [z,aI] at h;cases h
 exact ⟨ne,by rw [ay ne] at h;exact h⟩
theorem FJ {n:Bool}(h:Q (.bl (n ^^ !(Builtin.Str.occurrences c a 0 c.length 1).isEmpty)) S):gIn n (.str a) (.str c) S Q:=.inl ⟨_,_,rfl,rfl,h⟩
theorem Le.put2 {S1 S2:Sto}{o:O}(l:Le S1 S2):Le (T2.put S1 p o) (T2.put S2 p o):=λa u e=>by
 by_cases h:a=p
 ·subst h;rw [aI] at e ⊢;exact e
 ·rw [ay h] at e ⊢;exact l a u e
def ig {α:Type}(ls:List α) (lo hi:Option Int):List α:=(ls.drop (HT.sIx ls.length 0 lo)).take (HT.sIx ls.length ls.length hi - HT.sIx ls.length 0 lo)
theorem AQ {α:Type}{f:α->T}{ls:List α}{lo hi:Option Int}:eJ (ls.map f) lo hi=(ig ls lo hi).map f:=by
 unfold eJ ig
 rw [List.length_map,List.map_take,List.map_drop]
theorem sf {α:Type}{ls:List α}{k:Int}(h:0<=k):ig ls none (some k)=ls.take k.toNat:=by
 unfold ig
 have e:((k.toNat:Nat):Int)=k:=by omega
 rw [<- e,HT.sIx_nat,HT.sIx_none,Int.toNat_natCast,List.drop_zero,Nat.sub_zero,Nat.min_comm,<- List.take_take]
 exact List.take_of_length_le (by rw [List.length_take];omega)
theorem Jp {tr:Bool}{α:Type}{f:α->T}{ls:List α}{lo hi:Option Int}(h:a0 tr ((ig ls lo hi).map f) S Q):gSl tr (.lst (ls.map f)) lo hi S Q:=vb (by rw [AQ];exact h)
theorem Jq {A:Prop}(h0:-(2 ^ 62)<=j) (h1:j<2 ^ 62) (h:A):-(2 ^ 62)<=j/\j<2 ^ 62/\A:=⟨h0,h1,h⟩
theorem ifT {A C:Prop}(h:A):if true=true then A else C:=by rw [if_pos rfl];exact h
theorem ifF {A C:Prop}(h:C):if false=true then A else C:=by rw [if_neg Bool.false_ne_true];exact h
theorem Ln {A C:Prop}(h:C):if (!true)=true then A else C:=ifF h
theorem Lo {A C:Prop}(h:A):if (!false)=true then A else C:=ifT h
theorem ifB {b:Bool}{A C:Prop}(h1:b=true->A) (h2:b=false->C):if b=true then A else C:=by
 cases b with
 |true=>exact ifT (h1 rfl)
 |false=>exact ifF (h2 rfl)
end
end T2
namespace S6
open PySem PyProof.Rows
noncomputable def rk (ρ:Keyed->Nat) (xs:Array Keyed) (i:Nat):Nat:=((xs[i]?).map ρ).getD 0
theorem vf {ρ:Keyed->Nat}{xs ys:Array Keyed}{i j:Nat}(h:xs[i]?=ys[j]?):rk ρ xs i=rk ρ ys j:=by unfold rk;rw [h]
theorem gO {ρ:Keyed->Nat}{xs:Array Keyed}{i j:Nat}(hj:j<=xs.size) (k:Nat) :
  rk ρ (mirror xs i j ((j - i) / 2)) k=rk ρ xs (if i<=k/\k<j then i+j - 1 - k else k):=by
 refine vf ?_
 rw [getElem?_mirror_all hj]
 split<;>rfl
theorem sh {ρ:Keyed->Nat}{xs:Array Keyed}{n d:Nat}(hn:n<xs.size) (hd:d<=n) (k:Nat) :
  rk ρ (bubble xs n d) k=rk ρ xs (if k=n - d then n else if n - d<k/\k<=n then k - 1 else k):=by
 refine vf ?_
 rw [getElem?_bubble hn d hd]
 split
 ·rfl
 ·split<;>rfl
def Up (ρ:Keyed->Nat) (xs:Array Keyed) (n:Nat):Prop:=∀ i j,i<=j->j<n->rk ρ xs i<=rk ρ xs j
def Dn (ρ:Keyed->Nat) (xs:Array Keyed) (n:Nat):Prop:=∀ i j,i<=j->j<n->rk ρ xs j<=rk ρ xs i
structure Ok (kd:SortKind) (a₀:Array Keyed) (st:SortSt):Prop where
 perm:(arrOf st).Perm a₀
 kind:kindOf st=kd
 well:failedOf st=none
 runs:pendingOf st=#[]
theorem Ok.sz {kd a₀ st}(o:Ok kd a₀ st):(arrOf st).size=a₀.size:=o.perm.size_eq
theorem Ok.arr {kd a₀ st xs}(o:Ok kd a₀ st) (h:xs.Perm (arrOf st)):Ok kd a₀ (setArr st xs):=⟨h.trans o.perm,o.kind,o.well,o.runs⟩
def Cm (prog:Program) (w:World) (A:Around) (s:Shared) (kd:SortKind) (a₀:Array Keyed) (ρ:Keyed->Nat):Prop :=
 ∀ x y,x∈a₀.toList->y∈a₀.toList->∀ (E:Value->Shared->Prop) (Q:Bool->Shared->Prop),Q (decide (ρ x<ρ y)) s->wpAny (model prog w) A (keyLt' kd x.1 y.1) Q E s
section
variable {prog:Program}{w:World}{A:Around}{E:Value->Shared->Prop}{s:Shared}{a₀:Array Keyed}{kd:SortKind}{ρ:Keyed->Nat}{st:SortSt}
theorem gP {i j:Nat}{Q:Option Bool->SortSt->Prop}(C:Cm prog w A s kd a₀ ρ) (o:Ok kd a₀ st) (hi:i<a₀.size) (hj:j<a₀.size) (h:Q (some (decide (rk ρ (arrOf st) i<rk ρ (arrOf st) j))) st) :
  wpS (model prog w) A E s (ltAt' i j) Q st:=by
 have get:∀ k,k<a₀.size->∃ p,(arrOf st)[k]?=some p/\p∈a₀.toList:=λk hk=>by
  have hk':k<(arrOf st).size:=by rw [o.sz];exact hk
  exact ⟨_,getElem?_pos _ k hk',(Array.perm_iff_toList_perm.mp o.perm).mem_iff.mp (by simp)⟩
 obtain ⟨p,ep,mp⟩:=get i hi
 obtain ⟨q,eq,mq⟩:=get j hj
 have h':Q (some (decide (ρ p<ρ q))) st:=by unfold rk at h;rw [ep,eq] at h;exact h
 rw [ltAt'_eq]
 refine wpS_bind (wpS_get ?_)
 dsimp only
 rw [elem'_eq,ep]
 refine wpS_bind (wpS_pure ?_)
 rw [elem'_eq,eq]
 refine wpS_bind (wpS_pure ?_)
 rw [lt'_eq]
 refine wpS_bind (wpS_get (wpS_bind ?_))
 rw [o.kind]
 exact wpS_lift (wpAny_attempt (C p q mp mq _ _ ⟨rfl,wpS_pure h'⟩))
theorem vg {a n:Nat}{Q:AscSt->SortSt->Prop}(C:Cm prog w A s kd a₀ ρ) (o:Ok kd a₀ st) (hn:n<=a₀.size) (h1:1<=a) (ha:a<=n) (u:Up ρ (arrOf st) a)
  (h:∀ m,a<=m->m<=n->Up ρ (arrOf st) m->(m<n->rk ρ (arrOf st) m<rk ρ (arrOf st) (m - 1))->Q (none,m) st):wpS (model prog w) A E s (ascLoop a n) Q st:=by
 unfold ascLoop
 refine wpS_forRange (λk c z=>z=st/\c=(none,k)/\Up ρ (arrOf st) k) ?_ ?_ ⟨rfl,rfl,u⟩
 ·rintro k c z l1 l2 ⟨rfl,rfl,uk⟩
  refine wpS_bind (gP C o (by dsimp only;omega) (by dsimp only;omega) ?_)
  dsimp only
  by_cases g:rk ρ (arrOf z) k<rk ρ (arrOf z) (k - 1)
  ·rw [decide_eq_true g]
   exact wpS_pure (h k l1 (by omega) uk λ_=>g)
  ·rw [decide_eq_false g]
   refine wpS_pure ⟨rfl,rfl,λi j ij jk=>?_⟩
   rcases Nat.lt_or_ge j k with q|q
   ·exact uk i j ij q
   ·obtain rfl:j=k:=by omega
    rcases Nat.lt_or_ge i j with q|q
    ·have:=uk i (j - 1) (by omega) (by omega)
     omega
    ·obtain rfl:i=j:=by omega
     exact Nat.le_refl _
 ·rintro c z ⟨rfl,rfl,uk⟩
  rw [Nat.max_eq_right ha] at uk ⊢
  exact h n ha (Nat.le_refl _) uk λq=>absurd q (Nat.lt_irrefl _)
theorem tT {m n:Nat}{Q:Option Nat->SortSt->Prop}(C:Cm prog w A s kd a₀ ρ) (o:Ok kd a₀ st) (hn:n<=a₀.size) (h1:1<=m) (hm:m<=n) (d:Dn ρ (arrOf st) m)
  (h:∀ k z,Ok kd a₀ z->1<=k->k<=n->Up ρ (arrOf z) k->Q (some k) z):wpS (model prog w) A E s (tail3 m n) Q st:=by
 unfold tail3
 refine wpS_bind (wpS_reverse ?_)
 have o':Ok kd a₀ (setArr st (mirror (arrOf st) 0 m ((m - 0) / 2))):=o.arr (mirror_perm _ _ _ _)
 refine wpS_bind (vg C o' hn h1 hm (λi j ij jm=>?_) λk k1 k2 uk _=>wpS_pure (h k _ o' (by omega) k2 uk))
 show rk ρ (mirror (arrOf st) 0 m ((m - 0) / 2)) i<=rk ρ (mirror (arrOf st) 0 m ((m - 0) / 2)) j
 rw [gO (by rw [o.sz];omega),gO (by rw [o.sz];omega),if_pos (by omega),if_pos (by omega)]
 exact d _ _ (by omega) (by omega)
def Lk (ρ:Keyed->Nat) (xs:Array Keyed) (m e:Nat):Prop:=e+1<=m/\∀ i,m - (e+1)<=i->i<m->rk ρ xs i=rk ρ xs (m - 1)
theorem Lk.rev {xs:Array Keyed}{m e:Nat}(l:Lk ρ xs m e) (hm:m<=xs.size) (k:Nat):rk ρ (mirror xs (m - (e+1)) m ((m - (m - (e+1))) / 2)) k=rk ρ xs k:=by
 rw [gO hm]
 split
 ·rename_i q
  rw [l.2 _ (by have:=l.1;omega) (by omega),l.2 k q.1 q.2]
 ·rfl
theorem FK {m n:Nat}{Q:DescSt->SortSt->Prop}(C:Cm prog w A s kd a₀ ρ) (o:Ok kd a₀ st) (hn:n<=a₀.size) (h1:1<=m) (hm:m<=n) (d:Dn ρ (arrOf st) m)
  (h:∀ k e z,Ok kd a₀ z->m<=k->k<=n->Dn ρ (arrOf z) k->Lk ρ (arrOf z) k e->Q (none,k,e) z):wpS (model prog w) A E s (descLoop m n) Q st:=by
 unfold descLoop
 refine wpS_forRange (λk c z=>∃ e,c=(none,k,e)/\Ok kd a₀ z/\Dn ρ (arrOf z) k/\Lk ρ (arrOf z) k e) ?_ ?_ ⟨0,rfl,o,d,h1,λi i1 i2=>by rw [show i=m - 1 by omega]⟩
 ·rintro k c z l1 l2 ⟨e,rfl,oz,dz,lz⟩
  refine wpS_bind (gP C oz (by dsimp only;omega) (by dsimp only;omega) ?_)
  dsimp only
  have Of:∀ xs:Array Keyed,(∀ i,rk ρ xs i=rk ρ (arrOf z) i)->rk ρ (arrOf z) k<=rk ρ (arrOf z) (k - 1)->Dn ρ xs (k+1):=λxs hx le i j ij jk=>by
   rw [hx,hx]
   rcases Nat.lt_or_ge j k with q|q
   ·exact dz i j ij q
   ·obtain rfl:j=k:=by omega
    rcases Nat.lt_or_ge i j with q|q
    ·have:=dz i (j - 1) (by omega) (by omega)
     omega
    ·obtain rfl:i=j:=by omega
     exact Nat.le_refl _
  by_cases g:rk ρ (arrOf z) k<rk ρ (arrOf z) (k - 1)
  ·rw [decide_eq_true g]
   simp only [if_true]
   split
   ·refine wpS_bind (wpS_reverse (wpS_pure ⟨0,rfl,oz.arr (mirror_perm _ _ _ _),Of _ (lz.rev (by rw [oz.sz];omega)) (by omega),by omega,λi i1 i2=>by rw [show i=k+1 - 1 by omega]⟩))
   ·exact wpS_pure ⟨0,rfl,oz,Of _ (λ_=>rfl) (by omega),by omega,λi i1 i2=>by rw [show i=k+1 - 1 by omega]⟩
  ·rw [decide_eq_false g]
   simp only [Bool.false_eq_true,if_false]
   refine wpS_bind (gP C oz (by omega) (by omega) ?_)
   by_cases g2:rk ρ (arrOf z) (k - 1)<rk ρ (arrOf z) k
   ·rw [decide_eq_true g2]
    simp only [if_true]
    exact wpS_pure (h k e z oz l1 (by omega) dz lz)
   ·rw [decide_eq_false g2]
    simp only [Bool.false_eq_true,if_false]
    refine wpS_pure ⟨e+1,rfl,oz,Of _ (λ_=>rfl) (by omega),by have:=lz.1;omega,λi i1 i2=>?_⟩
    rw [show k+1 - 1=k by omega]
    rcases Nat.lt_or_ge i k with q|q
    ·rw [lz.2 i (by omega) q];omega
    ·rw [show i=k by omega]
 ·rintro c z ⟨e,rfl,oz,dz,lz⟩
  rw [Nat.max_eq_right hm] at dz lz ⊢
  exact h n e z oz hm (Nat.le_refl _) dz lz
theorem qf {m n:Nat}{Q:Option Nat->SortSt->Prop}(C:Cm prog w A s kd a₀ ρ) (o:Ok kd a₀ st) (hn:n<=a₀.size) (hm:m+1<=n) (d:Dn ρ (arrOf st) (m+1))
  (h:∀ k z,Ok kd a₀ z->1<=k->k<=n->Up ρ (arrOf z) k->Q (some k) z):wpS (model prog w) A E s (descPart m n) Q st:=by
 unfold descPart
 refine wpS_bind (wpS_lift (wpAny_rule ⟨rfl,wpS_bind (FK C o hn (by omega) hm d λk e z oz k1 k2 dz lz=>?_)⟩))
 dsimp only
 split
 ·refine wpS_bind (wpS_reverse (tT C (oz.arr (mirror_perm _ _ _ _)) hn (by omega) k2 (λi j ij jk=>?_) h))
  have e:=lz.rev (by rw [oz.sz];omega)
  show rk ρ (mirror _ _ _ _) j<=rk ρ (mirror _ _ _ _) i
  rw [e,e]
  exact dz i j ij jk
 ·exact tT C oz hn (by omega) k2 dz h
theorem CS {n:Nat}{Q:Option Nat->SortSt->Prop}(C:Cm prog w A s kd a₀ ρ) (o:Ok kd a₀ st) (hn:n<=a₀.size) (h1:1<=n)
  (h:∀ k z,Ok kd a₀ z->1<=k->k<=n->Up ρ (arrOf z) k->Q (some k) z):wpS (model prog w) A E s (countRun' 0 n) Q st:=by
 rw [countRun0_eq]
 refine wpS_bind (vg C o hn (Nat.le_refl _) h1 (λi j ij j1=>by rw [show i=j by omega];exact Nat.le_refl _) λm m1 m2 um lm=>?_)
 dsimp only
 split
 ·rename_i q
  exact wpS_pure (h m st o m1 m2 um)
 ·rename_i q
  have mn:m<n:=by
   rcases Nat.lt_or_ge m n with z|z
   ·exact z
   ·exact (q (beq_iff_eq.mpr (by omega))).elim
  have gm:=lm mn
  split
  ·refine wpS_bind (gP C o (by omega) (by omega) ?_)
   dsimp only
   by_cases g:rk ρ (arrOf st) 0<rk ρ (arrOf st) (m - 1)
   ·rw [decide_eq_true g]
    exact wpS_pure (h m st o m1 m2 um)
   ·rw [decide_eq_false g]
    refine wpS_bind (wpS_reverse (qf C (o.arr (mirror_perm _ _ _ _)) hn mn (λi j ij jm=>?_) h))
    have all:∀ i,i<m->rk ρ (arrOf st) i=rk ρ (arrOf st) (m - 1):=λi im=>by
     have a1:=um 0 i (by omega) im
     have a2:=um i (m - 1) (by omega) (by omega)
     omega
    show rk ρ (mirror _ _ _ _) j<=rk ρ (mirror _ _ _ _) i
    rw [gO (by rw [o.sz];omega),gO (by rw [o.sz];omega)]
    rcases Nat.lt_or_ge j m with q1|q1
    ·rw [if_pos (by omega),if_pos (by omega),all _ (by omega),all (0+m - 1 - i) (by omega)]
     exact Nat.le_refl _
    ·obtain rfl:j=m:=by omega
     rw [if_neg (by omega)]
     split
     ·rw [all (0+j - 1 - i) (by omega)];omega
     ·rw [show i=j by omega];exact Nat.le_refl _
  ·refine qf C o hn mn (λi j ij jm=>?_) h
   obtain rfl:m=1:=by omega
   rcases Nat.lt_or_ge i j with q1|q1
   ·obtain ⟨rfl,rfl⟩:i=0/\j=1:=by omega
    exact Nat.le_of_lt gm
   ·rw [show i=j by omega];exact Nat.le_refl _
theorem Jr {n ok:Nat}{Q:Bool->SortSt->Prop}(C:Cm prog w A s kd a₀ ρ) (o:Ok kd a₀ st) (hn:n<=a₀.size) (hk:ok<=n) (u:Up ρ (arrOf st) ok)
  (h:∀ z,Ok kd a₀ z->Up ρ (arrOf z) n->Q true z):wpS (model prog w) A E s (binarySort' 0 n ok) Q st:=by
 rw [binarySort'_eq]
 simp only [Nat.zero_add]
 have first:∀ {k:Nat},k<=max ok 1->Up ρ (arrOf st) k:=fun {k} hk1 i j ij jk=>by
  rcases Nat.lt_or_ge j ok with q|q
  ·exact u i j ij q
  ·rw [show i=j by omega];exact Nat.le_refl _
 refine wpS_bind (wpS_mono (wpS_forRange (λk c z=>c=(none,())/\Ok kd a₀ z/\∀ i,i<=k->i<=n->Up ρ (arrOf z) i) (Q:=λc z=>c=(none,())/\Ok kd a₀ z/\Up ρ (arrOf z) n) ?_ ?_ ⟨rfl,o,λi i1 _=>first i1⟩) ?_)
 ·rintro k c z l1 l2 ⟨rfl,oz,uz⟩
  have uk:=uz k (Nat.le_refl _) (by omega)
  have kz:k<(arrOf z).size:=by rw [oz.sz];omega
  refine wpS_bind (wpS_mono (wpS_forRange
   (λi c y=>y=z/\∃ l r,c=(none,l,r)/\l<=r/\r<=k/\r+i<=l+k/\(∀ j,j<l->rk ρ (arrOf z) j<=rk ρ (arrOf z) k)/\∀ j,r<=j->j<k->rk ρ (arrOf z) k<rk ρ (arrOf z) j)
   (Q:=λc y=>y=z/\∃ l r,c=(none,l,r)/\l<=k/\(∀ j,j<l->rk ρ (arrOf z) j<=rk ρ (arrOf z) k)/\∀ j,l<=j->j<k->rk ρ (arrOf z) k<rk ρ (arrOf z) j) ?_ ?_
   ⟨rfl,0,k,rfl,Nat.zero_le _,Nat.le_refl _,by omega,λj j0=>absurd j0 (Nat.not_lt_zero _),λj j1 j2=>by omega⟩) ?_)
  ·rintro i c y i1 i2 ⟨rfl,l,r,rfl,lr,rk',lk,lo,hi⟩
   dsimp only
   split
   ·obtain rfl:l=r:=by omega
    exact wpS_pure ⟨rfl,l,l,rfl,rk',lo,hi⟩
   ·refine wpS_bind (gP C oz (by omega) (by omega) ?_)
    by_cases g:rk ρ (arrOf y) k<rk ρ (arrOf y) ((l+r) / 2)
    ·rw [decide_eq_true g]
     refine wpS_pure ⟨rfl,l,(l+r) / 2,rfl,by omega,by omega,by omega,lo,λj j1 j2=>?_⟩
     exact Nat.lt_of_lt_of_le g (uk _ _ j1 j2)
    ·rw [decide_eq_false g]
     refine wpS_pure ⟨rfl,(l+r) / 2+1,r,rfl,by omega,rk',by omega,λj j1=>?_,hi⟩
     exact Nat.le_trans (uk _ _ (by omega) (by omega)) (Nat.le_of_not_lt g)
  ·rintro c y ⟨rfl,l,r,rfl,lr,rk',lk,lo,hi⟩
   obtain rfl:l=r:=by omega
   exact ⟨rfl,l,l,rfl,rk',lo,hi⟩
  ·rintro c y ⟨rfl,l,r,rfl,lk,lo,hi⟩
   dsimp only
   rw [moveDown'_eq]
   refine wpS_bind (wpS_modify (wpS_pure ⟨rfl,oz.arr (bubble_perm _ _ _),λm m1 m2 i j ij jm=>?_⟩))
   show rk ρ (bubble (arrOf y) k (k - l)) i<=rk ρ (bubble (arrOf y) k (k - l)) j
   rw [sh kz (by omega),sh kz (by omega),show k - (k - l)=l by omega]
   rcases Nat.lt_trichotomy j l with q|q|q
   ·rw [if_neg (by omega),if_neg (by omega),if_neg (by omega),if_neg (by omega)]
    exact uk _ _ ij (by omega)
   ·rw [if_pos q]
    split
    ·exact Nat.le_refl _
    ·rw [if_neg (by omega)]
     exact lo _ (by omega)
   ·rw [if_neg (show ¬ j=l by omega),if_pos (show l<j/\j<=k by omega)]
    split
    ·exact Nat.le_of_lt (hi _ (by omega) (by omega))
    ·split
     ·exact uk _ _ (by omega) (by omega)
     ·exact uk _ _ (by omega) (by omega)
 ·rintro c z ⟨e,oz,uz⟩
  exact ⟨e,oz,uz n (by omega) (Nat.le_refl _)⟩
 ·rintro c z ⟨rfl,oz,uz⟩
  exact wpS_pure (h z oz uz)
theorem FL {Q:Unit->SortSt->Prop}(C:Cm prog w A s kd a₀ ρ) (o:Ok kd a₀ st) (h2:2<=a₀.size) (PM:a₀.size<64)
  (h:∀ z,(arrOf z).Perm a₀->failedOf z=none->Up ρ (arrOf z) a₀.size->Q () z):wpS (model prog w) A E s sortRuns' Q st:=by
 rw [sortRuns'_eq]
 refine wpS_bind (wpS_get ?_)
 dsimp only
 have run:minRun' a₀.size a₀.size 0=a₀.size:=by
  have:∀ f,0<f->minRun' f a₀.size 0=a₀.size:=λf hf=>by
   cases f with
   |zero=>omega
   |succ f=>rw [minRun'_succ,if_pos PM];rfl
  exact this _ (by omega)
 simp only [o.sz,run]
 let D:SortSt->Prop:=λz=>(arrOf z).Perm a₀/\failedOf z=none/\(pendingOf z).size=1/\Up ρ (arrOf z) a₀.size
 have fin:∀ z,Ok kd a₀ z->Up ρ (arrOf z) a₀.size->D (setPending z ((pendingOf z).push (0,a₀.size,0))):=λz oz uz=>⟨oz.perm,oz.well,by rw [show pendingOf (setPending z ((pendingOf z).push (0,a₀.size,0)))=(pendingOf z).push (0,a₀.size,0) from rfl,oz.runs];rfl,uz⟩
 refine wpS_bind (wpS_mono (wpS_forRange (λk c z=>(k=0/\c=(none,0)/\Ok kd a₀ z)\/(0<k/\c=(none,a₀.size)/\D z)) (Q:=λc z=>c=(none,a₀.size)/\D z) ?_ ?_ (.inl ⟨rfl,rfl,o⟩)) ?_)
 ·rintro k c z l1 l2 (⟨rfl,rfl,oz⟩|⟨k0,rfl,dz⟩)
  ·dsimp only
   rw [if_neg (by omega)]
   simp only [Nat.sub_zero,Nat.min_self,Nat.zero_add]
   refine wpS_bind (CS C oz (Nat.le_refl _) (by omega) λm y oy m1 m2 uy=>?_)
   have Tj:∀ {x:SortSt},Ok kd a₀ x->(pendingOf x).back?=none:=λox=>by rw [ox.runs];rfl
   dsimp only
   split
   ·refine wpS_bind (wpS_lift (wpAny_rule ⟨rfl,wpS_bind (Jr C oy (Nat.le_refl _) m2 uy λx ox ux=>?_)⟩))
    simp only [Bool.not_true,Bool.false_eq_true,if_false]
    refine wpS_bind (wpS_get ?_)
    rw [Tj ox]
    exact wpS_bind (wpS_modify (wpS_pure (.inr ⟨Nat.one_pos,rfl,fin x ox ux⟩)))
   ·obtain rfl:m=a₀.size:=by omega
    refine wpS_bind (wpS_get ?_)
    rw [Tj oy]
    exact wpS_bind (wpS_modify (wpS_pure (.inr ⟨Nat.one_pos,rfl,fin y oy uy⟩)))
  ·dsimp only
   rw [if_pos (Nat.le_refl _)]
   exact wpS_pure ⟨rfl,dz⟩
 ·rintro c z (⟨e,_⟩|⟨_,e,dz⟩)
  ·omega
  ·exact ⟨e,dz⟩
 ·rintro c z ⟨rfl,dz⟩
  dsimp only
  refine wpS_bind (wpS_mono (wpS_forRange (λ_ c y=>y=z/\c=(none,())) (Q:=λc y=>y=z/\c=(none,())) ?_ (λ_ _ e=>e) ⟨rfl,rfl⟩) ?_)
  ·rintro k c y _ _ ⟨rfl,rfl⟩
   refine wpS_bind (wpS_get ?_)
   rw [if_pos (by rw [dz.2.2.1];exact Nat.le_refl 1)]
   exact wpS_pure ⟨rfl,rfl⟩
  ·rintro c y ⟨rfl,rfl⟩
   exact wpS_pure (h _ dz.1 dz.2.1 dz.2.2.2)
end
end S6
namespace S6
open PySem PyProof.Rows PySem.SeqAt
inductive Ky where
 |i (n:Int)|s (x:Str)|tt (v:Bool)|nil|cons (h t:Ky)
 deriving DecidableEq
namespace Ky
mutual
noncomputable def dat:Ky->PyData
 |.i n=>.int n
 |.s x=>.str x
 |.tt v=>.bool v
 |.nil=>.tuple []
 |.cons h t=>.tuple (dat h::row t)
noncomputable def row:Ky->List PyData
 |.cons h t=>dat h::row t
 |_=>[]
end
noncomputable def shp:Ky->Ky->Bool
 |.i _,.i _=>true
 |.s _,.s _=>true
 |.tt _,.tt _=>true
 |.nil,.nil=>true
 |.cons h t,.cons h' t'=>shp h h'&&shp t t'
 |_,_=>false
noncomputable def lt:Ky->Ky->Bool
 |.i a,.i b=>decide (a<b)
 |.s a,.s b=>decide (a.cps.toList<b.cps.toList)
 |.tt a,.tt b=>!a&&b
 |.cons h t,.cons h' t'=>if h=h' then lt t t' else lt h h'
 |_,_=>false
noncomputable def ok:Ky->Bool
 |.cons h t=>ok h&&ok t&&isRow t
 |_=>true
where isRow:Ky->Bool
 |.nil=>true
 |.cons _ _=>true
 |_=>false
noncomputable def dep:Ky->Nat
 |.nil=>1
 |.cons h t=>max (dep h+1) (dep t)
 |_=>0
theorem bY {h t h' t':Ky}:shp (.cons h t) (.cons h' t')=(shp h h'&&shp t t'):=rfl
theorem b7 {a b:Int}:lt (.i a) (.i b)=decide (a<b):=rfl
theorem b8 {a b:Str}:lt (.s a) (.s b)=decide (a.cps.toList<b.cps.toList):=rfl
theorem b9 {a b:Bool}:lt (.tt a) (.tt b)=(!a&&b):=rfl
theorem bA {h t h' t':Ky}:lt (.cons h t) (.cons h' t')=if h=h' then lt t t' else lt h h':=rfl
theorem eM {h t:Ky}:ok (.cons h t)=(ok h&&ok t&&ok.isRow t):=rfl
theorem jI {h t:Ky}:dep (.cons h t)=max (dep h+1) (dep t):=rfl
theorem FM {a b:Str}(h:a≠b):a.cps.toList≠b.cps.toList:=λe=>h (by
 cases a;cases b
 simp only [Str.mk.injEq] at h ⊢
 exact Array.toList_inj.mp e)
theorem tri:∀ {x y:Ky},shp x y=true->lt x y=true\/x=y\/lt y x=true
 |.i a,.i b,_=>by
  simp only [b7,b8,b9,bA,decide_eq_true_eq,Ky.i.injEq];omega
 |.s a,.s b,_=>by
  simp only [b7,b8,b9,bA,decide_eq_true_eq,Ky.s.injEq]
  by_cases e:a=b
  ·exact .inr (.inl e)
  ·by_cases l:a.cps.toList<b.cps.toList
   ·exact .inl l
   ·refine .inr (.inr ?_)
    rcases List.le_iff_lt_or_eq.mp (List.not_lt.mp l) with z|z
    ·exact z
    ·exact (FM e z.symm).elim
 |.tt a,.tt b,_=>by cases a<;>cases b<;>simp [b7,b8,b9,bA]
 |.nil,.nil,_=>.inr (.inl rfl)
 |.cons h t,.cons h' t',e=>by
  simp only [bY,Bool.and_eq_true] at e
  by_cases q:h=h'
  ·subst q
   rcases tri e.2 with z|z|z
   ·exact .inl (by simp [b7,b8,b9,bA,z])
   ·exact .inr (.inl (by rw [z]))
   ·exact .inr (.inr (by simp [b7,b8,b9,bA,z]))
  ·rcases tri e.1 with z|z|z
   ·exact .inl (by simp [b7,b8,b9,bA,q,z])
   ·exact (q z).elim
   ·exact .inr (.inr (by simp [b7,b8,b9,bA,Ne.symm q,z]))
theorem irr:∀ x:Ky,lt x x=false
 |.i _=>by simp [b7,b8,b9,bA]
 |.s x=>by simp only [b7,b8,b9,bA,decide_eq_false_iff_not];exact List.lt_irrefl _
 |.tt v=>by cases v<;>rfl
 |.nil=>rfl
 |.cons h t=>by simp [b7,b8,b9,bA,irr t]
theorem trans:∀ {x y z:Ky},shp x y=true->shp y z=true->lt x y=true->lt y z=true->lt x z=true
 |.i a,.i b,.i c,_,_,p,q=>by simp only [b7,b8,b9,bA,decide_eq_true_eq] at *;omega
 |.s a,.s b,.s c,_,_,p,q=>by simp only [b7,b8,b9,bA,decide_eq_true_eq] at *;exact List.lt_trans p q
 |.tt a,.tt b,.tt c,_,_,p,q=>by cases a<;>cases b<;>cases c<;>simp [b7,b8,b9,bA] at *
 |.cons h t,.cons h' t',.cons h2 t2,e,f,p,q=>by
  simp only [bY,Bool.and_eq_true] at e f
  simp only [b7,b8,b9,bA] at p q ⊢
  by_cases a:h=h'
  ·subst a
   rw [if_pos rfl] at p
   by_cases b:h=h2
   ·subst b
    rw [if_pos rfl] at q ⊢
    exact trans e.2 f.2 p q
   ·rw [if_neg b] at q ⊢;exact q
  ·rw [if_neg a] at p
   by_cases b:h'=h2
   ·subst b
    rw [if_neg a];exact p
   ·rw [if_neg b] at q
    have:=trans e.1 f.1 p q
    rw [if_neg (λz=>by rw [z,irr] at this;cases this)]
    exact this
theorem Lp {x y:Ky}(h:shp x y=true) (p:lt x y=true):lt y x=false:=by
 cases q:lt y x with
 |false=>rfl
 |true =>
  have h':shp y x=true:=by
   have:∀ {a b:Ky},shp a b=true->shp b a=true:=by
    intro a
    induction a with
    |cons u v iu iv =>
     intro b e
     cases b with
     |cons=>simp only [bY,Bool.and_eq_true] at e ⊢;exact ⟨iu e.1,iv e.2⟩
     |_=>cases e
    |_=>intro b e;cases b<;>first|rfl|cases e
   exact this h
  have:=trans h h' p q
  rw [irr] at this;cases this
theorem qZ:∀ {a b:Ky},shp a b=true->shp b a=true:=by
 intro a
 induction a with
 |cons u v iu iv =>
  intro b e
  cases b with
  |cons=>simp only [bY,Bool.and_eq_true] at e ⊢;exact ⟨iu e.1,iv e.2⟩
  |_=>cases e
 |_=>intro b e;cases b<;>first|rfl|cases e
theorem jb:∀ {x y:Ky},shp x y=true->ok x=true->PyData.eqv (dat x) (dat y)=decide (x=y)/\(ok.isRow x=true->PyData.eqvAll (row x) (row y)=decide (x=y))
 |.i a,.i b,_,_=>⟨by simp only [dat,PyData.eqv,Ky.i.injEq];rfl,λh=>by cases h⟩
 |.s a,.s b,_,_=>⟨by simp only [dat,PyData.eqv,Ky.s.injEq];rfl,λh=>by cases h⟩
 |.tt a,.tt b,_,_=>⟨by cases a<;>cases b<;>rfl,λh=>by cases h⟩
 |.nil,.nil,_,_=>⟨rfl,λ_=>rfl⟩
 |.cons h t,.cons h' t',e,o=>by
  simp only [bY,Bool.and_eq_true] at e
  simp only [eM,Bool.and_eq_true] at o
  have h1:=(jb e.1 o.1.1).1
  have h2:=(jb e.2 o.1.2).2 o.2
  have z:PyData.eqvAll (dat h::row t) (dat h'::row t')=decide (Ky.cons h t=Ky.cons h' t'):=by
   simp only [PyData.eqvAll,h1,h2,Ky.cons.injEq,Bool.decide_and]
  exact ⟨by simp only [dat,PyData.eqv];exact z,λ_=>by simp only [row];exact z⟩
end Ky
end S6
namespace S6
open PySem PyProof.Rows PySem.SeqAt
theorem tU {α:Type}{p q:α->Bool}{x:α}:∀ {l:List α},(∀ z∈l,p z=true->q z=true)->x∈l->p x=false->q x=true->l.countP p<l.countP q
 |[],_,h,_,_=>by cases h
 |y::l,m,h,px,qx=>by
  have ml:∀ z∈l,p z=true->q z=true:=λz hz=>m z (List.mem_cons_of_mem _ hz)
  have le:=List.countP_mono_left ml
  rw [List.countP_cons,List.countP_cons]
  rcases List.mem_cons.mp h with rfl|h
  ·simp only [px,qx,Bool.false_eq_true,if_false,if_true];omega
  ·have ih:=tU ml h px qx
   have:(if p y=true then 1 else 0)<=if q y=true then 1 else 0:=by
    split
    ·rw [if_pos (m y (List.mem_cons_self ..) ‹_›)];exact Nat.le_refl _
    ·exact Nat.zero_le _
   omega
def rnk (ks:List Ky) (x:Ky):Nat:=ks.countP λz=>Ky.lt z x
theorem tV {ks:List Ky}(hs:∀ x∈ks,∀ y∈ks,Ky.shp x y=true){x y:Ky}(hx:x∈ks) (hy:y∈ks):decide (rnk ks x<rnk ks y)=Ky.lt x y:=by
 cases e:Ky.lt x y with
 |true=>exact decide_eq_true (tU (λz hz l=>Ky.trans (hs z hz x hx) (hs x hx y hy) l e) hx (Ky.irr x) e)
 |false =>
  refine decide_eq_false (Nat.not_lt.mpr (List.countP_mono_left λz hz l=>?_))
  rcases Ky.tri (hs x hx y hy) with q|q|q
  ·rw [e] at q;cases q
  ·rw [q];exact l
  ·exact Ky.trans (hs z hz y hy) (hs y hy x hx) l q
inductive Cp where
 |lt|gt|ge
def cop:Cp->CmpOp
 |.lt=>.Lt
 |.gt=>.Gt
 |.ge=>.GtE
noncomputable def gl (g:Cp) (x y:Ky):Bool:=match g with
 |.lt=>Ky.lt x y
 |.gt=>Ky.lt y x
 |.ge=>!Ky.lt x y
def j4:CmpOp->Bool
 |.GtE=>true
 |_=>false
def cW (A:Around) (s:Shared) (op:CmpOp) (x y:Value) (c:Bool):Prop :=
 ∀ (prog:Program) (w:World) (E:Value->Shared->Prop) (Q:Value->Shared->Prop),Q (.bool c) s->wpAny (model prog w) A (richCompare op x y) Q E s
inductive LexAt (A:Around) (s:Shared) (op:CmpOp):List Value->List Value->Bool->Prop
 |nil:LexAt A s op [] [] (j4 op)
 |same {x y xs ys c}:EqAt A s x y true->LexAt A s op xs ys c->LexAt A s op (x::xs) (y::ys) c
 |diff {x y xs ys c}:EqAt A s x y false->cW A s op x y c->LexAt A s op (x::xs) (y::ys) c
noncomputable def gD (op:CmpOp) (us vs:List Value) (n m:Nat):Sem Fin:=do
 for (x,y) in us.zip vs do
  if !(<- eqBool x y) then
   rule "tuple.compare.by-the-first-pair-that-differs";return <- ret (<- richCompare op x y)
 ret (Builtin.Tuple.tupleCompareSizes op n m)
theorem zD (a b:Value):Builtin.«tuple.__lt__» ⟨[a,b],[]⟩=(do
  if !(<- isInstance b (.type "tuple")) then return <- ret .notImplemented
  let xs <- Builtin.Tuple.tupleItemsOf a
  let ys <- Builtin.Tuple.tupleItemsOf b
  gD .Lt xs.toList ys.toList xs.size ys.size):=rfl
theorem zE (a b:Value):Builtin.«tuple.__ge__» ⟨[a,b],[]⟩=(do
  if !(<- isInstance b (.type "tuple")) then return <- ret .notImplemented
  let xs <- Builtin.Tuple.tupleItemsOf a
  let ys <- Builtin.Tuple.tupleItemsOf b
  gD .GtE xs.toList ys.toList xs.size ys.size):=rfl
theorem zF (a b:Value):Builtin.«tuple.__gt__» ⟨[a,b],[]⟩=(do
  if !(<- isInstance b (.type "tuple")) then return <- ret .notImplemented
  let xs <- Builtin.Tuple.tupleItemsOf a
  let ys <- Builtin.Tuple.tupleItemsOf b
  gD .Gt xs.toList ys.toList xs.size ys.size):=rfl
section
variable {A:Around}{s:Shared}
theorem m8 {g:Cp}{prog:Program}{w:World}{E:Value->Shared->Prop}{P:Fin->Shared->Prop}{us vs:List Value}{c:Bool}(L:LexAt A s (cop g) us vs c){n m:Nat}(hnm:n=m)
  (h:P (.done (.ret (.bool c))) s):wpAny (model prog w) A (gD (cop g) us vs n m) P E s:=by
 unfold gD
 refine wpAny_bind ?_
 refine wpAny_forIn_list _ (λrest r z=>r.1=none/\z=s/\∃ Pz OJ,rest=Pz.zip OJ/\LexAt A s (cop g) Pz OJ c) _ ?_ ?_ _ _ ⟨rfl,rfl,us,vs,rfl,L⟩
 ·rintro ⟨x,y⟩ rest r z ⟨hr,rfl,Pz,OJ,hz,L'⟩
  cases L' with
  |nil=>simp at hz
  |same e L2 =>
   simp only [List.zip_cons_cons,List.cons.injEq,Prod.mk.injEq] at hz
   obtain ⟨⟨rfl,rfl⟩,rfl⟩:=hz
   refine wpAny_bind (e prog w _ _ ?_)
   exact wpAny_pure ⟨rfl,rfl,_,_,rfl,L2⟩
  |diff e cm =>
   simp only [List.zip_cons_cons,List.cons.injEq,Prod.mk.injEq] at hz
   obtain ⟨⟨rfl,rfl⟩,rfl⟩:=hz
   refine wpAny_bind (e prog w _ _ ?_)
   refine wpAny_bind (wpAny_rule (wpAny_bind (cm prog w _ _ ?_)))
   exact wpAny_bind (wpAny_pure (wpAny_pure (wpAny_pure h)))
 ·rintro ⟨r1,r2⟩ z ⟨hr,rfl,Pz,OJ,hz,L'⟩
  simp only at hr
  subst hr
  have hc:c=j4 (cop g):=by
   cases L' with
   |nil=>rfl
   |same _ _=>simp at hz
   |diff _ _=>simp at hz
  subst hc hnm
  have e:Builtin.Tuple.tupleCompareSizes (cop g) n n=.bool (j4 (cop g)):=by cases g<;>simp [cop,j4,Builtin.Tuple.tupleCompareSizes]
  show wpAny _ _ (ret (Builtin.Tuple.tupleCompareSizes (cop g) n n)) P E _
  rw [e]
  exact wpAny_pure h
theorem yM {g:Cp}{l m:Addr}{o u:Obj}{xs ys:Array Value}{n k:Nat}{c:Bool}(h1:s.heap.get? l=some o) (c1:o.cls=.type "tuple") (d1:o.data=.seq xs n)
  (h2:s.heap.get? m=some u) (c2:u.cls=.type "tuple") (d2:u.data=.seq ys k) (hu:A.units<cLine) (L:LexAt A.in1 s (cop g) xs.toList ys.toList c) (hs:xs.size=ys.size):cW A s (cop g) (.ref l) (.ref m) c:=by
 intro prog w E Q q
 have t1:s.TypeIs (.ref l) "tuple":=⟨o,h1,c1⟩
 have t2:s.TypeIs (.ref m) "tuple":=⟨u,h2,c2⟩
 cases g with
 |lt =>
  refine wpAny_richCompare_same_room (op:=.Lt) t1 t2 F.slot_tuple_lt (wpAny_call_entry F.slot_tuple_lt t1 F.entry_tuple_lt ?_ (F.args_tuple_lt_2 _ _)) hu
  rw [zD]
  refine wpAny_bind (wpAny_isInstance t2 isSubtype_tuple_tuple ?_)
  simp only [Bool.not_true,Bool.false_eq_true,if_false]
  refine wpAny_bind (wpAny_tupleItemsOf h1 d1 (wpAny_bind (wpAny_tupleItemsOf h2 d2 ?_)))
  exact m8 (g:=.lt) L hs ⟨_,rfl,by simp,q⟩
 |gt =>
  refine wpAny_richCompare_same_room (op:=.Gt) t1 t2 F.slot_tuple_gt (wpAny_call_entry F.slot_tuple_gt t1 F.entry_tuple_gt ?_ (F.args_tuple_gt_2 _ _)) hu
  rw [zF]
  refine wpAny_bind (wpAny_isInstance t2 isSubtype_tuple_tuple ?_)
  simp only [Bool.not_true,Bool.false_eq_true,if_false]
  refine wpAny_bind (wpAny_tupleItemsOf h1 d1 (wpAny_bind (wpAny_tupleItemsOf h2 d2 ?_)))
  exact m8 (g:=.gt) L hs ⟨_,rfl,by simp,q⟩
 |ge =>
  refine wpAny_richCompare_same_room (op:=.GtE) t1 t2 F.slot_tuple_ge (wpAny_call_entry F.slot_tuple_ge t1 F.entry_tuple_ge ?_ (F.args_tuple_ge_2 _ _)) hu
  rw [zE]
  refine wpAny_bind (wpAny_isInstance t2 isSubtype_tuple_tuple ?_)
  simp only [Bool.not_true,Bool.false_eq_true,if_false]
  refine wpAny_bind (wpAny_tupleItemsOf h1 d1 (wpAny_bind (wpAny_tupleItemsOf h2 d2 ?_)))
  exact m8 (g:=.ge) L hs ⟨_,rfl,by simp,q⟩
theorem AR {g:Cp}(a b:Int) (t u:Tok):cW A s (cop g) (.int a t) (.int b u) (gl g (.i a) (.i b)):=by
 intro prog w E Q q
 cases g with
 |lt=>exact lt_int (A:=A) q
 |gt=>exact gt_int (A:=A) q
 |ge =>
  have e:gl .ge (.i a) (.i b)=decide (b<=a):=by
   show (!decide (a<b))=_
   rw [Bool.eq_iff_iff]
   simp only [Bool.not_eq_true',decide_eq_false_iff_not,decide_eq_true_eq,Int.not_lt]
  rw [e] at q
  exact PySem.P.ge_int (A:=A) q
theorem zG {g:Cp}(a b:Bool):cW A s (cop g) (.bool a) (.bool b) (gl g (.tt a) (.tt b)):=by
 intro prog w E Q q
 cases g with
 |lt =>
  have q':Q (.bool (decide (b2i a<b2i b))) s:=by
   rw [show decide (b2i a<b2i b)=gl .lt (.tt a) (.tt b) by cases a<;>cases b<;>rfl];exact q
  exact lt_bool (A:=A) q'
 |gt =>
  have q':Q (.bool (decide (b2i a>b2i b))) s:=by
   rw [show decide (b2i a>b2i b)=gl .gt (.tt a) (.tt b) by cases a<;>cases b<;>rfl];exact q
  exact gt_bool (A:=A) q'
 |ge =>
  have q':Q (.bool (decide (b2i a≥b2i b))) s:=by
   rw [show decide (b2i a≥b2i b)=gl .ge (.tt a) (.tt b) by cases a<;>cases b<;>rfl];exact q
  exact ge_bool (A:=A) q'
theorem AS {g:Cp}(a b:Str) (t u:Tok):cW A s (cop g) (.str a t) (.str b u) (gl g (.s a) (.s b)):=by
 intro prog w E Q q
 cases g with
 |lt=>exact lt_str (A:=A) q
 |gt=>exact PySem.P.gt_str (A:=A) q
 |ge=>exact PySem.P.ge_str (A:=A) q
theorem CT {g:Cp}{h t h' t':Ky}:gl g (.cons h t) (.cons h' t')=if h=h' then gl g t t' else gl g h h':=by
 cases g with
 |lt=>show Ky.lt _ _=if h=h' then Ky.lt t t' else Ky.lt h h';rw [Ky.bA]
 |gt =>
  show Ky.lt _ _=if h=h' then Ky.lt t' t else Ky.lt h' h
  rw [Ky.bA]
  by_cases e:h=h'
  ·rw [if_pos e,if_pos e.symm]
  ·rw [if_neg e,if_neg (Ne.symm e)]
 |ge =>
  show (!Ky.lt _ _)=if h=h' then !Ky.lt t t' else !Ky.lt h h'
  rw [Ky.bA]
  by_cases e:h=h'
  ·rw [if_pos e,if_pos e]
  ·rw [if_neg e,if_neg e]
end
theorem cb {h:Heap}{a:Value}{n:Int}{as:List Addr}(r:Reads h a (.int n) as):∃ t,a=.int n t:=by cases r;exact ⟨_,rfl⟩
theorem cc {h:Heap}{a:Value}{n:Str}{as:List Addr}(r:Reads h a (.str n) as):∃ t,a=.str n t:=by cases r;exact ⟨_,rfl⟩
theorem cw {h:Heap}{a:Value}{n:Bool}{as:List Addr}(r:Reads h a (.bool n) as):a=.bool n:=by cases r;rfl
theorem bj {h:Heap}{a:Value}{ds:List PyData}{as:List Addr}(r:Reads h a (.tuple ds) as):∃ (l:Addr) (o:Obj) (vs:Array Value) (n:Nat),a=.ref l/\h.get? l=some o/\o.cls=.type "tuple" /\ o.data=.seq vs n/\ReadsAll h vs.toList ds as:=by
 cases r with
 |tuple a1 a2 a3 a4=>exact ⟨_,_,_,_,rfl,a1,a2,a3,a4⟩
theorem dQ {h:Heap}{us:List Value}{d:PyData}{ds:List PyData}{as:List Addr}(r:ReadsAll h us (d::ds) as):∃ u vs a1 a2,us=u::vs/\Reads h u d a1/\ReadsAll h vs ds a2:=by
 cases r with
 |cons r1 r2=>exact ⟨_,_,_,_,rfl,r1,r2⟩
theorem qG:∀ {x y:Ky}{h:Heap},Ky.ok x=true->Ky.ok y=true->(∀ {a:Value}{as bs:List Addr},Reads h a x.dat as->Reads h a y.dat bs->x=y) /\
  (∀ {us:List Value}{as bs:List Addr},Ky.ok.isRow x=true->Ky.ok.isRow y=true->ReadsAll h us x.row as->ReadsAll h us y.row bs->x=y):=by
 intro x
 induction x with
 |i n =>
  intro y h _ oy
  refine ⟨fun {a as bs} r q=>?_,fun {us as bs} z=>by cases z⟩
  obtain ⟨t,rfl⟩:=cb r
  cases y with
  |i m=>obtain ⟨_,e⟩:=cb q;cases e;rfl
  |s m=>obtain ⟨_,e⟩:=cc q;cases e
  |tt m=>have e:=cw q;cases e
  |nil=>obtain ⟨_,_,_,_,e,_⟩:=bj q;cases e
  |cons u v=>obtain ⟨_,_,_,_,e,_⟩:=bj q;cases e
 |s n =>
  intro y h _ oy
  refine ⟨fun {a as bs} r q=>?_,fun {us as bs} z=>by cases z⟩
  obtain ⟨t,rfl⟩:=cc r
  cases y with
  |i m=>obtain ⟨_,e⟩:=cb q;cases e
  |s m=>obtain ⟨_,e⟩:=cc q;cases e;rfl
  |tt m=>have e:=cw q;cases e
  |nil=>obtain ⟨_,_,_,_,e,_⟩:=bj q;cases e
  |cons u v=>obtain ⟨_,_,_,_,e,_⟩:=bj q;cases e
 |tt n =>
  intro y h _ oy
  refine ⟨fun {a as bs} r q=>?_,fun {us as bs} z=>by cases z⟩
  obtain rfl:=cw r
  cases y with
  |i m=>obtain ⟨_,e⟩:=cb q;cases e
  |s m=>obtain ⟨_,e⟩:=cc q;cases e
  |tt m=>have e:=cw q;cases e;rfl
  |nil=>obtain ⟨_,_,_,_,e,_⟩:=bj q;cases e
  |cons u v=>obtain ⟨_,_,_,_,e,_⟩:=bj q;cases e
 |nil =>
  intro y h _ oy
  have go:∀ {us:List Value}{as bs:List Addr},Ky.ok.isRow y=true->ReadsAll h us [] as->ReadsAll h us y.row bs->Ky.nil=y:=fun {us as bs} z r q=>by
   cases r
   cases y with
   |nil=>rfl
   |cons u v=>simp only [Ky.row] at q;cases q
   |_=>cases z
  refine ⟨fun {a as bs} r q=>?_,fun {us as bs} _ z r q=>go z (by simpa only [Ky.row] using r) q⟩
  obtain ⟨l,o,vs,n,rfl,a1,a2,a3,a4⟩:=bj r
  cases y with
  |nil=>rfl
  |cons u v =>
   obtain ⟨l',o',OJ,n',e,b1,b2,b3,b4⟩:=bj q
   cases e
   rw [a1] at b1;cases b1
   rw [a3] at b3;cases b3
   exact go rfl a4 b4
  |i n=>obtain ⟨_,e⟩:=cb q;cases e
  |s n=>obtain ⟨_,e⟩:=cc q;cases e
  |tt n=>have e:=cw q;cases e
 |cons u v iu iv =>
  intro y h ox oy
  simp only [Ky.eM,Bool.and_eq_true] at ox
  have go:∀ {us:List Value}{as bs:List Addr},Ky.ok.isRow y=true->ReadsAll h us (u.dat::v.row) as->ReadsAll h us y.row bs->Ky.cons u v=y:=fun {us as bs} z r q=>by
   cases y with
   |nil=>simp only [Ky.row] at q;cases q;cases r
   |cons u' v' =>
    simp only [Ky.eM,Bool.and_eq_true] at oy
    simp only [Ky.row] at q
    obtain ⟨_,_,_,_,rfl,r1,r2⟩:=dQ r
    obtain ⟨_,_,_,_,e,q1,q2⟩:=dQ q
    cases e
    rw [(iu ox.1.1 oy.1.1).1 r1 q1,(iv ox.1.2 oy.1.2).2 ox.2 oy.2 r2 q2]
   |_=>cases z
  refine ⟨fun {a as bs} r q=>?_,fun {us as bs} _ z r q=>go z (by simpa only [Ky.row] using r) q⟩
  obtain ⟨l,o,vs,n,rfl,a1,a2,a3,a4⟩:=bj r
  have tup:∀ {ds:List PyData}{bs:List Addr},Reads h (.ref l) (.tuple ds) bs->ReadsAll h vs.toList ds bs:=fun {ds bs} q=>by
   obtain ⟨l',o',OJ,n',e,b1,b2,b3,b4⟩:=bj q
   cases e
   rw [a1] at b1;cases b1
   rw [a3] at b3;cases b3
   exact b4
  cases y with
  |nil=>exact go rfl a4 (tup q)
  |cons u' v'=>exact go rfl a4 (tup q)
  |i n=>obtain ⟨_,e⟩:=cb q;cases e
  |s n=>obtain ⟨_,e⟩:=cc q;cases e
  |tt n=>have e:=cw q;cases e
theorem CU:∀ (x:Ky),
  (∀ {y:Ky}{A:Around}{s:Shared}{a b:Value}{as bs:List Addr},Ky.shp x y=true->Ky.ok x=true->Ky.ok y=true->Reads s.heap a x.dat as->Reads s.heap b y.dat bs->A.units+x.dep<cLine->EqAt A s a b (decide (x=y))) /\
  (∀ {y:Ky}{A:Around}{s:Shared}{us vs:List Value}{as bs:List Addr},Ky.ok.isRow x=true->Ky.shp x y=true->Ky.ok x=true->Ky.ok y=true->ReadsAll s.heap us x.row as->ReadsAll s.heap vs y.row bs->A.units+x.dep<=cLine ->
   ∀ j (h1:j<us.length) (h2:j<vs.length),EqAt A s us[j] vs[j] (pairEq x.row y.row j)):=by
 have tup:∀ {x y:Ky}{A:Around}{s:Shared}{l m:Addr}{o u:Obj}{xs ys:Array Value}{n k:Nat}{as bs:List Addr},
   (∀ {y:Ky}{A:Around}{s:Shared}{us vs:List Value}{as bs:List Addr},Ky.ok.isRow x=true->Ky.shp x y=true->Ky.ok x=true->Ky.ok y=true->ReadsAll s.heap us x.row as->ReadsAll s.heap vs y.row bs->A.units+x.dep<=cLine ->
    ∀ j (h1:j<us.length) (h2:j<vs.length),EqAt A s us[j] vs[j] (pairEq x.row y.row j)) ->
   Ky.ok.isRow x=true->Ky.ok.isRow y=true->Ky.shp x y=true->Ky.ok x=true->Ky.ok y=true->s.heap.get? l=some o->o.cls=.type "tuple"->o.data=.seq xs n->ReadsAll s.heap xs.toList x.row as ->
   s.heap.get? m=some u->u.cls=.type "tuple"->u.data=.seq ys k->ReadsAll s.heap ys.toList y.row bs->A.units+x.dep<cLine->EqAt A s (.ref l) (.ref m) (decide (x=y)):=by
  intro x y A s l m o u xs ys n k as bs lp hr hr' hs ox oy a1 a2 a3 a4 b1 b2 b3 b4 hu
  by_cases hll:l=m
  ·subst hll
   rw [a1] at b1;cases b1
   rw [a3] at b3;cases b3
   rw [decide_eq_true ((qG ox oy).2 hr hr' a4 b4)]
   exact EqAt.same _
  ·have n1:xs.size=x.row.length:=by simpa using ReadsAll.length _ _ _ a4
   have n2:ys.size=y.row.length:=by simpa using ReadsAll.length _ _ _ b4
   rw [<- (Ky.jb hs ox).2 hr,<- eqvAll_eq,<- n1,<- n2]
   refine EqAt.of_refs hll (RcAt.tuples ⟨_,a1,a2,_,a3⟩ ⟨_,b1,b2,_,b3⟩ (by omega) λj j1 j2=>?_)
   have:=lp (A:=A.in1) hr hs ox oy a4 b4 (by show A.units+1+x.dep<=cLine;omega) j (by simpa using j1) (by simpa using j2)
   simpa using this
 intro x
 induction x with
 |i a =>
  refine ⟨fun {y A s a' b' as bs} hs ox oy ra rb hu=>?_,fun {y A s us vs as bs} h=>by cases h⟩
  cases y<;>first|cases hs|skip
  obtain ⟨t,rfl⟩:=cb ra
  obtain ⟨u,rfl⟩:=cb rb
  rename_i b
  rw [show decide (Ky.i a=Ky.i b)=(a==b) by rw [Bool.eq_iff_iff];simp]
  exact EqAt.int_int a t b u
 |s a =>
  refine ⟨fun {y A s a' b' as bs} hs ox oy ra rb hu=>?_,fun {y A s us vs as bs} h=>by cases h⟩
  cases y<;>first|cases hs|skip
  obtain ⟨t,rfl⟩:=cc ra
  obtain ⟨u,rfl⟩:=cc rb
  rename_i b
  rw [show decide (Ky.s a=Ky.s b)=(a==b) by rw [Bool.eq_iff_iff];simp]
  exact EqAt.str_str a t b u
 |tt a =>
  refine ⟨fun {y A s a' b' as bs} hs ox oy ra rb hu=>?_,fun {y A s us vs as bs} h=>by cases h⟩
  cases y<;>first|cases hs|skip
  obtain rfl:=cw ra
  obtain rfl:=cw rb
  rename_i b
  rw [show decide (Ky.tt a=Ky.tt b)=(a==b) by rw [Bool.eq_iff_iff];simp]
  exact EqAt.bool_bool a b
 |nil =>
  have lp:∀ {y:Ky}{A:Around}{s:Shared}{us vs:List Value}{as bs:List Addr},Ky.ok.isRow .nil=true->Ky.shp .nil y=true->Ky.ok .nil=true->Ky.ok y=true->ReadsAll s.heap us Ky.nil.row as->ReadsAll s.heap vs y.row bs->A.units+Ky.nil.dep<=cLine ->
    ∀ j (h1:j<us.length) (h2:j<vs.length),EqAt A s us[j] vs[j] (pairEq Ky.nil.row y.row j):=by
   intro y A s us vs as bs _ hs _ _ ra rb _ j h1
   simp only [Ky.row] at ra
   cases ra
   exact absurd h1 (Nat.not_lt_zero _)
  refine ⟨fun {y A s a' b' as bs} hs ox oy ra rb hu=>?_,lp⟩
  cases y<;>first|cases hs|skip
  obtain ⟨_,_,_,_,rfl,a1,a2,a3,a4⟩:=bj ra
  obtain ⟨_,_,_,_,rfl,b1,b2,b3,b4⟩:=bj rb
  exact tup lp rfl rfl rfl rfl rfl a1 a2 a3 a4 b1 b2 b3 b4 hu
 |cons h t ih it =>
  have lp:∀ {y:Ky}{A:Around}{s:Shared}{us vs:List Value}{as bs:List Addr},Ky.ok.isRow (.cons h t)=true->Ky.shp (.cons h t) y=true->Ky.ok (.cons h t)=true->Ky.ok y=true->ReadsAll s.heap us (Ky.cons h t).row as->ReadsAll s.heap vs y.row bs->A.units+(Ky.cons h t).dep<=cLine ->
    ∀ j (h1:j<us.length) (h2:j<vs.length),EqAt A s us[j] vs[j] (pairEq (Ky.cons h t).row y.row j):=by
   intro y A s us vs as bs _ hs ox oy ra rb hu j h1 h2
   cases y with
   |cons h' t' =>
    simp only [Ky.bY,Bool.and_eq_true] at hs
    simp only [Ky.eM,Bool.and_eq_true] at ox oy
    simp only [Ky.jI] at hu
    simp only [Ky.row] at ra rb ⊢
    ·obtain ⟨_,_,_,_,rfl,r,rs⟩:=dQ ra
     ·obtain ⟨_,_,_,_,rfl,r',rs'⟩:=dQ rb
      cases j with
      |zero =>
       have:=ih.1 (A:=A) hs.1 ox.1.1 oy.1.1 r r' (by omega)
       rw [<- (Ky.jb hs.1 ox.1.1).1] at this
       exact this
      |succ j=>exact it.2 (A:=A) ox.2 hs.2 ox.1.2 oy.1.2 rs rs' (by omega) j (Nat.lt_of_succ_lt_succ h1) (Nat.lt_of_succ_lt_succ h2)
   |_=>cases hs
  refine ⟨fun {y A s a' b' as bs} hs ox oy ra rb hu=>?_,lp⟩
  cases y with
  |cons h' t' =>
   obtain ⟨_,_,_,_,rfl,a1,a2,a3,a4⟩:=bj ra
   obtain ⟨_,_,_,_,rfl,b1,b2,b3,b4⟩:=bj rb
   exact tup lp rfl rfl hs ox oy a1 a2 a3 a4 b1 b2 b3 b4 hu
  |_=>cases hs
theorem p7 {x y:Ky}{A:Around}{s:Shared}{a b:Value}{as bs:List Addr}(h:Ky.shp x y=true) (ox:Ky.ok x=true) (oy:Ky.ok y=true) (ra:Reads s.heap a x.dat as) (rb:Reads s.heap b y.dat bs) (hu:A.units+x.dep<cLine) :
  EqAt A s a b (decide (x=y)):=(CU x).1 h ox oy ra rb hu
theorem mJ (g:Cp):∀ (x:Ky),
  (∀ {y:Ky}{A:Around}{s:Shared}{a b:Value}{as bs:List Addr},Ky.shp x y=true->Ky.ok x=true->Ky.ok y=true->Reads s.heap a x.dat as->Reads s.heap b y.dat bs->A.units+x.dep+1<cLine->cW A s (cop g) a b (gl g x y)) /\
  (∀ {y:Ky}{A:Around}{s:Shared}{us vs:List Value}{as bs:List Addr},Ky.ok.isRow x=true->Ky.shp x y=true->Ky.ok x=true->Ky.ok y=true->ReadsAll s.heap us x.row as->ReadsAll s.heap vs y.row bs->A.units+x.dep<cLine ->
   LexAt A s (cop g) us vs (gl g x y)/\us.length=vs.length):=by
 have tup:∀ {x y:Ky}{A:Around}{s:Shared}{l m:Addr}{o u:Obj}{xs ys:Array Value}{n k:Nat}{as bs:List Addr},
   (∀ {y:Ky}{A:Around}{s:Shared}{us vs:List Value}{as bs:List Addr},Ky.ok.isRow x=true->Ky.shp x y=true->Ky.ok x=true->Ky.ok y=true->ReadsAll s.heap us x.row as->ReadsAll s.heap vs y.row bs->A.units+x.dep<cLine->LexAt A s (cop g) us vs (gl g x y)/\us.length=vs.length) ->
   Ky.ok.isRow x=true->Ky.shp x y=true->Ky.ok x=true->Ky.ok y=true->s.heap.get? l=some o->o.cls=.type "tuple"->o.data=.seq xs n->ReadsAll s.heap xs.toList x.row as ->
   s.heap.get? m=some u->u.cls=.type "tuple"->u.data=.seq ys k->ReadsAll s.heap ys.toList y.row bs->A.units+x.dep+1<cLine->cW A s (cop g) (.ref l) (.ref m) (gl g x y):=by
  intro x y A s l m o u xs ys n k as bs lp hr hs ox oy a1 a2 a3 a4 b1 b2 b3 b4 hu
  obtain ⟨L,hl⟩:=lp (A:=A.in1) hr hs ox oy a4 b4 (by show A.units+1+x.dep<cLine;omega)
  exact yM a1 a2 a3 b1 b2 b3 (by omega) L (by simpa using hl)
 intro x
 induction x with
 |i a =>
  refine ⟨fun {y A s a' b' as bs} hs ox oy ra rb hu=>?_,fun {y A s us vs as bs} h=>by cases h⟩
  cases y<;>first|cases hs|skip
  obtain ⟨t,rfl⟩:=cb ra
  obtain ⟨u,rfl⟩:=cb rb
  exact AR _ _ _ _
 |s a =>
  refine ⟨fun {y A s a' b' as bs} hs ox oy ra rb hu=>?_,fun {y A s us vs as bs} h=>by cases h⟩
  cases y<;>first|cases hs|skip
  obtain ⟨t,rfl⟩:=cc ra
  obtain ⟨u,rfl⟩:=cc rb
  exact AS _ _ _ _
 |tt a =>
  refine ⟨fun {y A s a' b' as bs} hs ox oy ra rb hu=>?_,fun {y A s us vs as bs} h=>by cases h⟩
  cases y<;>first|cases hs|skip
  obtain rfl:=cw ra
  obtain rfl:=cw rb
  exact zG _ _
 |nil =>
  have lp:∀ {y:Ky}{A:Around}{s:Shared}{us vs:List Value}{as bs:List Addr},Ky.ok.isRow .nil=true->Ky.shp .nil y=true->Ky.ok .nil=true->Ky.ok y=true->ReadsAll s.heap us Ky.nil.row as->ReadsAll s.heap vs y.row bs->A.units+Ky.nil.dep<cLine ->
    LexAt A s (cop g) us vs (gl g .nil y)/\us.length=vs.length:=by
   intro y A s us vs as bs _ hs _ _ ra rb _
   cases y<;>first|cases hs|skip
   simp only [Ky.row] at ra rb
   cases ra;cases rb
   exact ⟨by cases g<;>exact .nil,rfl⟩
  refine ⟨fun {y A s a' b' as bs} hs ox oy ra rb hu=>?_,lp⟩
  cases y<;>first|cases hs|skip
  obtain ⟨_,_,_,_,rfl,a1,a2,a3,a4⟩:=bj ra
  obtain ⟨_,_,_,_,rfl,b1,b2,b3,b4⟩:=bj rb
  exact tup lp rfl rfl rfl rfl a1 a2 a3 a4 b1 b2 b3 b4 hu
 |cons h t ih it =>
  have lp:∀ {y:Ky}{A:Around}{s:Shared}{us vs:List Value}{as bs:List Addr},Ky.ok.isRow (.cons h t)=true->Ky.shp (.cons h t) y=true->Ky.ok (.cons h t)=true->Ky.ok y=true->ReadsAll s.heap us (Ky.cons h t).row as->ReadsAll s.heap vs y.row bs->A.units+(Ky.cons h t).dep<cLine ->
    LexAt A s (cop g) us vs (gl g (.cons h t) y)/\us.length=vs.length:=by
   intro y A s us vs as bs _ hs ox oy ra rb hu
   cases y with
   |cons h' t' =>
    simp only [Ky.bY,Bool.and_eq_true] at hs
    simp only [Ky.eM,Bool.and_eq_true] at ox oy
    simp only [Ky.jI] at hu
    simp only [Ky.row] at ra rb
    ·obtain ⟨_,_,_,_,rfl,r,rs⟩:=dQ ra
     ·obtain ⟨_,_,_,_,rfl,r',rs'⟩:=dQ rb
      have eq:=p7 (A:=A) hs.1 ox.1.1 oy.1.1 r r' (by omega)
      rw [CT]
      by_cases e:h=h'
      ·rw [decide_eq_true e] at eq
       rw [if_pos e]
       obtain ⟨L,l⟩:=it.2 (A:=A) ox.2 hs.2 ox.1.2 oy.1.2 rs rs' (by omega)
       exact ⟨.same eq L,by simp [l]⟩
      ·rw [decide_eq_false e] at eq
       rw [if_neg e]
       refine ⟨.diff eq (ih.1 hs.1 ox.1.1 oy.1.1 r r' (by omega)),?_⟩
       have l1:=ReadsAll.length _ _ _ rs
       have l2:=ReadsAll.length _ _ _ rs'
       have rowlen:∀ {a b:Ky},Ky.shp a b=true->a.row.length=b.row.length:=by
        intro a
        induction a with
        |cons u v iu iv =>
         intro b e
         cases b with
         |cons u' v' =>
          simp only [Ky.bY,Bool.and_eq_true] at e
          simp only [Ky.row,List.length_cons,iv e.2]
         |_=>cases e
        |_=>intro b e;cases b<;>first|rfl|cases e
       simp [l1,l2,rowlen hs.2]
   |_=>cases hs
  refine ⟨fun {y A s a' b' as bs} hs ox oy ra rb hu=>?_,lp⟩
  cases y with
  |cons h' t' =>
   obtain ⟨_,_,_,_,rfl,a1,a2,a3,a4⟩:=bj ra
   obtain ⟨_,_,_,_,rfl,b1,b2,b3,b4⟩:=bj rb
   exact tup lp rfl hs ox oy a1 a2 a3 a4 b1 b2 b3 b4 hu
  |_=>cases hs
def KR (s:Shared) (v:Value) (k:Ky):Prop:=Ky.ok k=true/\∃ as,Reads s.heap v k.dat as
theorem KR.inj {s:Shared}{v:Value}{k k':Ky}(h:KR s v k) (h':KR s v k'):k=k':=by
 obtain ⟨o,as,r⟩:=h
 obtain ⟨o',as',r'⟩:=h'
 exact (qG o o').1 r r'
open Classical in
def bM (s:Shared) (v:Value):Ky:=if h:∃ k,KR s v k then h.choose else .nil
theorem l7 {s:Shared}{v:Value}{k:Ky}(h:KR s v k):bM s v=k:=by
 unfold bM
 have e:∃ k,KR s v k:=⟨k,h⟩
 rw [dif_pos e]
 exact e.choose_spec.inj h
def vh (A:Around) (s:Shared) (one:Bool) (x y:Value) (c:Bool):Prop :=
 ∀ (prog:Program) (w:World) (E:Value->Shared->Prop) (Q:Bool->Shared->Prop),Q c s->wpAny (model prog w) A (oneLt' one x y) Q E s
theorem yN {prog:Program}{w:World}{A:Around}{E:Value->Shared->Prop}{s:Shared}{a b:Bool}{Q:Bool->Shared->Prop}(h:Q (!a&&b) s):wpAny (model prog w) A (oneLt' true (.bool a) (.bool b)) Q E s:=by
 rw [oneLt'_eq]
 simp only [if_true]
 refine wpAny_bind (wpAny_cRoomFor_byValue rfl ?_)
 refine wpAny_bind (wpAny_callSpecialIfBound?_slot (typeIs_bool' s a) F.slot_bool_lt (call_gives F.slot_bool_lt (typeIs_bool' s a) F.entry_int_lt (F.args_int_lt_2 _ _) (gives_int_lt_bools a b) ?_))
 have e:((λx1 x2:Int=>decide (x1<x2)) (if a=true then 1 else 0) (if b=true then 1 else 0))=(!a&&b):=by cases a<;>cases b<;>rfl
 show wpAny _ _ _ _ _ _
 rw [e]
 exact wpAny_truthy_bool h
theorem cW.one {A:Around}{s:Shared}{x y:Value}{c:Bool}(h:cW A s .Lt x y c):vh A s false x y c:=λprog w E Q q=>by
 rw [oneLt'_eq]
 simp only [Bool.false_eq_true,if_false]
 exact wpAny_bind (h prog w _ _ (wpAny_truthy_bool q))
inductive LexO (A:Around) (s:Shared):Bool->List Value->List Value->Bool->Prop
 |nil {one}:LexO A s one [] [] false
 |same {one x y xs ys c}:EqAt A s x y true->LexO A s false xs ys c->LexO A s one (x::xs) (y::ys) c
 |diff {one x y xs ys c}:EqAt A s x y false->vh A s one x y c->LexO A s one (x::xs) (y::ys) c
theorem LexAt.o {A:Around}{s:Shared}{xs ys:List Value}{c:Bool}(h:LexAt A s .Lt xs ys c):LexO A s false xs ys c:=by
 induction h with
 |nil=>exact .nil
 |same e _ ih=>exact .same e ih
 |diff e c=>exact .diff e c.one
theorem xI (fb:Bool) (x y:Value):keyLt' (tuples' fb) x y=(do
  let xs <- Builtin.List.listItems x;let ys <- Builtin.List.listItems y
  for ((p,q),i) in (xs.toList.zip ys.toList).zipIdx do
   if !(<- eqBool p q) then return <- oneLt' (fb&&i==0) p q
  return xs.size<ys.size):=rfl
theorem CV {A:Around}{s:Shared}{fb:Bool}{l m:Addr}{o u:Obj}{xs ys:Array Value}{n k:Nat}{c:Bool}(h1:s.heap.get? l=some o) (d1:o.data=.seq xs n) (h2:s.heap.get? m=some u) (d2:u.data=.seq ys k)
  (L:LexO A s fb xs.toList ys.toList c) (hs:xs.size=ys.size){prog:Program}{w:World}{E:Value->Shared->Prop}{Q:Bool->Shared->Prop}(q:Q c s):wpAny (model prog w) A (keyLt' (tuples' fb) (.ref l) (.ref m)) Q E s:=by
 rw [xI]
 refine wpAny_bind (listItems_at h1 d1 (wpAny_bind (listItems_at h2 d2 (wpAny_bind ?_))))
 refine wpAny_forIn_list _ (λrest r z=>r.1=none/\z=s/\∃ Pz OJ i one,rest=(Pz.zip OJ).zipIdx i/\(fb&&i==0)=one/\LexO A s one Pz OJ c) _ ?_ ?_ _ _ ⟨rfl,rfl,xs.toList,ys.toList,0,fb,rfl,by simp,L⟩
 ·rintro ⟨⟨x,y⟩,i'⟩ rest r z ⟨hr,rfl,Pz,OJ,i,one,hz,ho,L'⟩
  cases L' with
  |nil=>simp at hz
  |same e L2 =>
   simp only [List.zip_cons_cons,List.zipIdx_cons,List.cons.injEq,Prod.mk.injEq] at hz
   obtain ⟨⟨⟨rfl,rfl⟩,rfl⟩,rfl⟩:=hz
   refine wpAny_bind (e prog w _ _ ?_)
   exact wpAny_pure ⟨rfl,rfl,_,_,_,false,rfl,by simp,L2⟩
  |diff e cm =>
   simp only [List.zip_cons_cons,List.zipIdx_cons,List.cons.injEq,Prod.mk.injEq] at hz
   obtain ⟨⟨⟨rfl,rfl⟩,rfl⟩,rfl⟩:=hz
   refine wpAny_bind (e prog w _ _ ?_)
   rw [<- ho] at cm
   exact wpAny_bind (cm prog w _ _ (wpAny_pure (wpAny_pure q)))
 ·rintro ⟨r1,r2⟩ z ⟨hr,rfl,Pz,OJ,i,one,hz,ho,L'⟩
  simp only at hr
  subst hr
  have hc:c=false:=by
   cases L' with
   |nil=>rfl
   |same _ _=>simp at hz
   |diff _ _=>simp at hz
  subst hc
  refine wpAny_pure ?_
  rw [hs]
  simpa using q
noncomputable def tyK:Ky->String
 |.i _=>"int"
 |.s _=>"str"
 |.tt _=>"bool"
 |_=>"tuple"
noncomputable def dR:Ky->SortKind
 |.cons h _=>tuples' (Value.type (tyK h) != Value.type "tuple")
 |_=>oneType'
noncomputable def fit:Ky->Bool
 |.i _=>true
 |.s _=>true
 |.cons h _=>match h with|.nil=>false|_=>true
 |_=>false
theorem Js {x y:Ky}{A:Around}{s:Shared}{a b:Value}(hx:KR s a x) (hy:KR s b y) (hs:Ky.shp x y=true) (hf:fit x=true) (hu:A.units+x.dep+1<cLine){prog:Program}{w:World}{E:Value->Shared->Prop}{Q:Bool->Shared->Prop}
  (q:Q (Ky.lt x y) s):wpAny (model prog w) A (keyLt' (dR x) a b) Q E s:=by
 obtain ⟨ox,as,ra⟩:=hx
 obtain ⟨oy,bs,rb⟩:=hy
 cases x with
 |i n =>
  cases y<;>first|cases hs|skip
  obtain ⟨t,rfl⟩:=cb ra
  obtain ⟨u,rfl⟩:=cb rb
  exact oneLt_int q
 |s n =>
  cases y<;>first|cases hs|skip
  obtain ⟨t,rfl⟩:=cc ra
  obtain ⟨u,rfl⟩:=cc rb
  exact oneLt_str q
 |tt v=>cases hf
 |nil=>cases hf
 |cons h t =>
  cases y with
  |cons h' t' =>
   ·obtain ⟨_,_,_,_,rfl,a1,a2,a3,a4⟩:=bj ra
    ·obtain ⟨_,_,_,_,rfl,b1,b2,b3,b4⟩:=bj rb
     have L:=(mJ .lt (.cons h t)).2 (A:=A) rfl hs ox oy a4 b4 (by omega)
     refine CV a1 a3 b1 b3 ?_ (by simpa using L.2) q
     simp only [Ky.bY,Bool.and_eq_true] at hs
     simp only [Ky.eM,Bool.and_eq_true] at ox oy
     simp only [Ky.jI] at hu
     clear L
     generalize Array.toList _=us0 at a4 ⊢
     generalize Array.toList _=vs0 at b4 ⊢
     ·obtain ⟨_,_,_,_,rfl,r,rs⟩:=dQ a4
      ·obtain ⟨_,_,_,_,rfl,r',rs'⟩:=dQ b4
       have eq:=p7 (A:=A) hs.1 ox.1.1 oy.1.1 r r' (by omega)
       have rest:=(mJ .lt t).2 (A:=A) ox.2 hs.2 ox.1.2 oy.1.2 rs rs' (by omega)
       show LexO A s _ _ _ (Ky.lt (.cons h t) (.cons h' t'))
       simp only [Ky.bA]
       by_cases e:h=h'
       ·rw [decide_eq_true e] at eq
        rw [if_pos e]
        exact .same eq rest.1.o
       ·rw [decide_eq_false e] at eq
        rw [if_neg e]
        refine .diff eq ?_
        cases h with
        |i n =>
         cases h'<;>first|cases hs.1|skip
         obtain ⟨t,rfl⟩:=cb r
         obtain ⟨u,rfl⟩:=cb r'
         exact λprog w E Q q=>oneLt_int q
        |s n =>
         cases h'<;>first|cases hs.1|skip
         obtain ⟨t,rfl⟩:=cc r
         obtain ⟨u,rfl⟩:=cc r'
         exact λprog w E Q q=>oneLt_str q
        |tt v =>
         cases h'<;>first|cases hs.1|skip
         obtain rfl:=cw r
         obtain rfl:=cw r'
         exact λprog w E Q q=>yN q
        |nil=>cases hf
        |cons h2 t2=>exact cW.one ((mJ .lt (.cons h2 t2)).1 (A:=A) hs.1 ox.1.1 oy.1.1 r r' (by omega))
  |_=>cases hs
end S6
namespace S6
open PySem PyProof.Rows PySem.SeqAt
theorem Ky.shp_trans:∀ {a b c:Ky},Ky.shp a b=true->Ky.shp b c=true->Ky.shp a c=true:=by
 intro a
 induction a with
 |cons u v iu iv =>
  intro b c e f
  cases b<;>first|cases e|skip
  cases c<;>first|cases f|skip
  simp only [Ky.bY,Bool.and_eq_true] at *
  exact ⟨iu e.1 f.1,iv e.2 f.2⟩
 |_ =>
     intro b c e f;cases b<;>first|cases e|skip
     all_goals (cases c<;>first|cases f|skip)
     all_goals rfl
theorem Ky.shp_dep:∀ {a b:Ky},Ky.shp a b=true->a.dep=b.dep:=by
 intro a
 induction a with
 |cons u v iu iv =>
  intro b e
  cases b<;>first|cases e|skip
  simp only [Ky.bY,Bool.and_eq_true] at e
  simp only [Ky.jI,iu e.1,iv e.2]
 |_=>intro b e;cases b<;>first|rfl|cases e
theorem tW {a b:Ky}(e:Ky.shp a b=true):tyK b=tyK a:=by
 cases a<;>cases b<;>first|rfl|cases e
theorem FN {a b:Ky}(e:Ky.shp a b=true):dR b=dR a:=by
 cases a with
 |cons h t =>
  cases b with
  |cons h' t' =>
   simp only [Ky.bY,Bool.and_eq_true] at e
   simp only [dR,tW e.1]
  |_=>cases e
 |_=>cases b<;>first|rfl|cases e
theorem CW {a b:Ky}(e:Ky.shp a b=true) (hf:fit a=true):fit b=true:=by
 cases a with
 |cons h t =>
  cases b with
  |cons h' t' =>
   simp only [Ky.bY,Bool.and_eq_true] at e
   have e1:=e.1
   cases h<;>cases h'<;>first|rfl|(cases hf;done)|(cases e1;done)
  |_=>cases e
 |_=>cases b<;>first|rfl|(cases hf;done)|(cases e;done)
section
variable {M:Model}{A:Around}{E:Value->Shared->Prop}{s:Shared}
theorem jc {α β:Type}{f:α->Sem β}{g:α->β}:∀ {l:List α}{Q:List β->Shared->Prop},(∀ v∈l,∀ Q':β->Shared->Prop,Q' (g v) s->wpAny M A (f v) Q' E s)->Q (l.map g) s->wpAny M A (l.mapM f) Q E s
 |[],Q,_,q=>by rw [List.mapM_nil];exact wpAny_pure q
 |v::l,Q,h,q=>by
  rw [List.mapM_cons]
  refine wpAny_bind (h v (List.mem_cons_self ..) _ (wpAny_bind (jc (λu hu=>h u (List.mem_cons_of_mem _ hu)) (wpAny_pure ?_))))
  exact q
theorem KR.ty {v:Value}{k:Ky}(h:KR s v k):s.TypeIs v (tyK k):=by
 obtain ⟨_,as,r⟩:=h
 cases k<;>simp only [Ky.dat] at r<;>cases r
 ·exact typeIs_int s _ _
 ·exact typeIs_str s _ _
 ·exact PySem.typeIs_bool s _
 ·exact ⟨_,‹_›,‹_›⟩
 ·exact ⟨_,‹_›,‹_›⟩
theorem qg {l:List Value}{T:String}{Q:Option Value->Shared->Prop}(h0:l≠[]) (h:∀ u∈l,s.TypeIs u T) (q:Q (some (.type T)) s):wpAny M A (oneTypeOnly' l.toArray) Q E s:=by
 rw [oneTypeOnly'_eq,List.mapM_toArray,map_eq_pure_bind]
 refine wpAny_bind (wpAny_bind (jc (g:=λ_=>Value.type T) (λu hu Q' q'=>wpAny_typeOf (h u hu) q') (wpAny_pure ?_)))
 cases l with
 |nil=>exact (h0 rfl).elim
 |cons v l =>
  have e0:(List.map (λ_:Value=>Value.type T) (v::l)).toArray[0]?=some (Value.type T):=by simp
  have ea:((List.map (λ_:Value=>Value.type T) (v::l)).toArray.all λx=>x==Value.type T)=true:=by
   simp only [List.all_toArray,List.all_map,List.all_eq_true]
   intro _ _
   show (Value.type T==Value.type T)=true
   exact beq_self_eq_true _
  rw [e0]
  simp only [ea,if_true]
  exact wpAny_pure q
theorem pC (v:Value):firstOfTuple' v=(do
  if (<- typeOf v) != .type "tuple" then return none
  return (<- Builtin.List.listItems v)[0]?):=rfl
noncomputable def hd1 (s:Shared):Value->Option Value
 |.ref a=>match s.heap.get? a with
  |some o=>match o.data with
   |.seq xs _=>xs[0]?
   |_=>none
  |none=>none
 |_=>none
theorem yO {vs:List Value}{k0:Ky}{Q:SortKind->Shared->Prop}(h0:vs≠[]) (hf:fit k0=true) (hk:∀ v∈vs,∃ k,KR s v k/\Ky.shp k0 k=true) (q:Q (dR k0) s):wpAny M A (keyKind' vs.toArray) Q E s:=by
 rw [keyKind'_eq,List.mapM_toArray,map_eq_pure_bind]
 have flat:∀ T:String,(Value.type T != Value.type "tuple")=true->(∀ v∈vs,s.TypeIs v T)->dR k0=oneType'->wpAny M A (do
   let firsts <- vs.mapM firstOfTuple' >>= λx=>pure x.toArray
   if firsts.all (·.isSome) then
    rule "list.sort.keys-are-tuples"
    return tuples' ((<- oneTypeOnly' (firsts.filterMap id)).any (· != .type "tuple"))
   if (firsts[0]?.bind id).isSome then return general'
   return if (<- oneTypeOnly' vs.toArray).isSome then oneType' else general') Q E s:=by
  intro T hT ht hkd
  refine wpAny_bind (wpAny_bind (jc (g:=λ_=>none) (λv hv Q' q'=>?_) (wpAny_pure ?_)))
  ·rw [pC]
   refine wpAny_bind (wpAny_typeOf (ht v hv) ?_)
   rw [if_pos hT]
   exact wpAny_pure q'
  ·cases vs with
   |nil=>exact (h0 rfl).elim
   |cons v l =>
    rw [if_neg (by simp),if_neg (by simp)]
    refine wpAny_bind (qg (by simp) ht ?_)
    rw [hkd] at q
    exact wpAny_pure q
 cases k0 with
 |tt v=>cases hf
 |nil=>cases hf
 |i n =>
  refine flat "int" (by decide) (λv hv=>?_) rfl
  obtain ⟨k,r,e⟩:=hk v hv
  cases k<;>first|exact r.ty|cases e
 |s n =>
  refine flat "str" (by decide) (λv hv=>?_) rfl
  obtain ⟨k,r,e⟩:=hk v hv
  cases k<;>first|exact r.ty|cases e
 |cons h t =>
  have each:∀ v∈vs,∃ a o xs n u,v=.ref a/\s.heap.get? a=some o/\o.cls=.type "tuple" /\ o.data=.seq xs n/\xs[0]?=some u/\s.TypeIs u (tyK h):=by
   intro v hv
   obtain ⟨k,⟨ok,as,r⟩,e⟩:=hk v hv
   cases k with
   |cons h' t' =>
    simp only [Ky.dat] at r
    cases r with
    |tuple a1 a2 a3 a4 =>
     rename_i xs n
     generalize hl:xs.toList=l at a4
     cases a4 with
     |cons r rs =>
      rename_i u us _ _
      simp only [Ky.eM,Bool.and_eq_true] at ok
      simp only [Ky.bY,Bool.and_eq_true] at e
      have ty:s.TypeIs u (tyK h'):=KR.ty ⟨ok.1.1,_,r⟩
      have et:tyK h'=tyK h:=tW e.1
      refine ⟨_,_,xs,_,u,rfl,a1,a2,a3,?_,et ▸ ty⟩
      rw [<- Array.getElem?_toList,hl];rfl
   |_=>cases e
  have gh:∀ v∈vs,∃ u,hd1 s v=some u/\s.TypeIs u (tyK h):=by
   intro v hv
   obtain ⟨a,o,xs,n,u,rfl,h1,_,h3,h4,h5⟩:=each v hv
   exact ⟨u,by simp only [hd1,h1,h3,h4],h5⟩
  refine wpAny_bind (wpAny_bind (jc (g:=hd1 s) (λv hv Q' q'=>?_) (wpAny_pure ?_)))
  ·obtain ⟨a,o,xs,n,u,rfl,h1,h2,h3,h4,h5⟩:=each v hv
   rw [pC]
   refine wpAny_bind (wpAny_typeOf (T:="tuple") ⟨o,h1,h2⟩ ?_)
   rw [if_neg (by decide)]
   refine wpAny_bind (listItems_at h1 h3 (wpAny_pure ?_))
   simpa only [hd1,h1,h3] using q'
  ·have all:(List.map (hd1 s) vs).toArray.all (·.isSome)=true:=by
    simp only [List.all_toArray,List.all_map,List.all_eq_true]
    intro v hv
    obtain ⟨u,e,_⟩:=gh v hv
    show (hd1 s v).isSome=true
    rw [e];rfl
   rw [if_pos all]
   refine wpAny_bind (wpAny_rule ?_)
   have fm:(List.map (hd1 s) vs).toArray.filterMap id=((List.map (hd1 s) vs).filterMap id).toArray:=by simp
   rw [fm]
   refine wpAny_bind (qg (T:=tyK h) ?_ (λu hu=>?_) (wpAny_pure q))
   ·cases vs with
    |nil=>exact (h0 rfl).elim
    |cons v l =>
     obtain ⟨u,e,_⟩:=gh v (List.mem_cons_self ..)
     simp [e]
   ·rw [List.mem_filterMap] at hu
    obtain ⟨x,hx,ex⟩:=hu
    rw [List.mem_map] at hx
    obtain ⟨v,hv,rfl⟩:=hx
    obtain ⟨u',e,ht⟩:=gh v hv
    rw [show id (hd1 s v)=hd1 s v from rfl,e] at ex
    cases ex;exact ht
end
theorem zH {α:Type}{prog:Program}{w:World}{A:Around}{E:Value->Shared->Prop}{s:Shared}{ks us:List Value}{k0:Ky}{rest:Unit×SortSt->Sem α}{Q:α->Shared->Prop}(hl:ks.length=us.length) (PM:us.length<64) (hf:fit k0=true)
  (hk:∀ v∈ks,∃ k,KR s v k/\Ky.shp k0 k=true) (hu:A.units+k0.dep+1<cLine)
  (h:∀ st:SortSt,(arrOf st).Perm (ks.toArray.zip us.toArray)->failedOf st=none->(∀ i j (hj:j<(arrOf st).size) (hi:i<(arrOf st).size),i<=j->Ky.lt (bM s (arrOf st)[j].1) (bM s (arrOf st)[i].1)=false)->wpAny (model prog w) A (rest ((),st)) Q E s) :
  wpAny (model prog w) A (do
   let kind <- if us.toArray.size<2 then pure general' else keyKind' ks.toArray
   let r <- (if us.toArray.size<2 then pure () else sortRuns').run (SortSt.mk' kind (ks.toArray.zip us.toArray) #[] 7 none)
   rest r) Q E s:=by
 have sz:(ks.toArray.zip us.toArray).size=us.length:=by simp [hl]
 by_cases h2:us.toArray.size<2
 ·rw [if_pos h2,if_pos h2]
  refine wpAny_bind (wpAny_pure ?_)
  dsimp only
  rw [StateT.run_pure]
  refine wpAny_bind (wpAny_pure (h _ (Array.Perm.refl _) rfl λi j hj hi ij=>?_))
  have e:i=j:=by
   have:j<(ks.toArray.zip us.toArray).size:=hj
   rw [sz] at this
   simp only [List.size_toArray] at h2
   omega
  subst e
  exact Ky.irr _
 ·rw [if_neg h2,if_neg h2]
  simp only [List.size_toArray] at h2
  refine wpAny_bind (yO (k0:=k0) (by intro e;rw [e] at hl;simp at hl;omega) hf hk ?_)
  have key:∀ v∈ks,KR s v (bM s v)/\Ky.shp k0 (bM s v)=true:=λv hv=>by
   obtain ⟨k,r,e⟩:=hk v hv
   rw [l7 r];exact ⟨r,e⟩
  have mem:∀ p∈(ks.toArray.zip us.toArray).toList,p.1∈ks:=λp hp=>by
   rw [show (ks.toArray.zip us.toArray).toList=ks.zip us by simp] at hp
   exact (List.of_mem_zip hp).1
  have TJ:∀ x∈ks.map (bM s),∀ y∈ks.map (bM s),Ky.shp x y=true:=λx hx y hy=>by
   rw [List.mem_map] at hx hy
   obtain ⟨v,hv,rfl⟩:=hx
   obtain ⟨v',Re,rfl⟩:=hy
   exact Ky.shp_trans (Ky.qZ (key v hv).2) (key v' Re).2
  let ρ:Keyed->Nat:=λp=>rnk (ks.map (bM s)) (bM s p.1)
  have C:Cm prog w A s (dR k0) (ks.toArray.zip us.toArray) ρ:=λx y hx hy E' Q' q'=>by
   have mx:=mem x hx
   have my:=mem y hy
   have q2:Q' (Ky.lt (bM s x.1) (bM s y.1)) s:=by
    rw [<- tV TJ (List.mem_map_of_mem mx) (List.mem_map_of_mem my)];exact q'
   rw [<- FN (key x.1 mx).2]
   refine Js (key x.1 mx).1 (key y.1 my).1 (TJ _ (List.mem_map_of_mem mx) _ (List.mem_map_of_mem my)) (CW (key x.1 mx).2 hf) ?_ q2
   rw [<- Ky.shp_dep (key x.1 mx).2];exact hu
  refine wpAny_bind (wpAny_mono (FL (E:=E) (st:=SortSt.mk' (dR k0) (ks.toArray.zip us.toArray) #[] 7 none) (Q:=λ_ z=>(arrOf z).Perm (ks.toArray.zip us.toArray)/\failedOf z=none/\Up ρ (arrOf z) (ks.toArray.zip us.toArray).size) C ⟨Array.Perm.refl _,rfl,rfl,rfl⟩ (by rw [sz];omega) (by rw [sz];exact PM)
   λz a1 a2 a3=>⟨a1,a2,a3⟩) ?_ λ_ _ e=>e)
  rintro ⟨⟨⟩,z⟩ s' ⟨rfl,zp,zf,zu⟩
  refine h z zp zf λi j hj hi ij=>?_
  have up:=zu i j ij (by rw [<- zp.size_eq];exact hj)
  have mz:∀ k (hk:k<(arrOf z).size),(arrOf z)[k].1∈ks:=λk hk=>mem _ ((Array.perm_iff_toList_perm.mp zp).mem_iff.mp (by simp))
  have e1:∀ k (hk:k<(arrOf z).size),rk ρ (arrOf z) k=ρ (arrOf z)[k]:=λk hk=>by unfold rk;rw [getElem?_pos _ k hk];rfl
  rw [e1 i hi,e1 j hj] at up
  rw [<- tV TJ (List.mem_map_of_mem (mz j hj)) (List.mem_map_of_mem (mz i hi))]
  exact decide_eq_false (Nat.not_lt.mpr up)
end S6
namespace T2
open PySem PySem.Spec PyProof.Rows L2 S6
mutual
noncomputable def tre:Ky->T
 |.i n=>.int n
 |.s x=>.str x
 |.tt v=>.bl v
 |.nil=>.tup []
 |.cons h t=>.tup (tre h::ii t)
noncomputable def ii:Ky->List T
 |.cons h t=>tre h::ii t
 |_=>[]
end
theorem l8:∀ k:Ky,cM (tre k)=some k.dat/\bi (ii k)=some k.row
 |.i n=>⟨rfl,rfl⟩
 |.s n=>⟨rfl,rfl⟩
 |.tt n=>⟨rfl,rfl⟩
 |.nil=>⟨rfl,rfl⟩
 |.cons h t=>by
  have h1:=(l8 h).1
  have h2:=(l8 t).2
  exact ⟨by show (bi (tre h::ii t)).map PyData.tuple=_;rw [rX h1 h2];rfl,rX h1 h2⟩
theorem Jt {X:Cx}{K:Fg}{pins:List (Addr×Obj)}{U:L2.St}{H:Hp}{S:Sto}{s:Shared}{k:Ky}{v:V}{u:Value}(hK:X.K=K) (I:Inv X pins U H s) (r:Rp K H S (tre k) v) (rv:au v u) (ok:Ky.ok k=true):KR s u k:=by
 subst hK
 exact ⟨ok,eU I (mH r (l8 k).1) rv⟩
theorem l9 {α β:Type}(f:α->β){m n:List β}(h:m.Perm n):∀ {l:List α},n=l.map f->∃ l':List α,l'.Perm l/\m=l'.map f:=by
 induction h with
 |nil =>
  intro l e
  exact ⟨[],by rw [List.map_eq_nil_iff.mp e.symm],rfl⟩
 |cons x _ ih =>
  intro l e
  cases l with
  |nil=>cases e
  |cons a l =>
   simp only [List.map_cons,List.cons.injEq] at e
   obtain ⟨l',p,q⟩:=ih e.2
   exact ⟨a::l',p.cons a,by rw [List.map_cons,q,e.1]⟩
 |swap x y z =>
  intro l e
  cases l with
  |nil=>cases e
  |cons a l =>
   cases l with
   |nil=>simp at e
   |cons b l =>
    simp only [List.map_cons,List.cons.injEq] at e
    exact ⟨b::a::l,List.Perm.swap a b l,by rw [List.map_cons,List.map_cons,e.1,e.2.1,e.2.2]⟩
 |trans _ _ ih1 ih2 =>
  intro l e
  obtain ⟨l',p,q⟩:=ih2 e
  obtain ⟨l2,p2,q2⟩:=ih1 q
  exact ⟨l2,p2.trans p,q2⟩
structure Rec where
 t:T
 v:V
 u:Value
 ku:Value
section
variable {X:Cx}{K:Fg}{pins:List (Addr×Obj)}{U:L2.St}{H H':Hp}{S:Sto}{s:Shared}
theorem si:∀ {ts:List T}{vs:List V}{us ks:List Value},Rps K H S ts vs->am vs us->ks.length=us.length->∃ R:List Rec,R.map (·.t)=ts/\R.map (·.v)=vs/\R.map (·.u)=us/\R.map (·.ku)=ks/\∀ r∈R,Rp K H S r.t r.v/\au r.v r.u
 |_,_,_,[],.nil,.nil,_=>⟨[],rfl,rfl,rfl,rfl,λ_ h=>by cases h⟩
 |_,_,_,_::_,.nil,.nil,h=>by simp at h
 |_,_,_,[],.cons _ _,.cons _ _,h=>by simp at h
 |t::ts,v::vs,u::us,k::ks,.cons a b,.cons c d,h=>by
  obtain ⟨R,e1,e2,e3,e4,e5⟩:=si b d (by simpa using h)
  refine ⟨⟨t,v,u,k⟩::R,by simp [e1],by simp [e2],by simp [e3],by simp [e4],λr hr=>?_⟩
  rcases List.mem_cons.mp hr with rfl|hr
  ·exact ⟨a,c⟩
  ·exact e5 r hr
theorem re:∀ {R:List Rec},(∀ r∈R,Rp K H S r.t r.v/\au r.v r.u)->Rps K H S (R.map (·.t)) (R.map (·.v))/\am (R.map (·.v)) (R.map (·.u))
 |[],_=>⟨.nil,.nil⟩
 |r::R,h=>by
  obtain ⟨a,b⟩:=h r (List.mem_cons_self ..)
  obtain ⟨c,d⟩:=re λx hx=>h x (List.mem_cons_of_mem _ hx)
  exact ⟨.cons a c,.cons b d⟩
end
theorem xY (a f:Value):argsOk "sorted" ⟨[a],[(Str.ofString "key",f)]⟩:=by unfold argsOk;kernel_rfl
theorem xr (a f:Value):argsOk "list.sort" ⟨[a],[(Str.ofString "key",f)]⟩:=by unfold argsOk;kernel_rfl
theorem xJ {prog:Program}{w:World}{A:Around}{E:Value->Shared->Prop}{s:Shared}{Ty:String}{name:Str}{id:String}{b:Builtin}{self:Value}{rest:List Value}{kw:List (Str×Value)}{Q:Value->Shared->Prop}(h:Slot Ty name id) (hT:s.TypeIs self Ty)
  (hb:entryFor table id=some b) (hc:wpAny (model prog w) A.in1 (b ⟨self::rest,kw⟩) (λfin s'=>∃ v,fin=.done (.ret v)/\Q v s') E s) (ha:argsOk id ⟨self::rest,kw⟩):wpAny (model prog w) A (call (.builtin id) (self::rest) kw) Q E s:=by
 refine wpAny_call (codeAny_call_builtin h.plain hb (h.check _ _ _ _ _ _ _ _ hT ha (wpAny_mono hc (λfin s' h'=>?_) λ_ _ h'=>h')))
 obtain ⟨v,rfl,hv⟩:=h';exact hv
def j5 (a:Addr) (before:Nat) (s:SortSt):Sem PySem.Fin:=do
 let touched:=(<- seqEpoch a) != before
 Builtin.List.listUpdate (.ref a) λ_=>(arrOf s).map (·.2)
 if let some e:=failedOf s then rule "list.sort.comparison-raised";throw e
 if touched then rule "list.sort.modified";raiseError "ValueError" "list modified during sort"
 ret .none
def o6 (SF items:Array Value) (rest:SortSt->Sem PySem.Fin):Sem PySem.Fin:=do
 let kind <- if items.size<2 then pure general' else keyKind' SF
 let r <- (if items.size<2 then pure () else sortRuns').run (SortSt.mk' kind (SF.zip items) #[] 7 none)
 rest r.2
def ik (a:Addr) (B:Array Value->Nat->Value->Sem PySem.Fin):Sem PySem.Fin:=do
 let items <- Builtin.List.listItems (.ref a)
 Builtin.List.listUpdate (.ref a) λ_=>#[]
 let before <- seqEpoch a
 let held <- newTuple items.toList
 let keyStore <- newList []
 holding [held,keyStore] (B items before keyStore)
def o7 (a fa:Addr) (items:Array Value) (keyStore:Value) (x:Value) (_:PUnit):Sem (ForInStep PUnit):=do
 match <- (call (.ref fa) [x]).attempt with
 |.ok k=>Builtin.List.listUpdate keyStore (·.push k)
 |.error e =>
  rule "list.sort.key-raised"
  let made <- Builtin.List.listItems keyStore
  Builtin.List.listUpdate keyStore λ_=>#[]
  letGo made.toList.reverse [e]
  Builtin.List.listUpdate (.ref a) λ_=>items;throw e
 pure (.yield ⟨⟩)
def ol (a fa:Addr) (items:Array Value) (before:Nat) (keyStore:Value):Sem PySem.Fin:=do
 rule "list.sort.key"
 let _ <- forIn items PUnit.unit (o7 a fa items keyStore)
 let SF <- Builtin.List.listItems keyStore
 o6 SF items λs=>do
  Builtin.List.listUpdate keyStore λ_=>#[]
  letGo ((arrOf s).map (·.1)).toList (failedOf s).toList
  j5 a before s
theorem yo (a fa:Addr):Builtin.«list.sort» ⟨[.ref a],[(Str.ofString "key",.ref fa)]⟩=ik a (ol a fa):=by rfl
section
variable {X:Cx}{K:Fg}{pins:List (Addr×Obj)}{U:L2.St}{H H':Hp}{S:Sto}{s:Shared}
theorem m9 {D:Addr}{φ:Heap->Prop}{ws:List V}{its its':List Value}{n:Nat}{f:Array Value->Array Value}(I:Inv X pins U H s) (h:H D=some (.ext φ)) (e:s.heap.get? D=some (seqObj "list" its.toArray n)) (hf:f its.toArray=its'.toArray) (r:am ws its') (hz:ws.length<=sizeLine) :
  Inv X pins U (upd H D (bP D ws)) { s with heap:=s.heap.update D (Obj.mapSeq f) }:=by
 obtain ⟨hh,g,d,t,os⟩:=s
 have e2:=get?_update_seq e f
 rw [hf] at e2
 refine I.write (t':=t) (h':=hh.update D (Obj.mapSeq f)) (x:=D) (e:=D) (by rw [h];trivial) (.inl rfl) (λb u hb q=>(Heap.get?_update_other _ _ (Ne.symm hb)).trans q) ⟨_,e2⟩ ⟨⟨hz,its',_,r,e2⟩,⟨_,e2⟩,λh1 h2 ⟨z',i',n',r',q'⟩ k=>⟨z',i',n',r',k _ q'⟩⟩
theorem vi {D:Addr}{zs:List V}(I:Inv X pins U H s) (h:H D=some (bP D zs)):zs.length<=sizeLine/\∃ its n,am zs its/\s.heap.get? D=some (seqObj "list" its.toArray n):=by
 obtain ⟨⟨z,its,n,r,e⟩,_,_⟩:=I.hok D _ h
 exact ⟨z,its,n,r,e⟩
theorem FO {D:Addr}{zs:List V}{its:List Value}{n t':Nat}{h':Heap}(I:Inv X pins U H s) (k:∀ b u,s.heap.get? b=some u->h'.get? b=some u) (hp:s.heap.objs.size<=D) (r:am zs its) (hz:zs.length<=sizeLine)
  (e:h'.get? D=some (seqObj "list" its.toArray n)):Inv X pins U (upd H D (bP D zs)) { s with heap:=h',toks:=t' } :=
 I.laid k hp ⟨⟨hz,its,n,r,e⟩,⟨_,e⟩,λh1 h2 zz99 k=>by obtain ⟨z',i',n',r',q'⟩:=zz99;exact ⟨z',i',n',r',k _ q'⟩⟩
end
def eN (D:Addr) (o:Obj):HO:=.ext λh=>h.get? D=some o
theorem FP {X:Cx}{pins:List (Addr×Obj)}{U:L2.St}{H:Hp}{s:Shared}{D:Addr}{o:Obj}{t':Nat}{h':Heap}(I:Inv X pins U H s) (k:∀ b u,s.heap.get? b=some u->h'.get? b=some u) (hp:s.heap.objs.size<=D) (e:h'.get? D=some o):Inv X pins U (upd H D (eN D o)) { s with heap:=h',toks:=t' } :=
 I.laid k hp ⟨e,⟨_,e⟩,λh1 h2 p k=>k _ p⟩
theorem Ju {X:Cx}{pins:List (Addr×Obj)}{U:L2.St}{H:Hp}{s:Shared}{D:Addr}{o:Obj}(I:Inv X pins U H s) (h:H D=some (eN D o)):s.heap.get? D=some o:=(I.hok D _ h).1
def o8 (tr:Bool) (xs:List T) (κ:T->Ky) (S:Sto) (Q:T->Sto->Prop):Prop:=∀ zs:List T,zs.Perm xs->zs.Pairwise (λa b=>Ky.lt (κ b) (κ a)=false)->a0 tr zs S Q
def na (tr:Bool) (f:Addr) (L5:WSp):List T->List T->Sto->(T->Sto->Prop)->Prop:=λts us S Q=>∃ x xs κ k0,ts=[x]/\us=[.ref f]/\aN S x=some xs/\xs.length<64/\fit k0=true/\k0.dep<=30 /\
 (∀ t∈xs,Ky.ok (κ t)=true/\Ky.shp k0 (κ t)=true/\∀ S' Q',Q' (tre (κ t)) S'->L5 [t] S' Q')/\o8 tr xs κ S Q
def lCK (K:Fg) (g:List T->List T->Sto->(T->Sto->Prop)->Prop):List V->List V->Hp->VK->Prop:=λxs zs H Q=>∃ S ts us Qt,SRp K H S/\Rps K H S ts xs/\Rps K H S us zs/\g ts us S Qt/\Bh K H S Qt Q
section
variable {X:Cx}{K:Fg}{pins:List (Addr×Obj)}{U:L2.St}{H Hc:Hp}{S:Sto}{s:Shared}{E:Value->Shared->Prop}
theorem AT {κ:T->Ky}{k0:Ky}{ls:List T}(hK:X.K=K) (I:Inv X pins U H s) (hk:∀ t∈ls,Ky.ok (κ t)=true/\Ky.shp k0 (κ t)=true){R:List Rec}:∀ {vs:List V},Rps K H S (R.map λr=>tre (κ r.t)) vs->am vs (R.map (·.ku))->(∀ r∈R,r.t∈ls)->∀ r∈R,KR s r.ku (κ r.t)/\Ky.shp k0 (κ r.t)=true:=by
 induction R with
 |nil=>intro _ _ _ _ r hr;cases hr
 |cons r0 R ih =>
  intro kvs a b m r hr
  cases a with
  |cons a1 a2 =>
   cases b with
   |cons b1 b2 =>
    rcases List.mem_cons.mp hr with rfl|hr
    ·have:=hk r.t (m r (List.mem_cons_self ..))
     exact ⟨Jt hK I a1 b1 this.1,this.2⟩
    ·exact ih a2 b2 (λx hx=>m x (List.mem_cons_of_mem _ hx)) r hr
theorem AU {κ:T->Ky}{R:List Rec}{ar:Array Keyed}(eR:ar.toList=R.map λr=>((r.ku,r.u):Keyed)) (key:∀ r∈R,KR s r.ku (κ r.t))
  (hs:∀ i j (hj:j<ar.size) (hi:i<ar.size),i<=j->Ky.lt (bM s ar[j].1) (bM s ar[i].1)=false):(R.map (·.t)).Pairwise (λa b=>Ky.lt (κ b) (κ a)=false):=by
 obtain ⟨l⟩:=ar
 subst eR
 rw [List.pairwise_map,List.pairwise_iff_getElem]
 intro i j hi hj ij
 have:=hs i j (by simpa using hj) (by simpa using hi) (Nat.le_of_lt ij)
 simp only [List.getElem_toArray,List.getElem_map] at this
 rw [l7 (key _ (List.getElem_mem hi)),l7 (key _ (List.getElem_mem hj))] at this
 exact this
theorem zI {κ:T->Ky}{k0:Ky}{ls:List T}{vs kvs:List V}{its Q8:List Value}(hK:X.K=K) (I:Inv X pins U H s) (hk:∀ t∈ls,Ky.ok (κ t)=true/\Ky.shp k0 (κ t)=true)
  (rs:Rps K H S ls vs) (rv:am vs its) (rk:Rps K H S (ls.map λt=>tre (κ t)) kvs) (SG:am kvs Q8) (lk:Q8.length=its.length) :
  (∀ v∈Q8,∃ k,KR s v k/\Ky.shp k0 k=true)/\∀ ar:Array Keyed,ar.Perm (Q8.toArray.zip its.toArray)->(∀ i j (hj:j<ar.size) (hi:i<ar.size),i<=j->Ky.lt (bM s ar[j].1) (bM s ar[i].1)=false) ->
   ∃ zs OJ Pz,zs.Perm ls/\zs.Pairwise (λa b=>Ky.lt (κ b) (κ a)=false)/\ar.map (·.2)=Pz.toArray/\Rps K H S zs OJ/\am OJ Pz/\OJ.length=its.length:=by
 obtain ⟨R,q1,q2,q3,q4,q5⟩:=si rs rv lk
 have key:=AT (R:=R) hK I hk (by rw [<- q1,List.map_map] at rk;exact rk) (by rw [q4];exact SG) λr hr=>by rw [<- q1];exact List.mem_map_of_mem hr
 refine ⟨λv hv=>?_,λar hp hs=>?_⟩
 ·rw [<- q4] at hv
  obtain ⟨r,hr,rfl⟩:=List.mem_map.mp hv
  exact ⟨_,key r hr⟩
 ·obtain ⟨R',pR,eR⟩:=l9 (λr:Rec=>((r.ku,r.u):Keyed)) (Array.perm_iff_toList_perm.mp hp) (l:=R) (by
   have:(Q8.toArray.zip its.toArray).toList=Q8.zip its:=by simp
   rw [this,<- q3,<- q4]
   exact List.zip_map')
  have m:∀ r∈R',r∈R:=λr hr=>pR.mem_iff.mp hr
  obtain ⟨rz,vz⟩:=re λr hr=>q5 r (m r hr)
  refine ⟨_,_,_,by rw [<- q1];exact pR.map _,AU eR (λr hr=>(key r (m r hr)).1) hs,?_,rz,vz,by rw [List.length_map,pR.length_eq,<- q3,List.length_map]⟩
  apply Array.toList_inj.mp
  rw [Array.toList_map,eR,List.map_map]
  rfl
theorem rg {A:Around}{L:Addr}{ep:Nat}{st:SortSt}{us:List Value}{vs:List V}{P:Shared->Prop}(I:Inv X pins U Hc s) (eL:Hc L=some (eN L (seqObj "list" #[] ep))) (hf:failedOf st=none) (MC:(arrOf st).map (·.2)=us.toArray) (vz:am vs us) (hz:vs.length<=sizeLine)
  (h:∀ s',Inv X pins U (upd Hc L (.lst vs)) s'->P s'):wpAny (model X.prog X.w) A (j5 L ep st) (λfin s'=>∃ v,fin=.done (.ret v)/\P s') E s:=by
 unfold j5
 have e:=Ju I eL
 refine wpAny_bind (seqEpoch_at e rfl (wpAny_bind (listUpdate_at e rfl ?_ (by simp) (by rw [MC,List.size_toArray,<- vz.length];exact Nat.le_succ_of_le hz))))
 rw [hf]
 simp only [bne_self_eq_false,Bool.false_eq_true,if_false]
 have I8:=(m9 I eL (its:=[]) e (f:=λ_=>(arrOf st).map (·.2)) MC vz hz).ofAcc (D:=L) aM
 rw [i4] at I8
 exact wpAny_pure ⟨_,rfl,h _ I8⟩
theorem rh {tr:Bool}{L:Addr}{φ:Heap->Prop}{zs:List T}{vs:List V}{Qt:T->Sto->Prop}{Q:VK}(b:Bh K H S Qt Q) (nL:H L=none) (fc:Fr H S Hc S) (sc:SRp K Hc S) (eL:Hc L=some (.ext φ)) (nS:S L=none) (rz:Rps K Hc S zs vs) (fin:a0 tr zs S Qt):Q (.ref L) (upd Hc L (.lst vs)):=by
 cases tr with
 |false=>exact b _ _ (.lst _) S (Fr.at fc nL) (sc.chg eL nS) (.lst nS aM (Rps.chg eL rz)) fin
 |true =>
  refine b _ _ (.ref L) _ (λa o h nn=>?_) (SRp.trk eL sc rz) .ref (fin L nS)
  rw [ay (bB h nL)]
  exact Fr.at fc nL a o h nn
theorem CY {A:Around}{L:Addr}{its:List Value}{B:Array Value->Nat->Value->Sem PySem.Fin}{Q:PySem.Fin->Shared->Prop}(I:Inv X pins U H s) (sr:SRp K H S){h1:Heap}(hL:h1.objs.size=L) (old:∀ b u,s.heap.get? b=some u->h1.get? b=some u) (sz:s.heap.objs.size<=L) (hz:its.length<=sizeLine)
  (h:∀ ep Hc s5,Inv X pins U Hc s5->Hc L=some (eN L (seqObj "list" #[] ep))->Hc (L+2)=some (bP (L+2) [])->H L=none->H (L+2)=none->Fr H S Hc S->SRp K Hc S->wpAny (model X.prog X.w) A (B its.toArray ep (.ref (L+2))) Q E s5) :
  wpAny (model X.prog X.w) A (ik L B) Q E { s with heap:=h1.push (seqObj "list" its.toArray 0) }:=by
 have hoL:(h1.push (seqObj "list" its.toArray 0)).get? L=some (seqObj "list" its.toArray 0):=hL ▸ Heap.get?_push_size _ rfl
 unfold ik
 refine wpAny_bind (listItems_at hoL rfl (wpAny_bind (listUpdate_at hoL rfl ?_ (by simpa using hz) (by simp))))
 obtain ⟨ep,ho1⟩:∃ ep,((h1.push (seqObj "list" its.toArray 0)).update L (Obj.mapSeq λ_=>#[])).get? L=some (seqObj "list" #[] ep):=⟨_,get?_update_seq hoL (λ_=>#[])⟩
 refine wpAny_bind (seqEpoch_at ho1 rfl ?_)
 have sz2:((h1.push (seqObj "list" its.toArray 0)).update L (Obj.mapSeq λ_=>#[])).objs.size=L+1:=by rw [Heap.size_update,size_push',hL]
 have I2:=FP (t':=s.toks) I (λb u e=>(Heap.get?_update_other _ _ (Ne.symm (Nat.ne_of_lt (Nat.lt_of_lt_of_le (Heap.lt_size e) sz)))).trans (Heap.get?_push_of_some (seqObj "list" its.toArray 0) (old b u e))) sz ho1
 have ne:L+2≠L:=Nat.ne_of_gt (Nat.lt_add_of_pos_right (by decide))
 have nL:H L=none:=I.hok.fresh sz
 have nk:H (L+2)=none:=I.hok.fresh (Nat.le_add_right_of_le sz)
 have nk2:upd H L (eN L (seqObj "list" #[] ep)) (L+2)=none:=by rw [aB ne];exact nk
 refine wpAny_bind (wpAny_newTuple (wpAny_bind (wpAny_newList ?_)) (by simpa using hz))
 generalize (h1.push (seqObj "list" its.toArray 0)).update L (Obj.mapSeq λ_=>#[])=h2 at *
 have sz3:(h2.push { cls:=.type "tuple",data:=.seq its.toArray.toList.toArray }).objs.size=L+2:=by rw [size_push',sz2]
 dsimp only
 rw [sz3]
 refine wpAny_holding (h ep _ _ (FO (D:=L+2) (s:={ s with heap:=h2,toks:=s.toks }) I2 (λb u e=>Heap.get?_push_of_some _ (Heap.get?_push_of_some _ e)) (Nat.le_trans (Nat.le_of_eq sz2) (Nat.le_succ _)) .nil (Nat.zero_le _) (sz3 ▸ Heap.get?_push_size _ rfl)) (by rw [aB ne.symm];exact aM) aM nL nk ((Fr.new nL).trans (Fr.new nk2)) ((sr.new nL).new nk2))
theorem qH {kw:List (Str×Value)}{ls:List T}{x:T}{B:Addr->Array Value->Nat->Value->Sem PySem.Fin}{Ψ:Value->Shared->Prop}{u:Value}{y:V}(hK:X.K=K) (I:Inv X pins U H s) (sr:SRp K H S) (rx:Rp K H S x y) (ru:au y u) (ev:aN S x=some ls)
  (ha:∀ a,argsOk "sorted" ⟨[a],kw⟩) (ha':∀ a,argsOk "list.sort" ⟨[a],kw⟩) (hb:∀ a,Builtin.«list.sort» ⟨[.ref a],kw⟩=ik a (B a))
  (h:∀ L ep Hc s5 vs its,Rps K H S ls vs->am vs its->its.length<=sizeLine->Inv X pins U Hc s5->Hc L=some (eN L (seqObj "list" #[] ep))->Hc (L+2)=some (bP (L+2) [])->H L=none->H (L+2)=none->Fr H S Hc S->SRp K Hc S ->
   wpAny (model X.prog X.w) X.A.in1.in1 (B L its.toArray ep (.ref (L+2))) (λfin s'=>∃ v,fin=.done (.ret v)/\Ψ (.ref L) s') E s5):wpAny (model X.prog X.w) X.A (call (.builtin "sorted") [u] kw) Ψ E s:=by
 obtain ⟨pl,vs,rfl,hS,rs⟩:=bT sr rx ev
 cases ru
 subst hK
 obtain ⟨its,Rs,⟨o,n,eo,ec,_,ed⟩,hz⟩:=I.list hS
 rw [Rs.length] at hz
 have h:=λL ep Hc s5=>h L ep Hc s5 vs its rs Rs hz
 refine xX kind_sorted plain_sorted entry_sorted (ha _) ?_
 unfold Builtin.«sorted»
 refine wpAny_bind (m:=checkCount "sorted" 1 1 _) (wpAny_pure (wpAny_bind (collect_list (l:=pl) (vs:=its) ⟨o,eo,ec,n,ed⟩ (wpAny_bind (wpAny_newList ?_ hz)) hz)))
 have old:∀ b u,s.heap.get? b=some u->((s.heap.push (seqObj "list" #[] 0)).update s.heap.objs.size (Obj.mapSeq (·++its.toArray))).get? b=some u:=λb u e=>(Heap.get?_update_other _ _ (Ne.symm (Nat.ne_of_lt (Heap.lt_size e)))).trans (Heap.get?_push_of_some _ e)
 have sz:s.heap.objs.size<=((s.heap.push (seqObj "list" #[] 0)).update s.heap.objs.size (Obj.mapSeq (·++its.toArray))).objs.size:=by rw [Heap.size_update,size_push'];exact Nat.le_succ _
 generalize (s.heap.push (seqObj "list" #[] 0)).update s.heap.objs.size (Obj.mapSeq (·++its.toArray))=h1 at *
 refine wpAny_bind (wpAny_holding (xJ slot_list_sort (Ty:="list") ⟨_,Heap.get?_push_size _ rfl,rfl⟩ entry_list_sort ?_ (ha' _)))
 rw [hb]
 refine CY I sr rfl old sz hz λep Hc s5 a1 a2 a3 a4 a5 a6 a7=>wpAny_mono (h _ ep Hc s5 a1 a2 a3 a4 a5 a6 a7) (λfin s' zz100=>by obtain ⟨v,e,q⟩:=zz100;exact ⟨v,e,wpAny_pure q⟩) λ_ _ q=>q
structure SInv (X:Cx) (K:Fg) (pins:List (Addr×Obj)) (U:L2.St) (H:Hp) (S:Sto) (L:Addr) (ep:Nat) (κ:T->Ky) (ts:List T) (kvs:List V) (Hc:Hp) (s:Shared):Prop where
 I:Inv X pins U Hc s
 eL:Hc L=some (eN L (seqObj "list" #[] ep))
 ek:Hc (L+2)=some (bP (L+2) kvs)
 fc:Fr H S Hc S
 sc:SRp K Hc S
 rk:Rps K Hc S (ts.map λt=>tre (κ t)) kvs
variable {k:Nat}{f:Addr}{fd:FuncData}{x p:Str}{L5:WSp}{L:Addr}{ep:Nat}{κ:T->Ky}{ts ls:List T}{kvs:List V}{t:T}
theorem CZ {v:V}{u:Value}{items:Array Value}{Q:ForInStep PUnit->Shared->Prop}(F:FnOk X.prog X.w X.K X.mg X.base CX0 k f fd [p] (lSp K L5)) (D:Df X.K X.mg x f fd [p]) (hr:Room (k+2) X.A) (rt:Rp K H S t v) (ru:au v u) (hk:∀ S' Q',Q' (tre (κ t)) S'->L5 [t] S' Q')
  (nS:S L=none) (nk:H (L+2)=none) (nSk:S (L+2)=none) (hl:ts.length+1<=sizeLine) (J:SInv X K pins U H S L ep κ ts kvs Hc s)
  (h:∀ SH Hc' s',SInv X K pins U H S L ep κ (ts++[t]) SH Hc' s'->Q (.yield ⟨⟩) s'):wpAny (model X.prog X.w) X.A.in1.in1 (o7 L f items (.ref (L+2)) u ⟨⟩) Q E s:=by
 unfold o7
 refine wpAny_bind (wpAny_attempt (wpAny_call (codeAny_mono (F.run X.A.in1.in1 X.stack s Hc ⟨[u],[]⟩ [u] [v] (λv' H'=>Fr Hc S H' S/\SRp K H' S/\Rp K H' S (tre (κ t)) v') E0 hr.in1.in1 J.I.env0.in1.in1 (D.b s [u] J.I.kIn rfl) (.cons ru .nil)
  ⟨S,[t],λk' S'=>S'=S/\k'=tre (κ t),J.sc,.cons (rt.fr J.fc) .nil,hk S _ ⟨rfl,rfl⟩,λv' H' t' S' f' s' r' q'=>by obtain ⟨rfl,rfl⟩:=q';exact ⟨f',s',r'⟩⟩) λr s2 NK=>?_)))
 cases r with
 |error e=>exact False.elim NK
 |ok fl =>
  cases fl with
  |next=>exact False.elim NK
  |brk=>exact False.elim NK
  |cont=>exact False.elim NK
  |ret ku =>
   obtain ⟨v',H',I',r',f',s'',rp'⟩:=J.I.after NK
   have ek':=(f' (L+2) _ J.ek nSk).1
   obtain ⟨zz,Q8,nn,SG,eku⟩:=vi I' ek'
   have lk:(kvs++[v']).length<=sizeLine:=by rw [List.length_append,J.rk.length,List.length_map];exact hl
   have r2:=SG.append (.cons r' .nil)
   have lk2:(Q8++[ku]).length<=sizeLine:=r2.length ▸ lk
   refine wpAny_bind (listUpdate_at eku rfl ?_ ?_ ?_)
   ·refine wpAny_pure (h _ _ _ ⟨m9 I' ek' eku (its':=Q8++[ku]) (by simp) r2 lk,?_,aM,Fr.at (J.fc.trans f') nk,s''.chg ek' nSk,?_⟩)
    ·rw [aB (Ne.symm (Nat.ne_of_gt (Nat.lt_add_of_pos_right (by decide))))]
     exact (f' L _ J.eL nS).1
    ·rw [List.map_append]
     exact Rps.chg ek' ((J.rk.fr f').append (.cons rp' .nil))
   ·exact Nat.le_of_succ_le (by rw [List.length_append] at lk2;exact lk2)
   ·rw [Array.size_push]
    exact Nat.le_succ_of_le (by rw [List.length_append] at lk2;exact lk2)
variable {tr:Bool}{k0:Ky}{vs:List V}{its:List Value}{Qt:T->Sto->Prop}{Q:VK}
theorem sj {A:Around}{rest:SortSt->Sem PySem.Fin}{P:PySem.Fin->Shared->Prop}{Q8:List Value}(hK:X.K=K) (PM:ls.length<64) (hf:fit k0=true) (hd:A.units+k0.dep+1<cLine) (I:Inv X pins U H s) (hk:∀ t∈ls,Ky.ok (κ t)=true/\Ky.shp k0 (κ t)=true) (rs:Rps K H S ls vs) (rv:am vs its) (rk:Rps K H S (ls.map λt=>tre (κ t)) kvs) (SG:am kvs Q8)
  (h:∀ st zs OJ Pz,failedOf st=none->zs.Perm ls->zs.Pairwise (λa b=>Ky.lt (κ b) (κ a)=false)->(arrOf st).map (·.2)=Pz.toArray->Rps K H S zs OJ->am OJ Pz->OJ.length=its.length->wpAny (model X.prog X.w) A (rest st) P E s):wpAny (model X.prog X.w) A (o6 Q8.toArray its.toArray rest) P E s:=by
 have lk:Q8.length=its.length:=by rw [<- SG.length,rk.length,List.length_map,<- rs.length,rv.length]
 obtain ⟨g1,g2⟩:=zI hK I hk rs rv rk SG lk
 refine zH (k0:=k0) lk (by rw [<- rv.length,rs.length];exact PM) hf g1 hd λst hp Qo hs=>?_
 obtain ⟨zs,OJ,Pz,p1,p2,MC,rz,vz,lz⟩:=g2 _ hp hs
 exact h st zs OJ Pz Qo p1 p2 MC rz vz lz
theorem AV (hK:X.K=K) (F:FnOk X.prog X.w X.K X.mg X.base CX0 k f fd [p] (lSp K L5)) (D:Df X.K X.mg x f fd [p]) (hr:Room (k+2) X.A) (PM:ls.length<64) (hf:fit k0=true) (hd:k0.dep<=30) (hk:∀ t∈ls,Ky.ok (κ t)=true/\Ky.shp k0 (κ t)=true/\∀ S' Q',Q' (tre (κ t)) S'->L5 [t] S' Q') (hq:o8 tr ls κ S Qt) (b:Bh K H S Qt Q)
  (rs:Rps K H S ls vs) (rv:am vs its) (hz:its.length<=sizeLine) (nL:H L=none) (nk:H (L+2)=none) (nS:S L=none) (nSk:S (L+2)=none) (J:SInv X K pins U H S L ep κ [] [] Hc s) :
  wpAny (model X.prog X.w) X.A.in1.in1 (ol L f its.toArray ep (.ref (L+2))) (λfin s'=>∃ v,fin=.done (.ret v)/\EP X pins U Q (.ref L) s') E s:=by
 unfold ol
 refine wpAny_bind (wpAny_rule (wpAny_bind ?_))
 have hl:ls.length<=sizeLine:=by rw [<- rs.length,rv.length];exact hz
 refine PySem.MeetsSeq2.wpAny_forIn_array _ (λrest _ s'=>∃ ts rts Rs kvs Hc,ls=ts++rts/\Rps K H S rts Rs/\am Rs rest/\SInv X K pins U H S L ep κ ts kvs Hc s') _ ?_ ?_ _ _ ⟨[],ls,vs,[],Hc,rfl,rs,rv,J⟩
 ·rintro u rest ⟨⟩ s' ⟨ts,rts,Rs,kvs,Hc,e,r1,r2,J⟩
  cases r2 with
  |cons ru r2 =>
  cases r1 with
  |cons rt r1 =>
  rw [e] at hl
  exact CZ F D hr rt ru (hk _ (by rw [e];simp)).2.2 nS nk nSk (by simp at hl;omega) J λSH Hc' s' J'=>⟨_,_,_,_,_,by rw [e];simp,r1,r2,J'⟩
 ·rintro ⟨⟩ s' ⟨ts,rts,Rs,kvs,Hc,e,r1,r2,J⟩
  cases r2
  cases r1
  rw [List.append_nil] at e
  subst e
  obtain ⟨zz,Q8,nn,SG,eku⟩:=vi J.I J.ek
  refine wpAny_bind (listItems_at eku rfl ?_)
  refine sj hK PM hf (by have:=hr.in1.in1.units;omega) J.I (λt ht=>⟨(hk t ht).1,(hk t ht).2.1⟩) (rs.fr J.fc) rv J.rk SG λst zs OJ Pz Qo p1 p2 MC rz vz lz=>?_
  refine wpAny_bind (listUpdate_at eku rfl (wpAny_bind (wpAny_letGo ?_)) (by rw [List.size_toArray,<- SG.length];exact zz) (Nat.zero_le _))
  have I6:=m9 J.I J.ek eku (f:=λ_=>#[]) (its':=[]) (ws:=[]) rfl .nil (Nat.zero_le _)
  have eL6:upd _ (L+2) (bP (L+2) []) L=_:=(aB (Ne.symm (Nat.ne_of_gt (Nat.lt_add_of_pos_right (by decide))))).trans J.eL
  exact rg I6 eL6 Qo MC vz (lz ▸ hz) λs' I8=>⟨.ref L,_,I8,rfl,rh b nL (Fr.at J.fc nk) (J.sc.chg J.ek nSk) eL6 nS (Rps.chg J.ek rz) (hq _ p1 p2)⟩
end
theorem C0 {X:Cx}{K:Fg}(tr:Bool){k:Nat}{f:Addr}{fd:FuncData}{x p:Str}{L5:WSp}(hK:X.K=K) (F:FnOk X.prog X.w X.K X.mg X.base CX0 k f fd [p] (lSp K L5)) (D:Df X.K X.mg x f fd [p]) (hr:Room (k+2) X.A) :
  tE X (.builtin "sorted") [Str.ofString "key"] (lCK K (na tr f L5)):=by
 rintro pins s U H xs zs us ws Q I rv rz ⟨S,ts,Pz,Qt,sr,r1,r2,⟨x,ls,κ,k0,e1,e2,ev,PM,hf,hd,hk,hq⟩,b⟩
 subst e1 e2
 cases r1 with
 |cons rx RB =>
 cases RB
 cases r2 with
 |cons rf RB =>
 cases RB
 cases rf
 obtain ⟨u,rfl,ru⟩:=bW rv
 obtain ⟨u',rfl,ru'⟩:=bW rz
 cases ru'
 exact qH hK I sr rx ru ev (xY · _) (xr · _) (yo · f) λL ep Hc s5 vs its rs Rs hz J eL ek nL nk fc sc=>AV hK F D hr PM hf hd hk hq b rs Rs hz nL nk (sr.fresh nL) (sr.fresh nk) ⟨J,eL,ek,fc,sc,.nil⟩
def wSK (g:List T->List T->Sto->(T->Sto->Prop)->Prop) (wr:WA) (wk:WE):WE:=λU S Q=>wr U S λts S1=>wk U S1 λy S2=>g ts [y] S2 Q
theorem FQ {K:Fg}{g:List T->List T->Sto->(T->Sto->Prop)->Prop}{wr:WA}{wk:WE}{U H Q}(h:lE K (wSK g wr wk) U H Q):wf (lCK K g) (lA K wr) (nY (lE K wk) dn) U H Q:=by
 obtain ⟨S,LQ,Qt,s,c,q,hq⟩:=h
 refine ⟨S,LQ,_,s,c,q,λvs H1 ts S1 f1 s1 r1 q1=>?_⟩
 refine ⟨S1,LQ,_,s1,c.fr f1,q1,λy H2 ty S2 f2 s2 r2 q2=>?_⟩
 exact ⟨S2,ts,[ty],Qt,s2,r1.fr f2,.cons r2 .nil,q2,λv H' t S' f=>hq v H' t S' ((f1.trans f2).trans f)⟩
theorem sk {X:Cx}{K:Fg}(tr:Bool){k:Nat}{f:Addr}{fd:FuncData}{fx pn:Str}{L5:WSp}{p pos kp Rf:Pos}{e:Expr}{wr:WA}(hK:X.K=K) (F:FnOk X.prog X.w X.K X.mg X.base CX0 k f fd [pn] (lSp K L5)) (D:Df X.K X.mg fx f fd [pn]) (hr:Room (k+2) X.A)
  (hg:Gl X "sorted") (hm:X.mg "sorted"=none) (hgf:Gl X fx) (ha:QA K X [e] wr) (MV:(fx==("__debug__":Str))=false:=by decide)
  (hks:(backToKw pos (keywordEach [⟨some (Str.ofString "key"),.Name fx kp,Rf⟩] X.env)).filterMap (·.1)=[Str.ofString "key"]:=by rfl)
  (he:backTo pos (starEach [e] X.env)=(false,eval e X.env)::backTo pos (starEach [] X.env):=by rfl)
  (NY:(backTo pos (starEach [e] X.env)).any (·.1)=false:=by rfl)
  (Ry:(backToKw pos (keywordEach [⟨some (Str.ofString "key"),.Name fx kp,Rf⟩] X.env)).all (·.1.isSome)=true:=by rfl)
  (Tw:(backToKw pos (keywordEach [⟨some (Str.ofString "key"),.Name fx kp,Rf⟩] X.env)).any (·.1.isNone)=false:=by rfl) :
  QE K X (.Call (.Name "sorted" p) [e] [⟨some (Str.ofString "key"),.Name fx kp,Rf⟩] pos) (wSK (na tr f L5) wr (wC (.ref f))):=by
 have hk:QE K X (.Name fx kp) (wC (.ref f)):=mZ (rK (v:=.ref f) hgf D.hm rfl MV) λ_ _=>.ref
 exact PE.of (zr (C0 tr hK F D hr) hg hm PyProof.Rows.boot_sorted ha (B6 hk ET) hks (by decide) (by decide) he NY Ry Tw) λ_ _ _ h=>FQ h
theorem Lq {U:StT}{S:Sto}{Q:T->Sto->Prop}{g:List T->List T->Sto->(T->Sto->Prop)->Prop}{wr:WA}{wk:WE}(h:wr U S λts S1=>wk U S1 λy S2=>g ts [y] S2 Q):wSK g wr wk U S Q:=h
theorem sm {α:Type}{S:Sto}{Q:T->Sto->Prop}{tr:Bool}{f:Addr}{L5:WSp}{ft:α->T}{ls:List α}{x:T}(SI:T->Ky) (k0:Ky) (e:aN S x=some (ls.map ft)) (PM:ls.length<64) (hf:fit k0=true) (hd:k0.dep<=30)
  (hk:∀ a∈ls,Ky.ok (SI (ft a))=true/\Ky.shp k0 (SI (ft a))=true/\∀ S' Q',Q' (tre (SI (ft a))) S'->L5 [ft a] S' Q')
  (h:∀ l':List α,l'.Perm ls->l'.Pairwise (λa b=>Ky.lt (SI (ft b)) (SI (ft a))=false)->a0 tr (l'.map ft) S Q):na tr f L5 [x] [.ref f] S Q:=by
 refine ⟨x,ls.map ft,SI,k0,rfl,rfl,e,by rw [List.length_map];exact PM,hf,hd,λt ht=>?_,λzs hp hs=>?_⟩
 ·obtain ⟨a,ha,rfl⟩:=List.mem_map.mp ht
  exact hk a ha
 ·obtain ⟨l',p,rfl⟩:=l9 ft hp rfl
  rw [List.pairwise_map] at hs
  exact h l' p hs
end T2
namespace Tm
open PySem PySem.Spec PyProof.Rows
abbrev tl (x:Str):List Nat:=x.cps.toList
theorem ext {x y:Str}(h:tl x=tl y):x=y:=by cases x;cases y;simp only [tl] at h;rw [Array.toList_inj.mp h]
theorem len (x:Str):(tl x).length=x.length:=by simp [tl,Str.length]
theorem fG (x y:Str):tl (x++y)=tl x++tl y:=by show (x.cps++y.cps).toList=_;simp [tl]
theorem Jv (l:List Nat):tl ⟨l.toArray⟩=l:=by simp [tl]
noncomputable def ba (g:List Nat):List (List Nat)->List Nat
 |[]=>[]
 |[p]=>p
 |p::q::r=>p++g++ba g (q::r)
theorem ma (g:Str):∀ ps:List Str,tl (Str.join g ps)=ba (tl g) (ps.map tl)
 |[]=>rfl
 |[p]=>rfl
 |p::q::r=>by
  have ih:=ma g (q::r)
  show tl ((p++g++Str.join g (q::r)):Str)=tl p++tl g++ba (tl g) ((q::r).map tl)
  rw [<- ih,fG,fG]
theorem C1 (g:Str) (ps:List Str):tl (Txt.join g ps)=ba (tl g) (ps.map tl):=by
 rw [show Txt.join g ps=Str.join g ps from StrLaws.glued_eq_join g ps,ma]
theorem Jw:tl (" ":Str)=[32]:=by decide +kernel
theorem qh (x:Str):ba [32] ((Txt.split x " ").map tl)=tl x:=by
 have:=ma " " (Txt.split x " ")
 rw [StrLaws.join_split,Jw] at this
 exact this.symm
theorem split_free (x:Str):∀ p∈(Txt.split x " ").map tl,32∉p:=λp hp=>by
 obtain ⟨q,hq,rfl⟩:=List.mem_map.mp hp
 exact StrLaws.split_free x 32 q hq
theorem AW (x:Str):(Txt.split x " ")≠[]:=λh=>by
 have:=split_pos x " "
 rw [h] at this;simp at this
theorem tX (n d:Nat) (h:d<=n) (o:Option Int):HT.sIx n d o<=n:=by
 cases o with
 |none=>exact h
 |some v=>simp only [HT.sIx];split<;>omega
theorem AX (lo hi:Option Int) (n:Nat):Builtin.Str.strSliceIndices lo hi 1 n=(List.range (HT.sIx n n hi - HT.sIx n 0 lo)).map λk=>HT.sIx n 0 lo+k:=by
 have c:∀ i:Int,max 0 (min (if i<0 then i+(n:Int) else i) (n:Int))=(((if i<0 then (i+(n:Int)).toNat else min i.toNat n):Nat):Int):=λi=>by split<;>omega
 have key:Builtin.Str.strSliceIndices lo hi 1 n=sliceRange ((HT.sIx n 0 lo:Nat):Int) ((HT.sIx n n hi:Nat):Int) 1:=by
  unfold Builtin.Str.strSliceIndices
  cases lo with
  |none =>
   cases hi with
   |none=>rfl
   |some j=>simp only [show (1:Int)>0 by decide,if_true,c,HT.sIx];rfl
  |some i =>
   cases hi with
   |none=>simp only [show (1:Int)>0 by decide,if_true,c,HT.sIx]
   |some j=>simp only [show (1:Int)>0 by decide,if_true,c,HT.sIx]
 rw [key]
 unfold sliceRange
 simp only [show (1:Int)>0 by decide,if_true,Int.one_mul]
 have hc:(if ((HT.sIx n 0 lo:Nat):Int)<((HT.sIx n n hi:Nat):Int) then (((HT.sIx n n hi:Nat):Int) - ((HT.sIx n 0 lo:Nat):Int)+1 - 1) / 1 else 0).toNat=HT.sIx n n hi - HT.sIx n 0 lo:=by
  split
  ·rw [Int.ediv_one];omega
  ·simp;omega
 rw [hc]
 apply List.map_congr_left
 intro k _
 omega
theorem eW (x:Str) (lo hi:Option Int):tl (Txt.slice x lo hi)=((tl x).drop (HT.sIx x.length 0 lo)).take (HT.sIx x.length x.length hi - HT.sIx x.length 0 lo):=by
 have hA:=tX x.length 0 (Nat.zero_le _) lo
 have hB:=tX x.length x.length (Nat.le_refl _) hi
 have hl:=len x
 unfold Txt.slice
 rw [AX]
 split
 ·next h =>
  simp only [beq_self_eq_true,Bool.true_and,List.length_map,List.length_range,beq_iff_eq] at h
  have h0:HT.sIx x.length 0 lo=0\/x.length=0:=by omega
  rcases h0 with h0|h0
  ·rw [h0,List.drop_zero,List.take_of_length_le (by omega)]
  ·have:tl x=[]:=List.length_eq_zero_iff.mp (by omega)
   rw [this];simp
 ·rw [Jv]
  have:=StrLaws.picks (tl x) (HT.sIx x.length x.length hi - HT.sIx x.length 0 lo) (HT.sIx x.length 0 lo)
  by_cases hle:HT.sIx x.length 0 lo<=HT.sIx x.length x.length hi
  ·rw [<- this (by rw [hl];omega)]
   simp [tl]
  ·rw [show HT.sIx x.length x.length hi - HT.sIx x.length 0 lo=0 by omega];simp
theorem gj (x:Str) (k:Nat):tl (Txt.slice x none (some k))=(tl x).take k:=by
 rw [eW,HT.sIx_none,HT.sIx_nat,List.drop_zero,Nat.sub_zero,<- len x,<- List.take_take,List.take_of_length_le (Nat.le_refl _)]
theorem lc (x:Str) (k:Nat):tl (Txt.slice x (some k) none)=(tl x).drop k:=by
 rw [eW,HT.sIx_none,HT.sIx_nat,<- len x,List.take_of_length_le (by simp [List.length_drop])]
 by_cases h:k<=(tl x).length
 ·rw [Nat.min_eq_left h]
 ·rw [Nat.min_eq_right (by omega),List.drop_eq_nil_of_le (Nat.le_refl _),List.drop_eq_nil_of_le (by omega)]
theorem FR (x y:Str):Txt.startswith x y=decide ((tl x).take (tl y).length=tl y):=by
 unfold Txt.startswith
 rw [StrLaws.subAt_eq,List.drop_zero,Nat.zero_add,len]
 by_cases h:y.length<=x.length
 ·simp only [h,decide_true,Bool.true_and]
  rw [Bool.eq_iff_iff];simp
 ·simp only [h,decide_false,Bool.false_and]
  symm
  rw [decide_eq_false_iff_not]
  intro e
  have:=congrArg List.length e
  rw [List.length_take,len,len] at this
  omega
theorem ni {g:Str}{ps:List Str}{b:Nat}(h:∀ p∈ps,p.length<=b) (h2:ps.length * (b+g.length)<=10000):JoinOk g ps=true:=by
 have main:∀ (ps:List Str) (LU:Nat),(∀ p∈ps,p.length<=b)->ps.foldl (λa p=>a+p.length+g.length) LU<=LU+ps.length * (b+g.length):=by
  intro ps
  induction ps with
  |nil=>intro LU _;simp
  |cons p r ih =>
   intro LU h
   have:=ih (LU+p.length+g.length) λq hq=>h q (List.mem_cons_of_mem _ hq)
   have hp:=h p List.mem_cons_self
   simp only [List.foldl_cons,List.length_cons,Nat.add_mul,Nat.one_mul] at this ⊢
   omega
 have:=main ps 0 h
 unfold JoinOk Builtin.Str.tooLong
 rw [List.foldl_toArray]
 have hs:sizeLine=16777216:=sizeLine_eq
 simp only [Bool.not_eq_true',decide_eq_false_iff_not]
 omega
theorem AY (zs:List Str):T2.eC (zs.map T2.T.str)=some zs:=by
 induction zs with
 |nil=>rfl
 |cons a l ih=>simp [T2.rZ,ih]
theorem C2 (d:Nat):Str.length ⟨#[d]⟩=1:=rfl
theorem zJ:Str.length (Str.ofString "")=0:=by decide +kernel
theorem fY (g:List Nat):∀ (ps:List (List Nat)) (p:List Nat),p∈ps->p.length<=(ba g ps).length
 |[],_,h=>by cases h
 |[q],p,h=>by rw [List.mem_singleton.mp h];simp [ba]
 |q::q2::r,p,h=>by
  simp only [ba,List.length_append]
  rcases List.mem_cons.mp h with rfl|h
  ·omega
  ·have:=fY g (q2::r) p h
   omega
theorem zK {a x:Str}(h:x∈Txt.split a " "):x.length<=a.length:=by
 have:=fY [32] _ _ (List.mem_map_of_mem (f:=tl) h)
 rw [qh,len,len] at this
 exact this
theorem pX (x y:Str):Txt.startswith x y=decide (Txt.slice x none (some (y.length:Int))=y):=by
 rw [FR,len,Bool.eq_iff_iff]
 simp only [decide_eq_true_eq]
 constructor
 ·intro h;exact ext (by rw [gj];exact h)
 ·intro h;rw [<- gj,h]
end Tm
namespace T2
open PySem PySem.Spec PyProof.Rows L2
section
variable {K:Fg}{X:Cx}{k:Nat}{f:Addr}{fd:FuncData}{ps:List Str}{L5:WSp}{x m:Str}{p pos apos cpos:Pos}{e o:Expr}{es:List Expr}{wa wb:WE}{wr:WA}{id ty:String}{g:GC}{gm:GM}{i:Nat}
theorem aa (i:Nat) (hN:X.N[i]?=some x:=by rfl) (hv:Vis X.env.scope x:=by first|exact Or.inl rfl|exact Or.inr (Or.inl rfl)|exact Or.inr (Or.inr rfl)) (hd:(x==("__debug__":Str))=false:=by decide)
  (Qm:(x==("__classdict__":Str))=false:=by decide):QE K X (.Name x pos) (wV i):=Iw (Eo hN hv hd Qm)
theorem o9 {n:String}(hg:Gl X x) (hm:X.mg x=none) (hv:bootBuiltins x=some (.type n)) (hn:x ≠ "__name__":=by decide) (hd:(x==("__debug__":Str))=false:=by decide):QE K X (.Name x pos) (wC (.ty n)) :=
 mZ (BP (v:=.ty n) hg hm hv rfl hn hd) λ_ _=>.ty
theorem bK {n:Int}(hg:Gl X x) (hm:∃ tk,X.mg x=some (.int n tk)) (hd:(x==("__debug__":Str))=false:=by decide):QE K X (.Name x pos) (wC (.int n)):=by
 obtain ⟨tk,hm⟩:=hm
 exact mZ (rK (v:=.int n) hg hm ⟨tk,rfl⟩ hd) λ_ _=>.int
theorem FS (F:FnOk X.prog X.w X.K X.mg X.base CX0 k f fd ps (lSp K L5)) (D:Df X.K X.mg x f fd ps) (hr:Room k X.A) (hg:Gl X x) (ha:QA K X (e::es) wr)
  (MV:(x==("__debug__":Str))=false:=by decide) (he:starEach (e::es) X.env=(false,eval e X.env)::starEach es X.env:=by rfl) (MS:(backTo pos (starEach es X.env)).any (·.1)=false:=by rfl) :
  QE K X (.Call (.Name x p) (e::es) [] pos) (gX L5 [] wr):=Fd (dvs:=[]) (λ_ _=>.nil) (B4 F hr hg D.hm D.kp D.b .nil fL ha MV he MS)
theorem Lr (hc:a8 X (.builtin id) (lC K g)) (hg:Gl X x) (hm:X.mg x=none) (hv:bootBuiltins x=some (.builtin id)) (ha:QA K X (e::es) wr) (hn:x ≠ "__name__":=by decide) (MV:(x==("__debug__":Str))=false:=by decide)
  (he:starEach (e::es) X.env=(false,eval e X.env)::starEach es X.env:=by rfl) (MS:(backTo pos (starEach es X.env)).any (·.1)=false:=by rfl):QE K X (.Call (.Name x p) (e::es) [] pos) (wCB g wr):=wL (Ar hc hg hm hv ha hn MV he MS)
theorem om (hc:a8 X (.type id) (lC K g)) (hg:Gl X x) (hm:X.mg x=none) (hv:bootBuiltins x=some (.type id)) (ha:QA K X (e::es) wr) (hn:x ≠ "__name__":=by decide) (MV:(x==("__debug__":Str))=false:=by decide)
  (he:starEach (e::es) X.env=(false,eval e X.env)::starEach es X.env:=by rfl) (MS:(backTo pos (starEach es X.env)).any (·.1)=false:=by rfl):QE K X (.Call (.Name x p) (e::es) [] pos) (wCB g wr):=wL (zl hc hg hm hv ha hn MV he MS)
theorem Ls (hK:X.K=K) (pa:PlainAttrs ty) (slot:Slot ty m id) (Rr:typeOf (.builtin id)=pure (.type "method_descriptor")) (hm:MtR X id (lM K gm)) (ho:QE K X o wa) (ha:QA K X (e::es) wr)
  (h:∀ {to t r},PE X o to->MtR X id r->PA X (e::es) t->PE X (.Call (.Attribute o m apos) (e::es) [] cpos) (tBM X.K ty r to t)):QE K X (.Call (.Attribute o m apos) (e::es) [] cpos) (wBM ty gm wa wr):=by
 subst hK
 exact K7 (h ho hm ha)
theorem C3 {y:Str}{i:Nat}(hN:X.N.Nodup) (hi:X.N[i]?=some y) (hx:Loc X.env.scope y) (hf:X.fn y=true\/X.env.scope.names.lookup y=some .local:=by first|exact .inl rfl|exact .inr rfl|assumption):QG K X (.Name y pos) (wgN i):=Cy (BV hN hi hx hf)
theorem FT {i:Expr}{wo wi:WE}{g:GS}(ho:QE K X o wo) (hi:QE K X i wi) (hs:c3 X (eK K g))
  (h:∀ {to ti t},PE X o to->PE X i ti->c3 X t->PG X (.Subscript o i pos) (L2.eD to ti t)):QG K X (.Subscript o i pos) (wgS wo wi g):=Fq (h ho hi hs)
end
end T2
namespace T2
open PySem PySem.Spec PyProof.Rows L2 S6
theorem xZ (a:Value):argsOk "sorted" ⟨[a],[]⟩:=by unfold argsOk;kernel_rfl
theorem xt (a:Value):argsOk "list.sort" ⟨[a],[]⟩:=by unfold argsOk;kernel_rfl
theorem xK (a:Addr):Builtin.«list.sort» ⟨[.ref a],[]⟩=ik a λitems before _=>o6 items items (j5 a before):=by rfl
def vj (tr:Bool):List T->Sto->(T->Sto->Prop)->Prop:=λts S Q=>∃ x xs κ k0,ts=[x]/\aN S x=some xs/\xs.length<64/\fit k0=true/\k0.dep<=30 /\
 (∀ t∈xs,Ky.ok (κ t)=true/\Ky.shp k0 (κ t)=true/\tre (κ t)=t)/\o8 tr xs κ S Q
theorem FU {X:Cx}{K:Fg}(tr:Bool) (hK:X.K=K) (hr:Room 2 X.A) :
  a8 X (.builtin "sorted") (lC K (vj tr)):=by
 rintro pins s U H xs us Q I rv ⟨S,ts,Qt,sr,r1,⟨x,ls,κ,k0,e1,ev,PM,hf,hd,hk,hq⟩,b⟩
 subst e1
 cases r1 with
 |cons rx RB =>
 cases RB
 obtain ⟨u,rfl,ru⟩:=bW rv
 refine qH hK I sr rx ru ev xZ xt xK λL ep Hc s5 vs its rs Rs hz J eL ek nL nk fc sc=>?_
 have rs5:=rs.fr fc
 refine sj hK PM hf (by have:=hr.in1.in1.units;omega) J (λt ht=>⟨(hk t ht).1,(hk t ht).2.1⟩) rs5 Rs (by rw [List.map_congr_left λt ht=>(hk t ht).2.2,List.map_id'];exact rs5) Rs λst zs OJ Pz Qo p1 p2 MC rz vz lz=>?_
 exact rg J eL Qo MC vz (lz ▸ hz) λs' I8=>⟨.ref L,_,I8,rfl,rh b nL fc sc eL (sr.fresh nL) rz (hq _ p1 p2)⟩
theorem FV {α:Type}{S:Sto}{Q:T->Sto->Prop}{tr:Bool}{ls:List α}{x:T}(κ:α->Ky) (SI:T->Ky) (k0:Ky) (e:aN S x=some (ls.map λa=>tre (κ a))) (hT:∀ a∈ls,SI (tre (κ a))=κ a) (PM:ls.length<64) (hf:fit k0=true) (hd:k0.dep<=30)
  (hk:∀ a∈ls,Ky.ok (κ a)=true/\Ky.shp k0 (κ a)=true)
  (h:∀ l':List α,l'.Perm ls->l'.Pairwise (λa b=>Ky.lt (κ b) (κ a)=false)->a0 tr (l'.map λa=>tre (κ a)) S Q):vj tr [x] S Q:=by
 refine ⟨x,ls.map λa=>tre (κ a),SI,k0,rfl,e,by rw [List.length_map];exact PM,hf,hd,λt ht=>?_,λzs hp hs=>?_⟩
 ·obtain ⟨a,ha,rfl⟩:=List.mem_map.mp ht
  have:=hk a ha
  rw [hT a ha]
  exact ⟨this.1,this.2,rfl⟩
 ·obtain ⟨l',p,rfl⟩:=l9 (λa=>tre (κ a)) hp rfl
  rw [List.pairwise_map] at hs
  refine h l' p (hs.imp_of_mem fun {a b} ha hb q=>?_)
  rw [hT a (p.mem_iff.mp ha),hT b (p.mem_iff.mp hb)] at q
  exact q
end T2
namespace T2
open PySem PySem.Spec PyProof.Rows L2
section
variable {κ:Type}[DecidableEq κ]
noncomputable def aQ (kts:List (κ×T)) (k:κ):Option T:=(kts.find? λkv=>decide (kv.1=k)).map (·.2)
noncomputable def cX (kts:List (κ×T)) (k:κ) (t:T):List (κ×T) :=
 if (kts.any λkv=>decide (kv.1=k))=true then kts.map (λkv=>if kv.1=k then (kv.1,t) else kv) else kts++[(k,t)]
noncomputable def fO (kts:List (κ×T)) (k:κ):List (κ×T):=kts.filter λkv=>decide (kv.1≠k)
abbrev PrT (K:Fg) (H:Hp) (S:Sto):List (κ×T)->List (κ×V)->Prop:=Paired λ(p:κ×T) (q:κ×V)=>p.1=q.1/\Rp K H S p.2 q.2
variable {K:Fg}{H:Hp}{S:Sto}
theorem md {k:κ}{t:T}:∀ {kts:List (κ×T)}{kvs:List (κ×V)},PrT K H S kts kvs->aQ kts k=some t->∃ v,aZ kvs k=some v/\Rp K H S t v:=by
 intro kts kvs pr
 induction pr with
 |nil=>intro e;cases e
 |@cons p q2 l l' er ps ih =>
  intro h
  obtain ⟨a,b⟩:=p;obtain ⟨c,d⟩:=q2;obtain ⟨e,r⟩:=er
  simp only at e;subst e
  unfold aQ aZ at *
  rw [List.find?_cons] at h ⊢
  by_cases z:a=k
  ·simp only [z,decide_true,Option.map_some,Option.some.injEq] at h ⊢
   subst h;exact ⟨d,rfl,r⟩
  ·simp only [z,decide_false] at h ⊢
   exact ih h
theorem me {k:κ}:∀ {kts:List (κ×T)}{kvs:List (κ×V)},PrT K H S kts kvs->(aZ kvs k).isSome=(aQ kts k).isSome:=by
 intro kts kvs pr
 induction pr with
 |nil=>exact rfl
 |@cons p q2 l l' er ps ih =>
  obtain ⟨a,b⟩:=p;obtain ⟨c,d⟩:=q2;obtain ⟨e,r⟩:=er
  simp only at e;subst e
  unfold aQ aZ
  rw [List.find?_cons,List.find?_cons]
  by_cases z:a=k
  ·simp [z]
  ·simp only [z,decide_false]
   exact ih
theorem FW {k:κ}:∀ {kts:List (κ×T)}{kvs:List (κ×V)},PrT K H S kts kvs->(kvs.any λkv=>decide (kv.1=k))=kts.any λkv=>decide (kv.1=k):=by
 intro kts kvs pr
 induction pr with
 |nil=>exact rfl
 |@cons p q2 l l' er ps ih =>
  obtain ⟨a,b⟩:=p;obtain ⟨c,d⟩:=q2;obtain ⟨e,r⟩:=er
  simp only at e;subst e
  rw [List.any_cons,List.any_cons,ih]
theorem Paired.app {α β:Type}{F:α->β->Prop}:∀ {a:List α}{b:List β}{c:List α}{d:List β},Paired F a b->Paired F c d->Paired F (a++c) (b++d)
 |_,_,_,_,.nil,r=>r
 |_,_,_,_,.cons h t,r=>.cons h (Paired.app t r)
theorem C4 {k:κ}{t:T}{v:V}(r:Rp K H S t v):∀ {kts:List (κ×T)}{kvs:List (κ×V)},PrT K H S kts kvs->PrT K H S (kts.map λkv=>if kv.1=k then (kv.1,t) else kv) (kvs.map λkv=>if kv.1=k then (kv.1,v) else kv):=by
 intro kts kvs pr
 induction pr with
 |nil=>exact .nil
 |@cons p q2 l l' er ps ih =>
  obtain ⟨a,b⟩:=p;obtain ⟨c,d⟩:=q2;obtain ⟨e,q⟩:=er
  simp only at e;subst e
  refine .cons ?_ (ih)
  dsimp only
  by_cases z:a=k
  ·rw [if_pos z,if_pos z];exact ⟨rfl,r⟩
  ·rw [if_neg z,if_neg z];exact ⟨rfl,q⟩
theorem tY {k:κ}{t:T}{v:V}(r:Rp K H S t v){kts:List (κ×T)}{kvs:List (κ×V)}(p:PrT K H S kts kvs):PrT K H S (cX kts k t) (b6 kvs k v):=by
 unfold cX b6
 rw [FW p]
 split
 ·exact C4 r p
 ·exact Paired.app p (.cons ⟨rfl,r⟩ .nil)
theorem C5 {k:κ}:∀ {kts:List (κ×T)}{kvs:List (κ×V)},PrT K H S kts kvs->PrT K H S (fO kts k) (eA kvs k):=by
 intro kts kvs pr
 induction pr with
 |nil=>exact .nil
 |@cons p q2 l l' er ps ih =>
  obtain ⟨a,b⟩:=p;obtain ⟨c,d⟩:=q2;obtain ⟨e,q⟩:=er
  simp only at e;subst e
  unfold fO eA
  rw [List.filter_cons,List.filter_cons]
  by_cases z:a=k
  ·simp only [z,ne_eq,not_true,decide_false,Bool.false_eq_true,if_false];exact ih
  ·simp only [z,ne_eq,not_false_eq_true,decide_true,if_true];exact .cons ⟨rfl,q⟩ (ih)
end
noncomputable def wQ:Key->T
 |.inl i=>.int i
 |.inr x=>.str x
section
variable {K:Fg}{X:Cx}{H:Hp}{S:Sto}
theorem fP {t:T}{v:V}{k:Key}(r:Rp K H S t v) (e:cr t=some k):v=kV k:=by
 cases r<;>simp only [cr,Option.some.injEq,reduceCtorEq] at e<;>subst e<;>rfl
theorem C6 (k:Key):Rp K H S (wQ k) (kV k):=by cases k<;>constructor
def RdT (w:World) (S:Sto) (a:Addr) (kts:List (Key×T)):Prop:=S a=some (.dK kts)\/∃ od kvs,S a=some (.fK w od kvs kts)
theorem on {w:World}{a:Addr}{kts:List (Key×T)}(s:SRp K H S) (g:RdT w S a kts):∃ kvs,RdK w H a kvs/\PrT K H S kts kvs:=by
 rcases g with e|⟨od,kvs,e⟩
 ·cases s a _ e with
  |dK h p=>exact ⟨_,.inl h,p⟩
 ·cases s a _ e with
  |fK h p=>exact ⟨_,.inr ⟨_,h⟩,p⟩
theorem oo {a:Addr}{kts:List (Key×T)}(s:SRp K H S) (e:S a=some (.dK kts)):∃ kvs,H a=some (.dK kvs)/\PrT K H S kts kvs:=by
 cases s a _ e with
 |dK h p=>exact ⟨_,h,p⟩
theorem AZ {a:Addr}{kts us:List (Key×T)}{ws:List (Key×V)}{Qt:T->Sto->Prop}{Q:VK}{t:T}{v:V}(s:SRp K H S) (e:S a=some (.dK kts)) (p:PrT K H S us ws) (b:Bh K H S Qt Q) (r:Rp K H S t v) (q:Qt t (put S a (.dK us))):Q v (upd H a (.dK ws)):=by
 have hn:S a≠none:=by rw [e];simp
 have f:Fr H S (upd H a (.dK ws)) (put S a (.dK us)):=Fr.write hn
 exact b _ _ _ _ f (s.write hn (.dK aM (Paired.mapP p λ_ _ z=>⟨z.1,z.2.fr f⟩))) (r.fr f) q
def j6 (w:World):G2:=λx y S Q=>∃ a kts k t,x=.ref a/\RdT w S a kts/\cr y=some k/\aQ kts k=some t/\Q t S
theorem Jx {o i:Expr}{wo wi:WE}{pos:Pos}(ho:QE K X o wo) (hi:QE K X i wi) (hs:hZ i):QE K X (.Subscript o i pos) (w2 (j6 X.w) wo wi):=PE.of (Cv ho hi hs) λU H Q zz101=>by
 obtain ⟨S,LQ,Qt,s,c,q,hq⟩:=zz101
 refine ⟨S,LQ,_,s,c,q,λx H1 tx S1 f1 s1 r1 q1=>?_⟩
 refine ⟨S1,LQ,_,s1,c.fr f1,q1,λy H2 ty S2 f2 s2 r2 q2=>?_⟩
 obtain ⟨a,kts,k,t,rfl,g,ek,l,q2⟩:=q2
 cases r1
 obtain ⟨kvs,hg,p⟩:=on s2 g
 obtain ⟨v,lv,rv⟩:=md p l
 exact ⟨a,kvs,k,v,rfl,hg,fP r2 ek,lv,hq v H2 t S2 (f1.trans f2) s2 rv q2⟩
def io (w:World) (neg:Bool):G2:=λx y S Q=>∃ a kts k,y=.ref a/\RdT w S a kts/\cr x=some k/\Q (.bl (neg ^^ (aQ kts k).isSome)) S
theorem Jy:OpR X (compareOp .In) (l2 K (io X.w false)):=by
 rintro pins s U H x y v u Q I rx ry ⟨S,tx,ty,Qt,sr,hx,hy,⟨a,kts,k,e,g,ek,q⟩,b⟩
 subst e
 cases hy
 cases (show u=Value.ref a from ry)
 obtain ⟨kvs,hg,p⟩:=on sr g
 have:=fP hx ek
 subst this
 refine K2 I hg rx λs' I'=>⟨.bl (aZ kvs k).isSome,H,I',rfl,b _ H _ S .refl sr .bl ?_⟩
 rw [me p];simpa using q
theorem A0:OpR X (compareOp .NotIn) (l2 K (io X.w true)):=by
 rintro pins s U H x y v u Q I rx ry ⟨S,tx,ty,Qt,sr,hx,hy,⟨a,kts,k,e,g,ek,q⟩,b⟩
 subst e
 cases hy
 cases (show u=Value.ref a from ry)
 obtain ⟨kvs,hg,p⟩:=on sr g
 have:=fP hx ek
 subst this
 refine Cu I hg rx λs' I'=>⟨.bl (!(aZ kvs k).isSome),H,I',rfl,b _ H _ S .refl sr .bl ?_⟩
 rw [me p];simpa using q
def vk:GS:=λo i v S Q=>∃ a kts k,o=.ref a/\S a=some (.dK kts)/\cr i=some k/\kts.length<sizeLine/\Q (put S a (.dK (cX kts k v)))
theorem nj (hu:X.A.units+1<cLine):c3 X (eK K vk):=by
 rintro pins s U H o i v ov iv u Q I ro ri rv ⟨S,to,ti,tv,Qt,sr,hO,hI,hV,⟨a,kts,k,e,ea,ek,hl,q⟩,b⟩
 subst e
 cases hO
 cases (show ov=Value.ref a from ro)
 obtain ⟨kvs,hk,p⟩:=oo sr ea
 have:=fP hI ek
 subst this
 have hn:S a≠none:=by rw [ea];simp
 refine qB hu I (eE.k hk (by rw [Paired.len p];exact hl)) ri rv λs' I'=>⟨_,I',?_⟩
 exact b _ _ (Fr.write hn) (sr.write hn (.dK aM (Paired.mapP (tY hV p) λ_ _ z=>⟨z.1,z.2.fr (Fr.write hn)⟩))) q
def vm:GM:=λx ts S Q=>∃ a kts y k t,x=.ref a/\ts=[y]/\S a=some (.dK kts)/\cr y=some k/\aQ kts k=some t/\Q t (put S a (.dK (fO kts k)))
theorem tZ:MtR X "dict.pop" (lM K vm):=by
 rintro pins s U H x xs v us Q I rx rv ⟨S,t,ts,Qt,sr,hx,rs,⟨a,kts,y,k,t',e,e2,ea,ek,l,q⟩,b⟩
 subst e e2
 cases hx
 cases rs with
 |cons ry rn =>
  cases rn
  obtain ⟨kvs,hk,p⟩:=oo sr ea
  obtain ⟨w',lw,QB⟩:=md p l
  have:=fP ry ek
  subst this
  exact Cw pins s U H _ _ v us Q I rx rv ⟨a,kvs,k,w',rfl,rfl,hk,lw,AZ sr ea (C5 p) b QB q⟩
def vn:WE:=λ_ S Q=>∀ p,S p=none->Q (.ref p) (put S p (.dK []))
theorem t4 {pos:Pos}:QE K X (.Dict [] [] pos) vn:=PE.of AD λU H Q ⟨S,LQ,Qt,s,c,q,hq⟩=>λp hp =>
 hq _ _ (.ref p) _ (Fr.newT hp) (s.newT hp (.dK aM .nil)) .ref (q p (s.fresh hp))
noncomputable def jJ (kv:Key×T):T:=.tup [wQ kv.1,kv.2]
def wiP (w:World) (wa:WE):WI:=λU S R=>wa U S λx S1=>∃ d kts,x=.ref d/\S1 d=some (.dK kts)/\∀ od kvs,R ⟨kts.map jJ,λS'=>S' d=some (.fK w od kvs kts)⟩ (put S1 d (.fK w od kvs kts))
theorem C7 {w:World}{d:Addr}{od:Obj}{kts:List (Key×T)}{kvs:List (Key×V)}(s:SRp K H S) (e:S d=some (.dK kts)) (p:PrT K H S kts kvs) :
  Fr H S (upd H d (fzH w d od kvs)) (put S d (.fK w od kvs kts))/\SRp K (upd H d (fzH w d od kvs)) (put S d (.fK w od kvs kts)):=by
 have hn:S d≠none:=by rw [e];simp
 exact ⟨Fr.write hn,s.write hn (.fK aM (Paired.mapP p λ_ _ z=>⟨z.1,z.2.fr (Fr.write hn)⟩))⟩
theorem A1 {o:Expr}{wa:WE}{Oh:List Expr}{x1:Nat}{NA apos cpos:Pos}(ho:QE K X o wa) (hK:X.K=K)
  (NM:attributeBase o "items" X.env (eval o X.env)=eval o X.env:=by rfl) (N5:(apos.endLine==cpos.line)=true:=by rfl):QI K X (.Tuple Oh x1 NA) (.Call (.Attribute o "items" apos) [] [] cpos) (wiP X.w wa):=by
 subst hK
 refine PI.of (AI (EX PySem.F.plainAttrs_dict PySem.F.slot_dict_items PySem.F.type_dict_items AH ho NM N5)) λU H R zz102=>?_
 obtain ⟨S,LQ,Rt,s,c,q,hq⟩:=zz102
 refine ⟨S,LQ,_,s,c,q,λx H1 tx S1 f1 s1 r1 q1=>?_⟩
 obtain ⟨d,kts,rfl,ed,q1⟩:=q1
 cases r1
 obtain ⟨kvs,hk,p⟩:=oo s1 ed
 refine ⟨.inr (.inr (.inl ⟨rfl,.inl ⟨_,hk⟩⟩)),d,kvs,rfl,rfl,hk,λv hv=>?_⟩
 have nd:d≠v:=bB hk hv
 refine ⟨v,d,kvs,rfl,aM,by rw [aB nd];exact hk,λod=>?_⟩
 have fv:Fr H1 S1 (upd H1 v (gU v d)) S1:=Fr.new hv
 obtain ⟨f2,s2⟩:=C7 (w:=X.w) (od:=od) (s1.new (u:=gU v d) hv) ed (Paired.mapP p λ_ _ z=>⟨z.1,z.2.fr fv⟩)
 refine hq _ _ _ _ ((f1.trans fv).trans f2) s2 ⟨?_,?_,?_⟩ (q1 od kvs)
 ·intro H' S' i f' s' g hi
  cases s' d _ g with
  |fK h p' =>
   dsimp only at hi
   rw [List.length_map] at hi
   exact ⟨h,by rw [Paired.len p'];exact hi⟩
 ·rintro H' S' i x H'' f' s' g hi ⟨pp,kv,ek,hp,ex,eH⟩
  subst eH ex
  cases s' d _ g with
  |fK h p' =>
   obtain ⟨kt,e1,e2⟩:=oY p' ek
   refine ⟨jJ kt,by rw [List.getElem?_map,e1];rfl,Fr.new hp,s'.new hp,?_⟩
   refine .tup (s'.fresh hp) aM (.cons ?_ (.cons (e2.2.fr (Fr.new hp)) .nil))
   rw [e2.1];exact C6 _
 ·intro H' S' f' s' g
  cases s' d _ g with
  |fK h p'=>exact ⟨h,by rw [Paired.len p',List.length_map];exact Nat.le_refl _⟩
def pc (w:World) (we:WE):WE:=λU S Q=>we U S λt S'=>∃ d od kvs kts,S' d=some (.fK w od kvs kts)/\Q t (put S' d (.dK kts))
theorem C8 {w:World}{d:Addr}{od:Obj}{kts:List (Key×T)}{kvs:List (Key×V)}(s:SRp K H S) (e:S d=some (.fK w od kvs kts)) :
  H d=some (fzH w d od kvs)/\Fr H S (upd H d (.dK kvs)) (put S d (.dK kts))/\SRp K (upd H d (.dK kvs)) (put S d (.dK kts)):=by
 have hn:S d≠none:=by rw [e];simp
 cases s d _ e with
 |fK h p=>exact ⟨h,Fr.write hn,s.write hn (.dK aM (Paired.mapP p λ_ _ z=>⟨z.1,z.2.fr (Fr.write hn)⟩))⟩
theorem Jz {e:Expr}{we:WE}(h:QE K X e we):QE K X e (pc X.w we):=PE.of (PE.unf h) λU H Q zz103=>by
 obtain ⟨S,LQ,Qt,s,c,q,hq⟩:=zz103
 refine ⟨S,LQ,_,s,c,q,λv H1 t S1 f1 s1 r1 q1=>?_⟩
 obtain ⟨d,od,kvs,kts,e,q1⟩:=q1
 obtain ⟨h1,f2,s2⟩:=C8 s1 e
 exact ⟨d,od,kvs,h1,hq v _ t _ (f1.trans f2) s2 (r1.fr f2) q1⟩
end
section
variable {K:Fg}{X:Cx}{k:Nat}{f C:Addr}{fd:FuncData}{ps:List Str}{L5:WSp}{x m fl:Str}{p pos apos cpos MT:Pos}{e o value:Expr}{es:List Expr}{wa wv:WE}{wr:WA}{G:Addr->Prop}
theorem mK (M:Mk X.K C f) (F:FnOk X.prog X.w X.K X.mg X.base CX0 k f fd ["self"] (lSp K L5)) (hb:ao X.K fd ["self"] []) (hr:Room (k+1) X.A) (hg:Gl X x) (hm:X.mg x=some (.ref C)) (MV:(x==("__debug__":Str))=false:=by decide) :
  QE K X (.Call (.Name x p) [] [] pos) (gY C L5 [] dq):=CB (dvs:=[]) (λ_ _=>.nil) (Aq M F hr hg hm hb .nil fL MV)
theorem aL {pl:Sem Bool}(hG:∀ C,G C->Cls X.K C/\Meth X.K C m f) (F:FnOk X.prog X.w X.K X.mg X.base CX0 k f fd ps (lSp K L5)) (hb:ao X.K fd ps []) (hr:Room k X.A) (ho:QE K X o wa) (ha:QA K X (e::es) wr)
  (PC:starEach (e::es) X.env=(false,eval e X.env)::starEach es X.env:=by rfl) (MS:(backTo pos (starEach es X.env)).any (·.1)=false:=by rfl)
  (ht:eval (.Call (.Attribute o m apos) (e::es) [] pos) X.env=(do
   let ov <- eval o X.env
   standAt apos.atName
   let (f,first) <- holding [ov] (getMethod ov m pl)
   callWith pos f first (backTo pos (starEach (e::es) X.env)) (backToKw pos (keywordEach [] X.env))):=by rfl) :
  QE K X (.Call (.Attribute o m apos) (e::es) [] pos) (dJ G m L5 [] wa wr):=tL (dvs:=[]) (λ_ _=>.nil) (qS (pl:=pl) ho hG F hr hb .nil fL ha PC MS ht)
theorem cf {pl:Sem Bool}(hG:∀ C,G C->Cls X.K C/\Meth X.K C m f) (F:FnOk X.prog X.w X.K X.mg X.base CX0 k f fd ps (lSp K L5)) (hb:ao X.K fd ps []) (hr:Room k X.A) (ho:QE K X o wa)
  (ht:eval (.Call (.Attribute o m apos) [] [] pos) X.env=(do
   let ov <- eval o X.env
   standAt apos.atName
   let (f,first) <- holding [ov] (getMethod ov m pl)
   callWith pos f first (backTo pos (starEach [] X.env)) (backToKw pos (keywordEach [] X.env))):=by rfl) :
  QE K X (.Call (.Attribute o m apos) [] [] pos) (dJ G m L5 [] wa dq):=CA (dvs:=[]) (λ_ _=>.nil) (zy (pl:=pl) ho hG F hr hb .nil fL ht)
theorem JA (hK:X.K=K) (hG:∀ C,G C->Cls K C/\aJ K C fl) (he:QE K X o wa) (hb:attributeBase o fl X.env (eval o X.env)=eval o X.env:=by rfl):QE K X (.Attribute o fl pos) (jW G wa fl):=IA hK hG he hb
theorem JB (w:World){i:Expr}{wi:WE}(hw:X.w=w) (ho:QE K X o wa) (hi:QE K X i wi) (hs:hZ i):QE K X (.Subscript o i pos) (w2 (j6 w) wa wi):=by subst hw;exact Jx ho hi hs
theorem dL (w:World) (hw:X.w=w):OpR X (compareOp .In) (l2 K (io w false)):=by subst hw;exact Jy
theorem eX (w:World) (hw:X.w=w):OpR X (compareOp .NotIn) (l2 K (io w true)):=by subst hw;exact A0
theorem C9 (w:World){Oh:List Expr}{x1:Nat}{NA:Pos}(hw:X.w=w) (hK:X.K=K) (ho:QE K X o wa)
  (NM:attributeBase o "items" X.env (eval o X.env)=eval o X.env:=by rfl) (N5:(apos.endLine==cpos.line)=true:=by rfl):QI K X (.Tuple Oh x1 NA) (.Call (.Attribute o "items" apos) [] [] cpos) (wiP w wa):=by subst hw;exact A1 ho hK NM N5
theorem JC (w:World) (hw:X.w=w) (h:QE K X e wa):QE K X e (pc w wa):=by subst hw;exact Jz h
structure FunD (K:Fg) (x qual:Str) (st:Stmt) (f:Addr) (fd:FuncData):Prop where
 ex:∃ (oc:Value) (od:Option Addr) (dV kV doc pm:Value) (an:Option Addr) (cdv ct:Value) (osl:Array (Option Value)),
  fd=PySem.W.fnOf x qual (ck st) (bG st) (aq st) dV kV doc pm an cdv ct/\K.lookup f=some ⟨oc,od,.func fd,osl⟩/\PySem.W.codeIn K cdv qual=true
theorem Fun.toD {x qual:Str}{st:Stmt}(F:Fun K x qual st f fd):FunD K x qual st f fd:=by
 obtain ⟨oc,od,kV,doc,pm,an,cdv,ct,osl,h⟩:=F.ex
 exact ⟨⟨oc,od,.none,kV,doc,pm,an,cdv,ct,osl,h⟩⟩
theorem Dc {P:Program}{w:World}{mg:Str->Option Value}{base:Heap}{x qual:Str}{st:Stmt}{N:List Str}(F:FunD K x qual st f fd) (Sc:FnScope N ps (aq st)) (len:∀ ts S Q,L5 ts S Q->ts.length=ps.length)
  (NL:∀ (cdv:Value) (A:Around) (outer:List Env) (s:Shared) (H:Hp) (E:XK),Room k (A.deeper (envOfC qual (aq st) s.heap.objs.size f cdv)) ->
   ∃ u,QSs K (cJ CX0 P w K mg base N qual (aq st) f cdv A outer s H E).nox (bG st) u/\∀ ts S Q,L5 ts S Q->u { nx:=λ_ S'=>Fin Q .non S',rt:=Fin Q } (bV N ts) S):FnOk P w K mg base CX0 (k+1) f fd ps (lSp K L5):=by
 obtain ⟨oc,od,dV,kV,doc,pm,an,cdv,ct,osl,rfl,lk,Qm⟩:=F.ex
 refine n0 lk Qm Sc (λvs H Q E ⟨S,ts,Qt,s,r,q,_⟩=>by rw [r.length];exact len _ _ _ q) λA outer s H vs Q E hr ⟨S,ts,Qt,sr,r,q,b⟩=>?_
 obtain ⟨u,hu,hq⟩:=NL cdv A outer s H E hr
 exact ⟨_,L2.PSs.nox hu,S,bV N ts,_,sr,lF r,hq ts S Qt q,⟨λ_ H' _ S' f s' _ q'=>Fin.ends b f s' .non q',λv H' t S' f s' r' q'=>Fin.ends b f s' r' q',λ_ _ _ _ _ _ _ q'=>q'.elim,λ_ _ _ _ _ _ _ q'=>q'.elim⟩⟩
end
section
variable {U:StT}{S:Sto}{D:EndsT}{Q:T->Sto->Prop}{R:Prop}{w:World}{a d C:Addr}{G:Addr->Prop}{fs:List (Str×T)}{m fl:Str}{t:T}{x y:T}{kts:List (Key×T)}{k:Key}{i:Int}
theorem FX {L5:WSp}{wr:WA}(h:wr U S λts S1=>∀ x,S1 x=none->L5 (.ref x::(ts++[])) (put S1 x (.ins C [])) (λt S2=>t=.non/\Q (.ref x) S2)):gY C L5 [] wr U S Q:=h
theorem FY {L5:WSp}{NZ:List T}{wa:WE}{wr:WA}(h:wa U S λx S1=>∃ a C fs,x=.ref a/\S1 a=some (.ins C fs)/\G C/\fs.lookup m=none/\wr U S1 λts S2=>L5 (x::(ts++NZ)) S2 Q):dJ G m L5 NZ wa wr U S Q:=h
theorem FZ (e:S a=some (.ins C fs)) (g:G C) (l:fs.lookup m=none) (h:R):∃ a' C' Nz,T.ref a=.ref a'/\S a'=some (.ins C' Nz)/\G C'/\Nz.lookup m=none/\R:=⟨a,C,fs,rfl,e,g,l,h⟩
theorem JD {wa:WE}(h:wa U S λx S1=>∃ a C fs v,x=.ref a/\S1 a=some (.ins C fs)/\G C/\fs.lookup fl=some v/\Q v S1):jW G wa fl U S Q:=h
theorem JE {P:T->Prop}(e:S a=some (.ins C fs)) (g:G C) (l:fs.lookup fl=some t) (h:P t):∃ a' C' Nz v,T.ref a=.ref a'/\S a'=some (.ins C' Nz)/\G C'/\Nz.lookup fl=some v/\P v:=⟨a,C,fs,t,rfl,e,g,l,h⟩
theorem F0 {wa wv:WE}(h:wv U S λy S1=>wa U S1 λx S2=>∃ a C fs,x=.ref a/\S2 a=some (.ins C fs)/\G C/\fs.length<1000/\D.nx U (put S2 a (.ins C (bz fl y fs)))):uY G wa wv fl D U S:=h
theorem d8 {P:Addr->Addr->List (Str×T)->Prop}(e:S a=some (.ins C fs)) (g:G C) (l:fs.length<1000) (h:P a C fs):∃ a' C' Nz,T.ref a=.ref a'/\S a'=some (.ins C' Nz)/\G C'/\Nz.length<1000/\P a' C' Nz:=⟨a,C,fs,rfl,e,g,l,h⟩
theorem De {wa wv:WE}(h:wa U S λx S1=>∃ a C fs i,x=.ref a/\S1 a=some (.ins C fs)/\G C/\fs.lookup fl=some (.int i) /\
 wv U S1 λy S2=>∃ j Nz,y=.int j/\S2 a=some (.ins C Nz)/\Nz.length<1000/\D.nx U (put S2 a (.ins C (bz fl (.int (i+j)) Nz)))):qT G wa wv fl D U S:=h
theorem Dg {P:Addr->Addr->Int->Prop}(e:S a=some (.ins C fs)) (g:G C) (l:fs.lookup fl=some (.int i)) (h:P a C i):∃ a' C' Nz i',T.ref a=.ref a'/\S a'=some (.ins C' Nz)/\G C'/\Nz.lookup fl=some (.int i')/\P a' C' i':=⟨a,C,fs,i,rfl,e,g,l,h⟩
theorem A3 {P:Int->List (Str×T)->Prop}{j:Int}(e:S a=some (.ins C fs)) (l:fs.length<1000) (h:P j fs):∃ j' Nz,T.int j=.int j'/\S a=some (.ins C Nz)/\Nz.length<1000/\P j' Nz:=⟨j,fs,rfl,e,l,h⟩
theorem JF {we:WE}(h:we U S λt S'=>∃ d od kvs kts,S' d=some (.fK w od kvs kts)/\Q t (put S' d (.dK kts))):pc w we U S Q:=h
theorem F6 (h:∀ p,S p=none->Q (.ref p) (put S p (.dK []))):vn U S Q:=h
theorem JG (e:S a=some (.dK kts)) (ek:cr y=some k) (l:aQ kts k=some t) (h:Q t S):j6 w (.ref a) y S Q:=⟨a,kts,k,t,rfl,.inl e,ek,l,h⟩
theorem bZ {n:Bool}(e:S a=some (.dK kts)) (ek:cr x=some k) (h:Q (.bl (n ^^ (aQ kts k).isSome)) S):io w n x (.ref a) S Q:=⟨a,kts,k,rfl,.inl e,ek,h⟩
theorem nr {v:T}{Q:Sto->Prop}(e:S a=some (.dK kts)) (ek:cr y=some k) (l:kts.length<sizeLine) (h:Q (put S a (.dK (cX kts k v)))):vk (.ref a) y v S Q:=⟨a,kts,k,rfl,e,ek,l,h⟩
theorem t5 (e:S a=some (.dK kts)) (ek:cr y=some k) (l:aQ kts k=some t) (h:Q t (put S a (.dK (fO kts k)))):vm (.ref a) [y] S Q:=⟨a,kts,y,k,t,rfl,rfl,e,ek,l,h⟩
theorem JH {R:Prop}(e:S a=some (.dK kts)) (h:R):tyM "dict" S (.ref a)/\R:=⟨by delta tyM;dsimp only;rw [e],h⟩
theorem Lu {wa:WE}{R:Src->Sto->Prop}(h:wa U S λx S1=>∃ d kts,x=.ref d/\S1 d=some (.dK kts)/\∀ od kvs,R ⟨kts.map jJ,λS'=>S' d=some (.fK w od kvs kts)⟩ (put S1 d (.fK w od kvs kts))):wiP w wa U S R:=h
theorem Lv {P:Addr->List (Key×T)->Prop}(e:S d=some (.dK kts)) (h:P d kts):∃ d' RC,T.ref d=.ref d'/\S d'=some (.dK RC)/\P d' RC:=⟨d,kts,rfl,e,h⟩
theorem Lw {P:Addr->List (Key×T)->Prop}{od:Obj}{kvs:List (Key×V)}(e:S d=some (.fK w od kvs kts)) (h:P d kts):∃ d' od' SH RC,S d'=some (.fK w od' SH RC)/\P d' RC:=⟨d,od,kvs,kts,e,h⟩
end
end T2
namespace L2
open PySem PySem.Spec PyProof.Rows
end L2
namespace T2
open PySem PySem.Spec PyProof.Rows L2
section
variable {K:Fg}{X:Cx}{H:Hp}{S:Sto}
theorem nt {k:Nat}{f C:Addr}{fd:FuncData}{ps:List Str}{L5:WSp}{x:Str}{p pos:Pos}{e:Expr}{es:List Expr}{wr:WA}(M:Mk X.K C f) (F:FnOk X.prog X.w X.K X.mg X.base CX0 k f fd ps (lSp K L5)) (hb:ao X.K fd ps []) (hr:Room (k+1) X.A) (hg:Gl X x) (hm:X.mg x=some (.ref C))
  (ha:QA K X (e::es) wr) (MV:(x==("__debug__":Str))=false:=by decide) (he:starEach (e::es) X.env=(false,eval e X.env)::starEach es X.env:=by rfl) (MS:(backTo pos (starEach es X.env)).any (·.1)=false:=by rfl) :
  QE K X (.Call (.Name x p) (e::es) [] pos) (gY C L5 [] wr):=Fe (dvs:=[]) (λ_ _=>.nil) (B5 M F hr hg hm hb .nil fL ha MV he MS)
end
end T2
namespace T2
open PySem PySem.Spec PyProof.Rows L2 S6
section
variable {K:Fg}{X:Cx}{H:Hp}{S:Sto}
end
end T2
namespace L2
open PySem PySem.Spec PyProof.Rows
end L2
namespace T2
open PySem PySem.Spec PyProof.Rows L2
section
variable {K:Fg}{X:Cx}
end
section
variable {K:Fg}{X:Cx}{e:Expr}{wa:WE}
def wR (wa:WE):WT:=λU S B=>wa U S λx S1=>∃ ts,aN S1 x=some ts/\B (!ts.isEmpty) S1
theorem zL {H:Hp}{S:Sto}{ts:List T}{vs:List V}(r:Rps K H S ts vs):vs.isEmpty=ts.isEmpty:=by cases r<;>rfl
theorem rj (hK:X.K=K) (h:QE K X e wa) (he:∀ whole,isTrue e X.env whole=(do let v <- whole;standAt e.pos;holding [v] (truthy v)):=by intro _;rfl):QT K X e (wR wa):=PT.of (An h he) λU H Q zz104=>by
 obtain ⟨S,LQ,Qt,s,c,q,hq⟩:=zz104
 subst hK
 refine ⟨S,LQ,_,s,c,q,λv H1 t S1 f1 s1 r1 zz105=>?_⟩
 obtain ⟨ts,ev,q1⟩:=zz105
 obtain ⟨p,vs,rfl,hS,rs⟩:=bT s1 r1 ev
 exact ⟨!vs.isEmpty,.inl ⟨vs,hS,rfl⟩,hq _ H1 S1 f1 s1 (by rw [zL rs];exact q1)⟩
theorem JI {U:StT}{S:Sto}{B:Bool->Sto->Prop}(h:wa U S λx S1=>∃ ts,aN S1 x=some ts/\B (!ts.isEmpty) S1):wR wa U S B:=h
end
end T2
namespace Xc
open PySem
structure Ent (fr:List Addr) (e:Addr) (oe:Obj) (h h':Heap):Prop where
 it:∃ T o ts,h.objs.size<=T/\h'.get? e=some (oe.mapFields (·.setIfInBounds 1 (.ref T)))/\h'.get? T=some o/\o.data=.fields ts/\ts[3]?=some .none
 keep:∀ b o,h.get? b=some o->b≠e->b∉fr->h'.get? b=some o
 slot:∀ b o,h.get? b=some o->b≠e->∃ sl,h'.get? b=some { o with slots:=sl }
section
variable {M:Model}{A:Around}{E:Value->Shared->Prop}{s:Shared}
theorem rl {base:Heap}{env:Env}{outer:List Env}{L e:Addr}{oe:Obj}{vs:Array Value}{hd:Value}{nx:Bool}{Q:Unit->Shared->Prop}
  (fr:A.frames=some (env::outer)) (ff:s.heap.FunFrames base (env::outer)) (ef:env.frame=some L) (ge:s.heap.get? e=some oe) (de:oe.data=.fields vs) (sz:1<vs.size)
  (k:∀ h',Ent ((env::outer).filterMap (·.frame)) e oe s.heap h'->Q () { s with heap:=h' }) :
  wpAny M A (do let a <- frameOf env;let pl <- entryPlaceOf L nx;let b <- EntryCells.newEntry hd a .none (rawInt L) .none pl;setField (.ref e) 1 b) (λ_ s'=>wpAny M A (setFlight (.ref e) none) Q E s') E s:=by
 have nfr:e∉(env::outer).filterMap (·.frame):=λz=>by
  obtain ⟨_,o,q,nf⟩:=ff.mem z
  rw [ge] at q;cases q;exact nf vs de
 refine wpAny_bind (wpAny_frameOf_fun fr ff ef λh1 so=>wpAny_bind (wpAny_entryPlaceOf λpl ip=>?_))
 unfold EntryCells.newEntry newFields
 refine wpAny_bind (wpAny_newObj_type ?_ (ip.sizeOk5 _ _ _ _ _))
 have ge1:h1.get? e=some oe:=(so.2.1 e nfr).trans ge
 generalize hob:({ cls:=.type "traceback",dict:=none,data:=.fields ([hd,.ref L,.none,rawInt L,.none]++(if pl.isEmpty then List.replicate 6 Value.none else pl)).toArray }:Obj)=ot
 have dt:ot.data=.fields ([hd,.ref L,.none,rawInt L,.none]++(if pl.isEmpty then List.replicate 6 Value.none else pl)).toArray:=by rw [<- hob]
 have ot0:ot.isFreed=false:=Obj.isFreed_of_fields dt
 have ge2:(h1.push ot).get? e=some oe:=Heap.get?_push_of_some ot ge1
 have neT:h1.objs.size≠e:=Nat.ne_of_gt (Heap.lt_size ge1)
 have de3:=Obj.data_mapFields de (·.setIfInBounds 1 (Value.ref h1.objs.size))
 refine wpAny_setField ge2 de sz ?_
 have ge3:=Heap.get?_update_self (Obj.mapFields (·.setIfInBounds 1 (Value.ref h1.objs.size))) ge2 (Obj.isFreed_of_fields de3)
 have gT3:((h1.push ot).update e (Obj.mapFields (·.setIfInBounds 1 (Value.ref h1.objs.size)))).get? h1.objs.size=some ot:=(Heap.get?_update_other _ _ (Ne.symm neT)).trans (Heap.get?_push_size h1 ot0)
 unfold setFlight
 refine wpAny_bind (wpAny_field ge3 de3 (x:=.ref h1.objs.size) (by simp [sz]) ?_)
 rw [if_pos (show (Value.ref h1.objs.size != Value.none)=true from by simp)]
 have sz3:3<([hd,Value.ref L,.none,rawInt L,.none]++(if pl.isEmpty then List.replicate 6 Value.none else pl)).toArray.size:=by simp
 refine wpAny_setField gT3 dt sz3 (k _ ?_)
 have kp:∀ b o,b≠e->h1.get? b=some o->(((h1.push ot).update e (Obj.mapFields (·.setIfInBounds 1 (Value.ref h1.objs.size)))).update h1.objs.size (Obj.mapFields (·.setIfInBounds 3 ((none:Option Addr).elim Value.none λf=>rawInt f)))).get? b=some o:=λb o nb hb=>by
  rw [Heap.get?_update_other _ _ (Nat.ne_of_gt (Heap.lt_size hb)),Heap.get?_update_other _ _ (Ne.symm nb)]
  exact Heap.get?_push_of_some ot hb
 refine ⟨⟨h1.objs.size,_,_,Nat.le_of_eq so.1.symm,?_,Heap.get?_update_self _ gT3 (Obj.isFreed_of_fields (Obj.data_mapFields dt _)),Obj.data_mapFields dt _,?_⟩,λb o hb nb nf=>kp b o nb ((so.2.1 b nf).trans hb),λb o hb nb=>?_⟩
 ·rw [Heap.get?_update_other _ _ neT];exact ge3
 ·rw [Array.getElem?_setIfInBounds]
  rw [if_pos rfl,if_pos sz3]
  rfl
 ·obtain ⟨sl,q⟩:=so.2.2 b o hb
  exact ⟨sl,kp b _ nb q⟩
def Exc (h:Heap) (lo:Nat) (N:Addr->Prop) (e:Addr) (cls:Value) (dct:Option Addr):Prop :=
 ∃ oe vs hd,h.get? e=some oe/\oe.cls=cls/\oe.dict=dct/\oe.data=.fields vs/\(vs[1]?=some hd/\vs[2]?=some .none)/\lo<=e/\N e /\
  (hd=.none\/∃ T oT ts,hd=.ref T/\lo<=T/\N T/\T≠e/\h.get? T=some oT/\oT.data=.fields ts/\ts[3]?=some .none)
structure Past (fr ch:List Addr) (h h':Heap):Prop where
 keep:∀ b o,h.get? b=some o->b∉ch->b∉fr->h'.get? b=some o
 slot:∀ b o,h.get? b=some o->b∈fr->∃ sl,h'.get? b=some { o with slots:=sl }
 there:∀ b o,h.get? b=some o->∃ o',h'.get? b=some o'
theorem A5 (o:Obj) (f:Array Value->Array Value):(o.mapFields f).dict=o.dict:=by
 obtain ⟨c,d,dt,sl⟩:=o
 cases dt<;>rfl
theorem Exc.mono {h:Heap}{lo lo':Nat}{N:Addr->Prop}{e:Addr}{cls:Value}{dct:Option Addr}(x:Exc h lo N e cls dct) (l:lo'<=lo):Exc h lo' N e cls dct:=by
 obtain ⟨oe,vs,hd,ge,c,d,de,e1,le,ne,hh⟩:=x
 refine ⟨oe,vs,hd,ge,c,d,de,e1,Nat.le_trans l le,ne,hh.imp id λzz106=>by obtain ⟨T,oT,ts,r,lT,q⟩:=zz106;exact ⟨T,oT,ts,r,Nat.le_trans l lT,q⟩⟩
theorem Exc.there {h:Heap}{lo:Nat}{N:Addr->Prop}{e:Addr}{cls:Value}{dct:Option Addr}(x:Exc h lo N e cls dct):∃ oe,h.get? e=some oe/\oe.cls=cls/\oe.dict=dct:=by
 obtain ⟨oe,vs,hd,ge,c,d,_⟩:=x
 exact ⟨oe,ge,c,d⟩
theorem note_it {base:Heap}{env:Env}{outer:List Env}{L e:Addr}{lo:Nat}{N:Addr->Prop}{cls:Value}{dct:Option Addr}{Q:Unit->Shared->Prop}
  (fr:A.frames=some (env::outer)) (ff:s.heap.FunFrames base (env::outer)) (ef:env.frame=some L) (hN:∀ b,s.heap.objs.size<=b->N b) (Sq:lo<=s.heap.objs.size) (x:Exc s.heap lo N e cls dct)
  (k:∀ h' ch,(∀ b∈ch,lo<=b/\N b/\b∉(env::outer).filterMap (·.frame)/\∃ o vs,s.heap.get? b=some o/\o.data=.fields vs)->Past ((env::outer).filterMap (·.frame)) ch s.heap h'->Exc h' lo N e cls dct->Q () { s with heap:=h' }) :
  wpAny M A (noteFrame (.ref e) env) (λ_ s'=>wpAny M A (setFlight (.ref e) none) Q E s') E s:=by
 obtain ⟨oe,vs,hd,ge,rfl,rfl,de,e1,le,ne,hh⟩:=x
 have sz:1<vs.size:=(Array.getElem?_eq_some_iff.mp e1.1).1
 have nofld:∀ b∈(env::outer).filterMap (·.frame),∀ o,s.heap.get? b=some o->∀ vs,o.data≠.fields vs:=λb hb o q=>by
  obtain ⟨_,o',q',nf⟩:=ff.mem hb
  rw [q] at q';cases q';exact nf
 have nfe:e∉(env::outer).filterMap (·.frame):=λz=>nofld e z _ ge vs de
 have fin:∀ (g h':Heap),g.objs.size=s.heap.objs.size->Ent ((env::outer).filterMap (·.frame)) e oe g h'->Exc h' lo N e oe.cls oe.dict:=by
  rintro g h' sg ⟨⟨T,o,ts,hT,gE,gT,dT,e3⟩,_,_⟩
  have hT':s.heap.objs.size<=T:=by omega
  refine ⟨_,_,.ref T,gE,Obj.cls_mapFields _ _,A5 _ _,Obj.data_mapFields de _,⟨by simp [sz],by rw [Array.getElem?_setIfInBounds,if_neg (by decide)];exact e1.2⟩,le,ne,.inr ⟨T,o,ts,rfl,Nat.le_trans Sq hT',hN T hT',λz=>?_,gT,dT,e3⟩⟩
  have q:e<s.heap.objs.size:=Heap.lt_size ge
  rw [z] at hT'
  exact absurd (Nat.lt_of_lt_of_le q hT') (Nat.lt_irrefl _)
 unfold noteFrame
 simp only [ef]
 refine wpAny_bind (wpAny_field ge de e1.1 ?_)
 rcases hh with rfl|⟨T,oT,ts,rfl,lT,nT,neT,gT,dT,e3⟩
 ·rw [if_neg (by decide)]
  refine rl fr ff ef ge de sz λh' en=>k h' [e] (λb hb=>by rw [List.mem_singleton.mp hb];exact ⟨le,ne,nfe,_,_,ge,de⟩) ⟨λb o hb hk nf=>en.keep b o hb (λz=>hk (List.mem_singleton.mpr z)) nf,λb o hb hf=>en.slot b o hb λz=>nfe (z ▸ hf),λb o hb=>?_⟩ (fin s.heap h' rfl en)
  by_cases z:b=e
  ·subst z
   obtain ⟨T,_,_,_,q,_⟩:=en.it
   exact ⟨_,q⟩
  ·obtain ⟨sl,q⟩:=en.slot b o hb z
   exact ⟨_,q⟩
 ·rw [if_pos (show (Value.ref T != Value.none)=true from by simp)]
  refine wpAny_bind (wpAny_field gT dT e3 ?_)
  rw [if_neg (show ¬ ((Value.none==rawInt L)=true) from by simp [rawInt])]
  refine wpAny_bind (wpAny_setField gT dT (Array.getElem?_eq_some_iff.mp e3).1 ?_)
  generalize hg:s.heap.update T (Obj.mapFields (·.setIfInBounds 3 Value.none))=g
  have ot:∀ b,b≠T->g.get? b=s.heap.get? b:=λb nb=>by rw [<- hg];exact Heap.get?_update_other _ _ (Ne.symm nb)
  have sg:g.objs.size=s.heap.objs.size:=by rw [<- hg];exact Heap.size_after_update ..
  have nfT:T∉(env::outer).filterMap (·.frame):=λz=>nofld T z _ gT ts dT
  have ff':g.FunFrames base (env::outer):=ff.of_keeps λb o hb nf=>⟨o,(ot b λz=>by subst z;rw [gT] at hb;cases hb;exact nf ts dT).trans hb,rfl⟩
  refine rl (s:={ s with heap:=g }) fr ff' ef ((ot e (Ne.symm neT)).trans ge) de sz λh' en=>k h' [e,T] (λb hb=>?_) ⟨λb o hb hk nf=>en.keep b o ((ot b λz=>hk (by rw [z];simp)).trans hb) (λz=>hk (by rw [z];simp)) nf,λb o hb hf=>en.slot b o ((ot b λz=>nfT (z ▸ hf)).trans hb) λz=>nfe (z ▸ hf),λb o hb=>?_⟩ (fin g h' sg en)
  ·rcases List.mem_cons.mp hb with z|z
   ·rw [z];exact ⟨le,ne,nfe,_,_,ge,de⟩
   ·rw [List.mem_singleton.mp z];exact ⟨lT,nT,nfT,_,_,gT,dT⟩
  ·by_cases z:b=e
   ·subst z
    obtain ⟨T,_,_,_,q,_⟩:=en.it
    exact ⟨_,q⟩
   ·by_cases z2:b=T
    ·subst z2
     have gT':g.get? b=some (oT.mapFields (·.setIfInBounds 3 Value.none)):=by rw [<- hg];exact Heap.get?_update_self _ gT (Obj.isFreed_of_fields (Obj.data_mapFields dT _))
     obtain ⟨sl,q⟩:=en.slot b _ gT' z
     exact ⟨_,q⟩
    ·obtain ⟨sl,q⟩:=en.slot b o ((ot b z2).trans hb) z
     exact ⟨_,q⟩
end
end Xc
namespace L2
open PySem PySem.Spec PyProof.Rows
def CX1 (P:Program) (w:World):CXT:=λouter H s E e s'=>∃ a C dct H',e=.ref a/\s'.os=s.os/\AllBare s'.gens/\Un (frs outer) [] H H' s.heap s'.heap/\HOk P w H' s'.heap /\
 Xc.Exc s'.heap s.heap.objs.size (λb=>H' b=none) a (.ref C) dct/\E (.ref C) dct H'
abbrev XS:=Addr->Option Addr->St->Hp->Prop
structure Low (X:Cx) (pins:List (Addr×Obj)) (lo:Nat):Prop where
 s0:X.s₀.heap.objs.size<=lo
 loc:X.env.locals<lo
 cell:∀ x c,X.env.cells.lookup x=some c->c<lo
 pin:∀ p∈X.pn++pins,p.1<lo
def XP (X:Cx) (pins:List (Addr×Obj)) (R:XS) (e:Value) (s':Shared):Prop:=∃ a C dct LR H' lo,e=.ref a/\Inv X pins LR H' s'/\Low X pins lo/\Xc.Exc s'.heap lo (λb=>H' b=none) a (.ref C) dct/\R C dct LR H'
abbrev TR:=St->Hp->XS->Prop
def PR (X:Cx) (st:Stmt) (t:TR):Prop:=∀ (pins:List (Addr×Obj)) (s:Shared) (U:St) (H:Hp) (R:XS),Inv X pins U H s->t U H R->wpAny (model X.prog X.w) X.A (exec st X.env) (λ_ _=>False) (XP X pins R) s
def PRs (X:Cx) (st:List Stmt) (t:TR):Prop:=∀ (pins:List (Addr×Obj)) (s:Shared) (U:St) (H:Hp) (R:XS),Inv X pins U H s->t U H R->wpAny (model X.prog X.w) X.A (execs st X.env) (λ_ _=>False) (XP X pins R) s
def PRE (X:Cx) (e:Expr) (t:TR):Prop:=∀ (pins:List (Addr×Obj)) (s:Shared) (U:St) (H:Hp) (R:XS),Inv X pins U H s->t U H R->wpAny (model X.prog X.w) X.A (eval e X.env) (λ_ _=>False) (XP X pins R) s
def PRA (X:Cx) (es:List Expr) (t:TR):Prop:=∀ (pos:Pos) (pins:List (Addr×Obj)) (s:Shared) (U:St) (H:Hp) (R:XS),Inv X pins U H s->t U H R->wpAny (model X.prog X.w) X.A (spliced (backTo pos (starEach es X.env))) (λ_ _=>False) (XP X pins R) s
section
variable {X:Cx}{pins:List (Addr×Obj)}{U:St}{H:Hp}{s:Shared}
theorem Inv.low (I:Inv X pins U H s):Low X pins s.heap.objs.size :=
 ⟨I.sz,I.lt,λx c e=>by obtain ⟨v,o,ho,_⟩:=I.cell x c e;exact Heap.lt_size ho,λp hp=>Heap.lt_size (I.pin p hp).1⟩
theorem dI {α:Type}{t:Sem α}{Q Q':α->Shared->Prop}{E:Value->Shared->Prop}(h:wpAny (model X.prog X.w) X.A t Q (λ_ _=>False) s) (q:∀ a s,Q a s->Q' a s):wpAny (model X.prog X.w) X.A t Q' E s:=wpAny_mono h q λ_ _ z=>z.elim
variable {st:Stmt}{rest:List Stmt}{t u:TS}{r r2:TR}{e:Expr}{es:List Expr}{te:TE}{ta:TA}{pos:Pos}
theorem A6 (h:PR X st r):PRs X (st::rest) r:=λpins s U H R I q=>wpAny_execs_cons (wpAny_mono (h pins s U H R I q) (λ_ _ z=>z.elim) λ_ _ z=>z)
def JJ (t:TS) (r:TR):TR:=λU H R=>t { nx:=λLR H'=>r LR H' R,rt:=λ_ _=>False } U H
theorem A7 (h1:PS X.nox st t) (h2:PRs X rest r):PRs X (st::rest) (JJ t r):=by
 intro pins s U H R I q
 refine wpAny_execs_cons (dI (h1 pins s U H _ (I.wish _) q) λf s1 q=>?_)
 cases f with
 |next=>obtain ⟨LR,H',I',q⟩:=q;exact h2 pins s1 LR H' R I'.unwish q
 |ret v=>obtain ⟨_,_,_,_,_,q⟩:=q;exact q.elim
 |brk=>obtain ⟨_,_,_,q⟩:=q;exact q.elim
 |cont=>obtain ⟨_,_,_,q⟩:=q;exact q.elim
def rIf (c:TT) (r r2:TR):TR:=λU H R=>c U H λb H1=>if b=true then r U H1 R else r2 U H1 R
theorem JK {c:Expr}{a b:List Stmt}{tc:TT}(hc:PT X.nox c tc) (ha:PRs X a r) (hb:PRs X b r2):PR X (.If c a b pos) (rIf tc r r2):=by
 intro pins s U H R I h
 refine wpAny_If (dI (hc pins s U H _ (I.wish _) h) λd s1 zz107=>?_)
 obtain ⟨H1,I1,q1⟩:=zz107
 cases d with
 |true=>exact ha pins s1 U H1 R I1.unwish q1
 |false=>exact hb pins s1 U H1 R I1.unwish q1
theorem Dh (h:PRE X e r) (hs:swapsWith e none pos.line X.env=pure false:=by rfl):PR X (.Expr e pos) r:=λpins s U H R I q=>wpAny_Expr_any (wpAny_mono (h pins s U H R I q) (λ_ _ z=>z.elim) λ_ _ z=>z) I.quiet hs
theorem F7 (h:PRE X e r):PR X (.Return (some e) pos) r:=λpins s U H R I q=>wpAny_Return_some (wpAny_mono (h pins s U H R I q) (λ_ _ z=>z.elim) λ_ _ z=>z)
theorem F8 {x:Str}{MT:Pos}(h:PRE X e r) (hs:swapsWith e (some (.Name x MT)) pos.line X.env=pure false:=by rfl):PR X (.Assign [.Name x MT] e pos) r:=λpins s U H R I q=>wpAny_Assign_Name (wpAny_mono (h pins s U H R I q) (λ_ _ z=>z.elim) λ_ _ z=>z) hs
theorem A8 (h:PRE X e r) (hs:starEach (e::es) X.env=(false,eval e X.env)::starEach es X.env:=by rfl):PRA X (e::es) r:=by
 intro pos pins s U H R I q
 rw [hs]
 exact Calls.spliced_cons (wpAny_mono (h pins s U H R I q) (λ_ _ z=>z.elim) λ_ _ z=>z)
end
section
variable {X:Cx}{k:Nat}{f C:Addr}{fd:FuncData}{ps:List Str}{sp:Sp}{dvs:List V}{ds:List Value}{x m:Str}{p pos apos:Pos}{e o:Expr}{es:List Expr}{ta:TE}{t:TA}{r:TR}{G:Addr->Prop}
def toE (R:XS) (U:St):XK:=λc dct H'=>∃ C,c=.ref C/\R C dct U H'
theorem mL {pins:List (Addr×Obj)}{U:St}{H:Hp}{s:Shared}{R:XS}{us:List Value}{vs:List V}(F:FnOk X.prog X.w X.K X.mg X.base (CX1 X.prog X.w) k f fd ps sp) (hr:Room k X.A) (hb:ao X.K fd ps ds) (hd:am dvs ds)
  (I:Inv X pins U H s) (r:am vs us) (h:sp (vs++dvs) H (λ_ _=>False) (toE R U)):wpAny (model X.prog X.w) X.A (call (.ref f) us) (λ_ _=>False) (XP X pins R) s:=by
 have r2:am (vs++dvs) (us++ds):=r.append hd
 have hl:(us++ds).length=ps.length:=by rw [<- r2.length];exact F.len _ _ _ _ h
 refine wpAny_call (codeAny_mono (F.run X.A X.stack s H ⟨us,[]⟩ (us++ds) (vs++dvs) _ _ hr I.env0 (hb s us I.kIn hl) r2 h) λq s' hq=>?_)
 cases q with
 |error z =>
  obtain ⟨a,C,dct,H',rfl,os,bare,un,hok,x,C',ec,q⟩:=hq
  cases ec
  exact ⟨a,C,dct,U,H',_,rfl,I.call' (ch:=[]) os un hok bare (λ_ z=>nomatch z),I.low,x,q⟩
 |ok fl =>
  cases fl with
  |ret u=>obtain ⟨_,_,_,_,_,_,_,q⟩:=hq;exact q.elim
  |next=>exact False.elim hq
  |brk=>exact False.elim hq
  |cont=>exact False.elim hq
def JL (sp:Sp) (dvs:List V) (t:TA):TR:=λU H R=>t U H λvs H1=>sp (vs++dvs) H1 (λ_ _=>False) (toE R U)
theorem A9 (F:FnOk X.prog X.w X.K X.mg X.base (CX1 X.prog X.w) k f fd ps sp) (hr:Room k X.A) (hg:Gl X x) (hm:X.mg x=some (.ref f)) (hk:PySem.W.keepIn X.K (.ref f)=true) (hb:ao X.K fd ps ds) (hd:am dvs ds)
  (ha:PA X.nox (e::es) t) (MV:(x==("__debug__":Str))=false:=by decide) (he:starEach (e::es) X.env=(false,eval e X.env)::starEach es X.env:=by rfl) (MS:(backTo pos (starEach es X.env)).any (·.1)=false:=by rfl) :
  PRE X (.Call (.Name x p) (e::es) [] pos) (JL sp dvs t):=by
 intro pins s U H R I h
 refine wpAny_Call_Name_kw (c6 I hg hm ?_ MV)
 refine PySem.W.callWith_K (h₀:=X.base) I.ok.mod.kin hk (dI (ha pos pins s U H _ (I.wish _) h) λus s1 ⟨vs,H1,I1,r,q⟩=>⟨I1.unwish.kIn,?_⟩) he MS
 exact mL F hr hb hd I1.unwish r q
theorem zM {g:Value}(hg:Gl X x) (hm:X.mg x=some (.ref f)) (hk:PySem.W.keepIn X.K (.ref f)=true) (ha:PRA X (e::es) r) (MV:(x==("__debug__":Str))=false:=by decide)
  (he:starEach (e::es) X.env=(false,eval e X.env)::starEach es X.env:=by rfl) (MS:(backTo pos (starEach es X.env)).any (·.1)=false:=by rfl):PRE X (.Call (.Name x p) (e::es) [] pos) r:=by
 intro pins s U H R I h
 refine wpAny_Call_Name_kw (c6 I hg hm ?_ MV)
 exact PySem.W.callWith_K (h₀:=X.base) I.ok.mod.kin hk (wpAny_mono (ha pos pins s U H R I h) (λ_ _ z=>z.elim) λ_ _ z=>z) he MS
def oq (G:Addr->Prop) (m:Str) (sp:Sp) (dvs:List V) (ta:TE) (t:TA):TR:=λU H R=>ta U H λx H1=>∃ a C dx fs,x=.ref a/\H1 a=some (.ins C dx fs)/\G C/\fs.lookup m=none/\t U H1 λvs H2=>sp (x::(vs++dvs)) H2 (λ_ _=>False) (toE R U)
theorem rp {pl:Sem Bool}(he:PE X.nox o ta) (hG:∀ C,G C->Cls X.K C/\Meth X.K C m f) (F:FnOk X.prog X.w X.K X.mg X.base (CX1 X.prog X.w) k f fd ps sp) (hr:Room k X.A) (hb:ao X.K fd ps ds) (hd:am dvs ds) (ha:PA X.nox (e::es) t)
  (PC:starEach (e::es) X.env=(false,eval e X.env)::starEach es X.env:=by rfl) (MS:(backTo pos (starEach es X.env)).any (·.1)=false:=by rfl)
  (ht:eval (.Call (.Attribute o m apos) (e::es) [] pos) X.env=(do
   let ov <- eval o X.env
   standAt apos.atName
   let (f,first) <- holding [ov] (getMethod ov m pl)
   callWith pos f first (backTo pos (starEach (e::es) X.env)) (backToKw pos (keywordEach [] X.env))):=by rfl) :
  PRE X (.Call (.Attribute o m apos) (e::es) [] pos) (oq G m sp dvs ta t):=by
 intro pins s U H R I h
 refine PySem.W.methodCall_KW (pl:=pl) (dI (he pins s U H _ (I.wish _) h) λu s1 ⟨x,H1,I1,rx,a,C,dx,fs,ex,ea,g,l,q⟩=>?_) ht
 subst ex
 obtain rfl:u=Value.ref a:=rx
 obtain ⟨c,hm⟩:=hG C g
 refine fW I1.unwish ea c hm l ?_
 refine PySem.W.callWith_K (first:=[.ref a]) (h₀:=X.base) I.ok.mod.kin hm.kp (dI (ha pos pins s1 U H1 _ I1 q) λus s2 ⟨vs,H2,I2,r,q2⟩=>⟨I2.unwish.kIn,?_⟩) PC MS
 exact mL (us:=.ref a::us) (vs:=.ref a::vs) F hr hb hd I2.unwish (.cons rfl r) q2
theorem zN {pl:Sem Bool}(he:PE X.nox o ta) (hG:∀ C,G C->Cls X.K C/\Meth X.K C m f) (F:FnOk X.prog X.w X.K X.mg X.base (CX1 X.prog X.w) k f fd ps sp) (hr:Room k X.A) (hb:ao X.K fd ps ds) (hd:am dvs ds)
  (ht:eval (.Call (.Attribute o m apos) [] [] pos) X.env=(do
   let ov <- eval o X.env
   standAt apos.atName
   let (f,first) <- holding [ov] (getMethod ov m pl)
   callWith pos f first (backTo pos (starEach [] X.env)) (backToKw pos (keywordEach [] X.env))):=by rfl) :
  PRE X (.Call (.Attribute o m apos) [] [] pos) (oq G m sp dvs ta dn):=by
 intro pins s U H R I h
 refine PySem.W.methodCall_KW (pl:=pl) (dI (he pins s U H _ (I.wish _) h) λu s1 ⟨x,H1,I1,rx,a,C,dx,fs,ex,ea,g,l,q⟩=>?_) ht
 subst ex
 obtain rfl:u=Value.ref a:=rx
 obtain ⟨c,hm⟩:=hG C g
 refine fW I1.unwish ea c hm l ?_
 exact PySem.W.callWith_K0 (first:=[.ref a]) I1.unwish.kIn hm.kp (mL (us:=[.ref a]) (vs:=[.ref a]) F hr hb hd I1.unwish (.cons rfl .nil) q)
end
section
variable {X:Cx}{pins:List (Addr×Obj)}{U:St}{H:Hp}{s:Shared}
theorem Inv.past {h':Heap}{ch:List Addr}(I:Inv X pins U H s){lo:Nat}(lw:Low X pins lo) (O2:∀ b∈ch,lo<=b/\H b=none/\b∉frs X.stack/\∃ o vs,s.heap.get? b=some o/\o.data=.fields vs) (p:Xc.Past (frs X.stack) ch s.heap h') :
  Inv X pins U H { s with heap:=h' }:=by
 have nfr:∀ b u,H b=some u->b∉frs X.stack:=λb u e z=>by rw [I.stkFree b z] at e;cases e
 have Tl:∀ b u,H b=some u->b∉ch:=λb u e z=>by rw [(O2 b z).2.1] at e;cases e
 have kp:∀ b u o,H b=some u->s.heap.get? b=some o->h'.get? b=some o:=λb u o e g=>p.keep b o g (Tl b u e) (nfr b u e)
 refine I.call (g':=s.gens) (d':=s.drawn) (t':=s.toks) (ch:=ch) ⟨λb o e _ nf nc=>p.keep b o e nc nf,λb o e _ hf _=>p.slot b o e hf,λb o _ n _=>n,λb o e _=>p.there b o e,λ_ _ e=>e,λ_ _ _ e=>e,λb ps e=>⟨#[],by rw [Array.append_empty];exact e⟩⟩ ?_ I.bare λb hb=>?_
 ·intro b u e
  refine (I.hok b u e).stay (λc v hc g=>?_) (λ_ z=>z) λ_ _ z=>z
  rcases hc with rfl|hc
  ·exact kp c u v e g
  ·exact kp c _ v hc g
 ·have hl:=(O2 b hb).1
  exact ⟨.inr (Nat.le_trans lw.s0 hl),λz=>absurd (Nat.lt_of_lt_of_le lw.loc hl) (by rw [z];exact Nat.lt_irrefl _),λx c e z=>absurd (Nat.lt_of_lt_of_le (lw.cell x c e) hl) (by rw [z];exact Nat.lt_irrefl _),λq hq z=>absurd (Nat.lt_of_lt_of_le (lw.pin q hq) hl) (by rw [z];exact Nat.lt_irrefl _)⟩
theorem su {Q:Unit->Shared->Prop}{E:Value->Shared->Prop}{a C:Addr}{dct:Option Addr}{lo:Nat}(I:Inv X pins U H s) (st:X.stack=X.env::X.outer/\X.env.frame=some X.env.locals) (lw:Low X pins lo) (Sq:lo<=s.heap.objs.size) (x:Xc.Exc s.heap lo (λb=>H b=none) a (.ref C) dct)
  (k:∀ s',Inv X pins U H s'->s'.os=s.os->s'.gens=s.gens->Xc.Exc s'.heap lo (λb=>H b=none) a (.ref C) dct->Q () s'):wpAny (model X.prog X.w) X.A (noteFrame (.ref a) X.env) (λ_ s'=>wpAny (model X.prog X.w) X.A (setFlight (.ref a) none) Q E s') E s:=by
 have fs:s.heap.FunFrames X.base (X.env::X.outer):=by rw [<- st.1];exact I.stack
 refine Xc.note_it (base:=X.base) (L:=X.env.locals) (by rw [I.ok.frames,st.1]) fs st.2 (λb hb=>I.hok.fresh hb) Sq x λh' ch O2 p x'=>?_
 have e:(X.env::X.outer).filterMap (·.frame)=frs X.stack:=by rw [st.1];rfl
 rw [e] at O2 p
 exact k _ (I.past lw O2 p) rfl rfl x'
end
section
variable {P:Program}{w:World}{K:PySem.W.Frag}{mg:Str->Option Value}{base:Heap}
theorem Ba {k:Nat}{f:Addr}{name qual:Str}{params:Arguments}{body:List Stmt}{scope:Scope}{dV kV doc pm cdv ct oc:Value}{an od:Option Addr}{osl:Array (Option Value)}{N ps:List Str}{sp:Sp}
  (lk:K.lookup f=some ⟨oc,od,.func (PySem.W.fnOf name qual params body scope dV kV doc pm an cdv ct),osl⟩) (Qm:PySem.W.codeIn K cdv qual=true) (S:FnScope N ps scope) (len:∀ vs H Q E,sp vs H Q E->vs.length=ps.length)
  (NL:∀ (A:Around) (outer:List Env) (s:Shared) (H:Hp) (vs:List V) (E:XK) (Q:VK),Room k (A.deeper (envOfC qual scope s.heap.objs.size f cdv))->sp vs H Q E ->
   ∃ r,PRs (cJ CX0 P w K mg base N qual scope f cdv A outer s H E) body r/\r (bX N vs) H λC dct _ H'=>E (.ref C) dct H') :
  FnOk P w K mg base (CX1 P w) (k+1) f (PySem.W.fnOf name qual params body scope dV kV doc pm an cdv ct) ps sp:=by
 refine n0 lk Qm S len λA outer s H vs Q E hr So=>?_
 obtain ⟨r,hr1,NK⟩:=NL A outer s H vs E Q hr So
 refine ⟨λ_ U H'=>U=bX N vs/\H'=H,?_,rfl,rfl⟩
 rintro pins s1 U H1 D I ⟨rfl,rfl⟩
 have I0:Inv (cJ CX0 P w K mg base N qual scope f cdv A outer s H1 E) pins (bX N vs) H1 s1:=⟨⟨I.ok.mod,I.ok.kind,I.ok.glob,I.ok.blt,I.ok.above,I.ok.inj,I.ok.has,I.ok.cab,I.ok.hd,I.ok.frames,I.ok.stk,I.ok.exf,I.ok.bs,I.ok.bsz,I.ok.noex,I.ok.exfs,I.ok.funs,I.ok.frf⟩,I.os,I.bare,I.base,I.loc,I.cell,I.free,I.freeC,I.pin,I.hok,I.len⟩
 refine wpAny_mono (hr1 pins s1 _ _ _ I0 NK) (λ_ _ z=>z.elim) λe s2 zz108=>?_
 obtain ⟨a,C,dct,LR,H',lo,ee,J,lw,x,q⟩:=zz108
 subst ee
 show wpAny (model P w) (A.deeper _) (leaving _ (.ref a)) _ _ s2
 unfold leaving
 have Sq:lo<=s2.heap.objs.size:=Nat.le_of_lt (Nat.lt_of_le_of_lt (by obtain ⟨_,_,_,_,_,_,_,_,l,_⟩:=x;exact l) (by obtain ⟨oe,_,_,ge,_⟩:=x;exact Heap.lt_size ge))
 refine wpAny_bind (su J ⟨rfl,rfl⟩ lw Sq x λs3 J3 _ _ x3=>?_)
 exact ⟨a,C,dct,H',rfl,J3.os,J3.bare,J3.base,J3.hok,x3.mono lw.s0,q⟩
end
end L2
namespace Xc
open PySem
section
variable {M:Model}{A:Around}{E:Value->Shared->Prop}{s:Shared}
theorem flight_it {e:Addr}{lo:Nat}{N:Addr->Prop}{cls:Value}{dct:Option Addr}{Q:Unit->Shared->Prop}(x:Exc s.heap lo N e cls dct)
  (k:∀ h' ch,(∀ b∈ch,lo<=b/\N b/\∃ o vs,s.heap.get? b=some o/\o.data=.fields vs)->Past [] ch s.heap h'->Exc h' lo N e cls dct->Q () { s with heap:=h' }):wpAny M A (setFlight (.ref e) none) Q E s:=by
 have x0:=x
 obtain ⟨oe,vs,hd,ge,hc,hdc,de,e1,le,ne,hh⟩:=x
 unfold setFlight
 refine wpAny_bind (wpAny_field ge de e1.1 ?_)
 rcases hh with rfl|⟨T,oT,ts,rfl,lT,nT,neT,gT,dT,e3⟩
 ·rw [if_neg (by decide)]
  exact wpAny_pure (k s.heap [] (λ_ z=>(nomatch z)) ⟨λb o hb _ _=>hb,λb o hb z=>(nomatch z),λb o hb=>⟨o,hb⟩⟩ x0)
 ·rw [if_pos (show (Value.ref T != Value.none)=true from by simp)]
  have s3:=(Array.getElem?_eq_some_iff.mp e3).1
  refine wpAny_setField gT dT s3 (k _ [T] (λb hb=>by rw [List.mem_singleton.mp hb];exact ⟨lT,nT,_,_,gT,dT⟩) ⟨λb o hb nb _=>?_,λb o hb z=>(nomatch z),λb o hb=>?_⟩ ?_)
  ·rw [Heap.get?_update_other _ _ (λz=>nb (List.mem_singleton.mpr z.symm))];exact hb
  ·by_cases z:b=T
   ·subst z
    exact ⟨_,Heap.get?_update_self _ gT (Obj.isFreed_of_fields (Obj.data_mapFields dT _))⟩
   ·exact ⟨o,by rw [Heap.get?_update_other _ _ (Ne.symm z)];exact hb⟩
  ·refine ⟨oe,vs,.ref T,(Heap.get?_update_other _ _ neT).trans ge,hc,hdc,de,e1,le,ne,.inr ⟨T,_,_,rfl,lT,nT,neT,Heap.get?_update_self _ gT (Obj.isFreed_of_fields (Obj.data_mapFields dT _)),Obj.data_mapFields dT _,?_⟩⟩
   rw [Array.getElem?_setIfInBounds,if_pos rfl,if_pos s3]
   rfl
end
end Xc
namespace L2
open PySem PySem.Spec PyProof.Rows
noncomputable abbrev Cx.inx (X:Cx) (a:Addr):Cx:={ X with A:=X.A.mark (some (.ref a)),calm:=false,xe:=λ_ _=>False }
theorem Cx.Ok.inx {X:Cx}(ok:X.Ok) (a:Addr):(X.inx a).Ok :=
 ⟨ok.mod,ok.kind,ok.glob,ok.blt,ok.above,ok.inj,ok.has,ok.cab,λz=>(nomatch z),ok.frames,ok.stk,ok.exf,ok.bs,ok.bsz,ok.noex,ok.exfs,ok.funs,ok.frf⟩
section
variable {X:Cx}{pins:List (Addr×Obj)}{U:St}{H:Hp}{s:Shared}{a:Addr}
theorem Inv.inx (I:Inv X pins U H s) (a:Addr):Inv (X.inx a) pins U H s:=⟨I.ok.inx a,I.os,I.bare,I.base,I.loc,I.cell,I.free,I.freeC,I.pin,I.hok,I.len⟩
theorem Inv.outx (I:Inv (X.inx a) pins U H s) (ok:X.Ok):Inv X pins U H s:=⟨ok,I.os,I.bare,I.base,I.loc,I.cell,I.free,I.freeC,I.pin,I.hok,I.len⟩
theorem SP.outx {D:Ends}{f:Flow}{s':Shared}(ok:X.Ok) (h:SP (X.inx a) pins D f s'):SP X pins D f s':=by
 cases f with
 |next=>obtain ⟨LR,H',I,q⟩:=h;exact ⟨LR,H',I.outx ok,q⟩
 |brk=>obtain ⟨LR,H',I,q⟩:=h;exact ⟨LR,H',I.outx ok,q⟩
 |cont=>obtain ⟨LR,H',I,q⟩:=h;exact ⟨LR,H',I.outx ok,q⟩
 |ret u=>obtain ⟨v,LR,H',I,r,q⟩:=h;exact ⟨v,LR,H',I.outx ok,r,q⟩
theorem Bb {fr ch:List Addr}{h h':Heap}(p:Xc.Past [] ch h h') (hf:∀ b∈fr,b∉ch):Xc.Past fr ch h h' :=
 ⟨λb o hb nc _=>p.keep b o hb nc (by simp),λb o hb hfr=>⟨o.slots,p.keep b o hb (hf b hfr) (by simp)⟩,p.there⟩
theorem zO {A:Around}{Q:Unit->Shared->Prop}{E:Value->Shared->Prop}{C:Addr}{dct:Option Addr}{lo:Nat}(I:Inv X pins U H s) (lw:Low X pins lo) (x:Xc.Exc s.heap lo (λb=>H b=none) a (.ref C) dct)
  (k:∀ s',Inv X pins U H s'->Xc.Exc s'.heap lo (λb=>H b=none) a (.ref C) dct->Q () s'):wpAny (model X.prog X.w) A (setFlight (.ref a) none) Q E s:=by
 refine Xc.flight_it x λh' ch O2 p x'=>?_
 have hf:∀ b∈frs X.stack,b∉ch:=λb hb hc=>by
  obtain ⟨_,o',g',nf⟩:=I.stack.mem hb
  obtain ⟨_,_,o,vs,g,d⟩:=O2 b hc
  rw [g] at g';cases g'
  exact nf vs d
 exact k _ (I.past lw (λb hb=>⟨(O2 b hb).1,(O2 b hb).2.1,λz=>hf b z hb,(O2 b hb).2.2⟩) (Bb p hf)) x'
abbrev TH:=Addr->TS
def PH (X:Cx) (hs:List ExceptHandler) (t:TH):Prop:=∀ (pins:List (Addr×Obj)) (s:Shared) (U:St) (H:Hp) (a C:Addr) (dct:Option Addr) (lo:Nat) (D:Ends),Inv X pins U H s->Low X pins lo->Xc.Exc s.heap lo (λb=>H b=none) a (.ref C) dct->t C D U H ->
 wpAny (model X.prog X.w) X.A (handleBy (.ref a) X.env hs) (SP X pins D) X.xe s
def JM:TH:=λ_ _ _ _=>False
theorem F9:PH X [] JM:=λ_ _ _ _ _ _ _ _ _ _ _ _ h=>h.elim
end
end L2
namespace PySem
section
variable {prog:Program}{w:World}{A:Around}{E:Value->Shared->Prop}{h:Heap}{g:Array GenState}{d:Drawn}{t:Nat}{os:OsState}
variable {nm q:Str}{C N:Addr}{bs bm bmB:List Value}{hdct:Bool}{sn:List Str}{sub:List Value}{ab:Bool}{col:Option Bool}{dd:Option Addr}{k0 k1 k2 k3 k5:Option Value}{B newId initId:String}
theorem xx (F:ExcBaseFacts B newId initId bmB) (T:OwnTail h bmB bm){mN:Str->Option Value}{rest:List Value}{Q:Fin->Shared->Prop}
  (hC:h.get? C=some (excClassObj nm q C N bs bm hdct sn sub ab col dd k0 k1 k2 k3 k5 newId)) (hn:h.Ns N mN) (hni:mN "__init__"=none)
  (hq:∀ h' e,Heap.MadeExcOf h h' e (.ref C) rest->h.objs.size<=e->Q (.done (.ret (.ref e))) ⟨h',g,d,t,os⟩) (hrest:rest.length<=sizeLine:=by size_fits) :
  wpAny (model prog w) A (Builtin.«type.__call__» ⟨.ref C::rest,[]⟩) Q E ⟨h,g,d,t,os⟩:=by
 repeat (first|with_reducible refine wpAny_loadPart_at hC ?_|with_reducible refine wpAny_madeBy_exc hC ?_|wp_step)
 refine codeAny_call_builtin_code (Code.quiet_builtin _ F.quiet) (wpAny_check_new_subT F T hC ?_)
 refine codeAny_exc_new_subT F T hC ?_ hrest
 show wpAny _ _ _ _ _ _
 have RD:=Heap.get?_push_of_some { cls:=.ref C,data:=.fields #[.ref h.objs.size,.none,.none,.none,.bool false,.none] }
  (Heap.get?_push_of_some { cls:=.type "tuple",data:=.seq rest.toArray } hC)
 have hn₁:((h.push { cls:=.type "tuple",data:=.seq rest.toArray }).push { cls:=.ref C,data:=.fields #[.ref h.objs.size,.none,.none,.none,.bool false,.none] }).Ns N mN :=
  let ⟨o,es,ep,e,r⟩:=hn;⟨o,es,ep,Heap.get?_push_of_some _ (Heap.get?_push_of_some _ e),r⟩
 have TK:((h.push { cls:=.type "tuple",data:=.seq rest.toArray }).push
   { cls:=.ref C,data:=.fields #[.ref h.objs.size,.none,.none,.none,.bool false,.none] }).get? (h.objs.size+1)=some
   { cls:=.ref C,data:=.fields #[.ref h.objs.size,.none,.none,.none,.bool false,.none] }:=by heap_get
 have hcC:(Value.ref C::bm).contains (.ref C)=true:=by simp
 have T₁:=T.keeps (h':=(h.push { cls:=.type "tuple",data:=.seq rest.toArray }).push { cls:=.ref C,data:=.fields #[.ref h.objs.size,.none,.none,.none,.bool false,.none] })
  λb o e=>Heap.get?_push_of_some _ (Heap.get?_push_of_some _ e)
 unfold isInstance
 repeat (first|with_reducible refine wpAny_loadPart_at TK ?_|(with_reducible refine wpAny_isSubtype_exc RD ?_;rw [hcC])|wp_step)
 show wpAny _ _ (typeLookup (.ref C) _) _ _ _
 refine wpAny_typeLookup_tail RD hn₁ T₁ F.mroIs F.init.lookup ?_
 rw [hni]
 refine wpAny_holding (wpAny_bind (wpAny_of_eq (F.init.bind _) ?_))
 refine wpAny_bind (wpAny_call (codeAny_call_builtin F.init.plain F.initEntry (wpAny_check_init_subT F T₁ RD TK rfl ?_)))
 wp_walk
 refine hq _ _ ⟨λb o hb=>?_,Heap.get?_none_of_le (Nat.le_succ _),h.objs.size+2,?_,Heap.get?_none_of_le (by omega),?_⟩ (Nat.le_succ _)
 ·rw [Heap.get?_update_other _ _ (Nat.ne_of_gt (Nat.lt_succ_of_lt (Heap.lt_size hb)))]
  exact Heap.get?_push_of_some _ (Heap.get?_push_of_some _ (Heap.get?_push_of_some _ hb))
 ·rw [Heap.get?_update_self _ (Heap.get?_push_of_some _ TK) rfl]
  simp only [Heap.size_push]
  rfl
 ·rw [Heap.get?_update_other _ _ (show h.objs.size+1≠h.objs.size+2 by omega)]
  exact Heap.get?_push_at (by simp only [Heap.size_push]) rfl
theorem zP (F:ExcBaseFacts B newId initId bmB) (T:OwnTail h bmB bm){mN:Str->Option Value}{rest:List Value}{Q:Value->Shared->Prop}
  (hC:h.get? C=some (excClassObj nm q C N bs bm hdct sn sub ab col dd k0 k1 k2 k3 k5 newId)) (hn:h.Ns N mN) (hni:mN "__init__"=none)
  (hq:∀ h' e,Heap.MadeExcOf h h' e (.ref C) rest->h.objs.size<=e->Q (.ref e) ⟨h',g,d,t,os⟩) (hrest:rest.length<=sizeLine:=by size_fits) :
  wpAny (model prog w) A (call (.ref C) rest) Q E ⟨h,g,d,t,os⟩:=by
 have f1:=tc_lookup
 have f2:=tc_bind (.ref C)
 have hT:(⟨h,g,d,t,os⟩:Shared).TypeIs (.ref C) "type":=⟨_,hC,rfl⟩
 refine wpAny_call (codeAny_of_tree ?_)
 show wpAny _ _ (callAny (.ref C) _) _ _ _
 repeat (any_goals (first|assumption|with_reducible refine wpAny_loadPart_at hC ?_|wp_step))
 refine ⟨rfl,?_⟩
 refine codeAny_call_builtin_at (Code.quiet_builtin _ (by decide +kernel)) entry_typeCall (wpAny_check_type_call_sub hC (xx (hrest:=hrest) F T hC hn hni λh' e hm hz=>?_))
 exact hq h' e hm hz
end
end PySem
namespace L2
open PySem PySem.Spec PyProof.Rows
theorem JN {K:PySem.W.Frag}{h:Heap}{N:Addr}{mg:Str->Option Value}{n:Str}{r:Option Value}(X:K.In h) (G:h.Ns N mg) (e:PySem.W.nsIn K N n=some r):mg n=r:=by
 obtain ⟨o,es,ep,ho,hd,_,hf⟩:=G
 unfold PySem.W.nsIn at e
 split at e
 ·rename_i c d es' n' sl q
  have:=X _ _ q
  rw [ho] at this
  cases this
  cases hd
  rw [<- hf]
  unfold nsFind findBy
  rw [<- Array.find?_toList]
  split at e
  ·rename_i y he;cases e;rw [he];rfl
  ·rename_i he
   split at e
   ·cases e
   ·cases e;rw [he];rfl
 ·cases e
theorem qI {K:PySem.W.Frag}{h:Heap}{C:Addr}{r:Option Value}(X:K.In h) (q:bu K C r=true) :
  ∃ bm N nm qn bs hdct sn sub ab col dd k0 k1 k2 k3 k5 mN,h.get? C=some (excClassObj nm qn C N bs bm hdct sn sub ab col dd k0 k1 k2 k3 k5 "ValueError.__new__")/\h.Ns N mN/\mN "__init__"=r/\OwnTail h vU bm:=by
 unfold bu at q
 cases ho:K.lookup C with
 |none=>rw [ho] at q;cases q
 |some o =>
  rw [ho] at q
  obtain ⟨cls,dd,dat,sl⟩:=o
  dsimp only at q
  rw [Bool.and_eq_true,beq_iff_eq] at q
  obtain ⟨rfl,q⟩:=q
  cases dat<;>try (cases q;done)
  rename_i cd
  dsimp only at q
  obtain ⟨nm,bs,mro,ns,qn,hd,sn,sub,ab,col,del⟩:=cd
  cases mro with
  |nil=>cases q
  |cons v bm =>
   simp only [Bool.and_eq_true,beq_iff_eq,Bool.not_eq_true'] at q
   obtain ⟨⟨⟨⟨⟨⟨rfl,h6⟩,h4⟩,hdel⟩,ht⟩,hok⟩,hni⟩:=q
   subst hdel
   obtain ⟨l⟩:=sl
   have h6:l.length=6:=h6
   have h4:l[4]?=some (some (.builtin "ValueError.__new__")):=h4
   obtain ⟨k0,k1,k2,k3,k4,k5,rfl⟩:∃ a b c d e f,l=[a,b,c,d,e,f]:=⟨l[0],l[1],l[2],l[3],l[4],l[5],List.ext_getElem h6 λi h1 h2=>by
    rcases i with _|_|_|_|_|_|i
    ·rfl
    ·rfl
    ·rfl
    ·rfl
    ·rfl
    ·rfl
    ·exact absurd h2 (by simp only [List.length_cons,List.length_nil];omega)⟩
   obtain rfl:k4=some (.builtin "ValueError.__new__"):=Option.some.inj h4
   have N:=Heap.Ns.of_isNs (PySem.W.isNs_of_in X hok)
   exact ⟨bm,ns,nm,qn,bs,hd,sn,sub,ab,col,dd,k0,k1,k2,k3,k5,_,X _ _ ho,N,JN X N hni,PySem.W.tail_of_in X ht⟩
theorem zQ {K:PySem.W.Frag}{h h2:Heap}{C:Addr}{r:Option Value}(X:K.In h) (X2:K.In h2) (q:bu K C r=true):h.get? C=h2.get? C:=by
 unfold bu at q
 cases ho:K.lookup C with
 |none=>rw [ho] at q;cases q
 |some o=>rw [X _ _ ho,X2 _ _ ho]
section
variable {X:Cx}{C:Addr}{x:Str}{p pos TL:Pos}{e:Expr}{es:List Expr}{t:TA}
def F' (C:Addr) (t:TA):TR:=λU H R=>t U H λvs H1=>vs.length<=2/\R C none U H1
theorem Bc (hx:bu X.K C none=true) (hk:PySem.W.keepIn X.K (.ref C)=true) (hc:X.calm=true) (hg:Gl X x) (hm:X.mg x=some (.ref C)) (ha:PA X.nox (e::es) t) (MV:(x==("__debug__":Str))=false:=by decide)
  (he:starEach (e::es) X.env=(false,eval e X.env)::starEach es X.env:=by rfl) (MS:(backTo pos (starEach es X.env)).any (·.1)=false:=by rfl):PR X (.Raise (some (.Call (.Name x p) (e::es) [] pos)) none TL) (F' C t):=by
 intro pins s U H R I h
 obtain ⟨bm,N,nm,q,bs,hd,sn,sub,ab,col,dd,k0,k1,k2,k3,k5,mN,hC,hN,hi,T⟩:=qI I.kIn hx
 have NM:bm.contains (.type "BaseException")=true:=T.hasType (by decide)
 rw [arm_exec_Raise]
 have go:wpAny (model X.prog X.w) X.A (eval (.Call (.Name x p) (e::es) [] pos) X.env) (λv s1=>∃ en t0,v=.ref en/\s1.heap.get? C=some (excClassObj nm q C N bs bm hd sn sub ab col dd k0 k1 k2 k3 k5 "ValueError.__new__") /\
   s1.heap.get? en=some { cls:=.ref C,data:=.fields #[.ref t0,.none,.none,.none,.bool false,.none] }/\XP X pins R (.ref en) s1) (XP X pins R) s:=by
  refine wpAny_Call_Name_kw (c6 I hg hm ?_ MV)
  refine PySem.W.callWith_K (h₀:=X.base) I.ok.mod.kin hk (dI (ha pos pins s U H _ (I.wish _) h) λus s1 ⟨vs,H1,I1,r,hl,q1⟩=>⟨I1.unwish.kIn,?_⟩) he MS
  have J:=I1.unwish
  obtain ⟨bm',N',nm',q',bs',hd',sn',sub',ab',col',Th,k0',k1',k2',k3',k5',mN',hC',hN',hi',T'⟩:=qI J.kIn hx
  have same:s1.heap.get? C=some (excClassObj nm q C N bs bm hd sn sub ab col dd k0 k1 k2 k3 k5 "ValueError.__new__"):=by
   have z:=zQ I.kIn J.kIn hx
   rw [<- z];exact hC
  obtain ⟨hp,g,d,tk,os⟩:=s1
  refine zP PySem.F.excBase_ValueError T' hC' hN' hi' (λh' en m hz=>?_) (by have:=r.length;rw [sizeLine_eq,List.nil_append];omega)
  obtain ⟨t0,g1,g2,g3⟩:=m.there
  refine ⟨en,t0,rfl,m.keeps _ _ same,g1,?_⟩
  refine ⟨en,C,none,U,H1,hp.objs.size,rfl,J.kept (t':=tk) m.keeps,J.low,⟨_,_,.none,g1,rfl,rfl,rfl,⟨rfl,rfl⟩,hz,J.hok.fresh hz,.inl rfl⟩,q1⟩
 exact wpAny_bind (wpAny_standAt (wpAny_raiseStmt_made_sub (C:=C) (nm:=nm) (q:=q) (N:=N) (bs:=bs) (bm:=bm) (hdct:=hd) (sn:=sn) (sub:=sub) (ab:=ab) (col:=col) (dd:=dd) (k0:=k0) (k1:=k1) (k2:=k2) (k3:=k3) (k5:=k5) (newId:="ValueError.__new__") NM (I.ok.hd hc)
  (wpAny_bind (wpAny_mono go (λv s3 h3=>wpAny_bind (wpAny_standAt (wpAny_pure h3))) λ_ _ z=>z))))
end
end L2
namespace T2
open PySem PySem.Spec PyProof.Rows L2
abbrev WX:=Addr->StT->Sto->Prop
abbrev WR:=StT->Sto->WX->Prop
def lR (K:Fg) (w:WR):TR:=λU H R=>∃ S LQ Rt,SRp K H S/\Cov K H S U LQ/\w LQ S Rt/\∀ C LR H' L9 S',Fr H S H' S'->SRp K H' S'->Cov K H' S' LR L9->Rt C L9 S'->R C none LR H'
def QR (K:Fg) (X:Cx) (st:Stmt) (w:WR):Prop:=PR X st (lR K w)
def QRs (K:Fg) (X:Cx) (st:List Stmt) (w:WR):Prop:=PRs X st (lR K w)
def QRE (K:Fg) (X:Cx) (e:Expr) (w:WR):Prop:=PRE X e (lR K w)
def QRA (K:Fg) (X:Cx) (es:List Expr) (w:WR):Prop:=PRA X es (lR K w)
theorem PR.of {X:Cx}{e:Stmt}{t t':TR}(h:PR X e t) (i:∀ U H Q,t' U H Q->t U H Q):PR X e t':=λpins s U H Q I q=>h pins s U H Q I (i U H Q q)
theorem PRs.of {X:Cx}{e:List Stmt}{t t':TR}(h:PRs X e t) (i:∀ U H Q,t' U H Q->t U H Q):PRs X e t':=λpins s U H Q I q=>h pins s U H Q I (i U H Q q)
theorem PRE.of {X:Cx}{e:Expr}{t t':TR}(h:PRE X e t) (i:∀ U H Q,t' U H Q->t U H Q):PRE X e t':=λpins s U H Q I q=>h pins s U H Q I (i U H Q q)
abbrev aU:=List T->Sto->(Addr->Sto->Prop)->Prop
def aH (K:Fg) (w:aU):Sp:=λvs H _ E=>∃ S ts Rt,SRp K H S/\Rps K H S ts vs/\w ts S Rt/\∀ C H' S',Fr H S H' S'->SRp K H' S'->Rt C S'->E (.ref C) none H'
section
variable {K:Fg}{X:Cx}{st:Stmt}{rest:List Stmt}{w u:WS}{r r2:WR}{e:Expr}{es:List Expr}{we:WE}{pos:Pos}{t:WT}
theorem aw (h:QR K X st r):QRs K X (st::rest) r:=A6 h
def t6 (w:WS) (r:WR):WR:=λU S R=>w { nx:=λLR S'=>r LR S' R,rt:=λ_ _=>False } U S
theorem bD (h1:QS K X.nox st w) (h2:QRs K X rest r):QRs K X (st::rest) (t6 w r):=PRs.of (A7 h1 h2) λU H R ⟨S,LQ,Rt,s,c,q,hr⟩ =>
 ⟨S,LQ,_,s,c,q,⟨λLR H' L9 S' f s' c' q'=>⟨S',L9,Rt,s',c',q',λC MR H2 Ow S2 f2=>hr C MR H2 Ow S2 (f.trans f2)⟩,λ_ _ _ _ _ _ _ q'=>q'.elim,λ_ _ _ _ _ _ _ q'=>q'.elim,λ_ _ _ _ _ _ _ q'=>q'.elim⟩⟩
def wU (t:WT) (r r2:WR):WR:=λU S R=>t U S λb S1=>if b=true then r U S1 R else r2 U S1 R
theorem aT {c:Expr}{a b:List Stmt}(hc:QT K X.nox c t) (ha:QRs K X a r) (hb:QRs K X b r2):QR K X (.If c a b pos) (wU t r r2):=PR.of (JK hc ha hb) λU H R zz109=>by
 obtain ⟨S,LQ,Rt,s,c,q,hr⟩:=zz109
 refine ⟨S,LQ,_,s,c,q,λk H1 S1 f1 s1 q1=>?_⟩
 cases k with
 |true=>exact ⟨S1,LQ,Rt,s1,c.fr f1,q1,λC MR H2 Ow S2 f2=>hr C MR H2 Ow S2 (f1.trans f2)⟩
 |false=>exact ⟨S1,LQ,Rt,s1,c.fr f1,q1,λC MR H2 Ow S2 f2=>hr C MR H2 Ow S2 (f1.trans f2)⟩
def Di:WR:=λ_ _ _=>False
theorem bC {TC:List Stmt}:QRs K X TC Di:=λ_ _ _ _ _ _ zz110=>by obtain ⟨_,_,_,_,_,q,_⟩:=zz110;exact q.elim
theorem bq (h:QRE K X e r) (hs:swapsWith e none pos.line X.env=pure false:=by rfl):QR K X (.Expr e pos) r:=Dh h hs
theorem jn (h:QRE K X e r):QR K X (.Return (some e) pos) r:=F7 h
theorem nu {x:Str}{MT:Pos}(h:QRE K X e r) (hs:swapsWith e (some (.Name x MT)) pos.line X.env=pure false:=by rfl):QR K X (.Assign [.Name x MT] e pos) r:=F8 h hs
theorem gr (h:QRE K X e r) (hs:starEach (e::es) X.env=(false,eval e X.env)::starEach es X.env:=by rfl):QRA K X (e::es) r:=A8 h hs
end
section
variable {K:Fg}{X:Cx}{k:Nat}{f C:Addr}{fd:FuncData}{ps:List Str}{L5:aU}{x m:Str}{p pos TL apos:Pos}{e o:Expr}{es:List Expr}{wa:WE}{wr:WA}{r:WR}{G:Addr->Prop}
def t7 (L5:aU) (wr:WA):WR:=λU S R=>wr U S λts S1=>L5 (ts++[]) S1 λC S'=>R C U S'
theorem fh (F:FnOk X.prog X.w X.K X.mg X.base (CX1 X.prog X.w) k f fd ps (aH K L5)) (D:Df X.K X.mg x f fd ps) (hr:Room k X.A) (hg:Gl X x) (ha:QA K X.nox (e::es) wr)
  (MV:(x==("__debug__":Str))=false:=by decide) (he:starEach (e::es) X.env=(false,eval e X.env)::starEach es X.env:=by rfl) (MS:(backTo pos (starEach es X.env)).any (·.1)=false:=by rfl) :
  QRE K X (.Call (.Name x p) (e::es) [] pos) (t7 L5 wr):=PRE.of (A9 (dvs:=[]) F hr hg D.hm D.kp D.b .nil ha MV he MS) λU H R zz111=>by
 obtain ⟨S,LQ,Rt,s,c,q,hq⟩:=zz111
 refine ⟨S,LQ,_,s,c,q,λvs H1 ts S1 f1 s1 r1 q1=>?_⟩
 exact ⟨S1,_,_,s1,r1.append .nil,q1,λC H' S' f s' q'=>⟨C,rfl,hq C U H' LQ S' (f1.trans f) s' (c.fr (f1.trans f)) q'⟩⟩
theorem Be (D:Df X.K X.mg x f fd ps) (hg:Gl X x) (ha:QRA K X (e::es) r) (MV:(x==("__debug__":Str))=false:=by decide) (he:starEach (e::es) X.env=(false,eval e X.env)::starEach es X.env:=by rfl) (MS:(backTo pos (starEach es X.env)).any (·.1)=false:=by rfl) :
  QRE K X (.Call (.Name x p) (e::es) [] pos) r:=zM (g:=.none) hg D.hm D.kp ha MV he MS
def jo (G:Addr->Prop) (m:Str) (L5:aU) (wa:WE) (wr:WA):WR:=λU S R=>wa U S λx S1=>∃ a C fs,x=.ref a/\S1 a=some (.ins C fs)/\G C/\fs.lookup m=none/\wr U S1 λts S2=>L5 (x::(ts++[])) S2 λC S'=>R C U S'
theorem zR {U H R}(h:lR K (jo G m L5 wa wr) U H R):oq G m (aH K L5) [] (lE K wa) (lA K wr) U H R:=by
 obtain ⟨S,LQ,Rt,s,c,q,hq⟩:=h
 refine ⟨S,LQ,_,s,c,q,λx H1 tx S1 f1 s1 r1 q1=>?_⟩
 obtain ⟨a,C,fs,rfl,ea,g,l,q1⟩:=q1
 cases r1
 cases s1 a _ ea with
 |ins eh pr =>
  refine ⟨a,C,_,_,rfl,eh,g,cP pr l,S1,LQ,_,s1,c.fr f1,q1,λvs H2 ts S2 f2 s2 r2 q2=>?_⟩
  exact ⟨S2,_,_,s2,.cons .ref (r2.append .nil),q2,λC H' S' f s' q'=>⟨C,rfl,hq C U H' LQ S' ((f1.trans f2).trans f) s' (c.fr ((f1.trans f2).trans f)) q'⟩⟩
theorem bn {pl:Sem Bool}(hG:∀ C,G C->Cls X.K C/\Meth X.K C m f) (F:FnOk X.prog X.w X.K X.mg X.base (CX1 X.prog X.w) k f fd ps (aH K L5)) (hb:ao X.K fd ps []) (hr:Room k X.A) (ho:QE K X.nox o wa) (ha:QA K X.nox (e::es) wr)
  (PC:starEach (e::es) X.env=(false,eval e X.env)::starEach es X.env:=by rfl) (MS:(backTo pos (starEach es X.env)).any (·.1)=false:=by rfl)
  (ht:eval (.Call (.Attribute o m apos) (e::es) [] pos) X.env=(do
   let ov <- eval o X.env
   standAt apos.atName
   let (f,first) <- holding [ov] (getMethod ov m pl)
   callWith pos f first (backTo pos (starEach (e::es) X.env)) (backToKw pos (keywordEach [] X.env))):=by rfl) :
  QRE K X (.Call (.Attribute o m apos) (e::es) [] pos) (jo G m L5 wa wr):=PRE.of (rp (pl:=pl) (dvs:=[]) ho hG F hr hb .nil ha PC MS ht) λ_ _ _ h=>zR h
theorem Bf {pl:Sem Bool}(hG:∀ C,G C->Cls X.K C/\Meth X.K C m f) (F:FnOk X.prog X.w X.K X.mg X.base (CX1 X.prog X.w) k f fd ps (aH K L5)) (hb:ao X.K fd ps []) (hr:Room k X.A) (ho:QE K X.nox o wa)
  (ht:eval (.Call (.Attribute o m apos) [] [] pos) X.env=(do
   let ov <- eval o X.env
   standAt apos.atName
   let (f,first) <- holding [ov] (getMethod ov m pl)
   callWith pos f first (backTo pos (starEach [] X.env)) (backToKw pos (keywordEach [] X.env))):=by rfl) :
  QRE K X (.Call (.Attribute o m apos) [] [] pos) (jo G m L5 wa dq):=PRE.of (zN (pl:=pl) (dvs:=[]) ho hG F hr hb .nil ht) λU H R h=>by
 obtain ⟨S,LQ,Rt,s,c,q,hq⟩:=h
 refine ⟨S,LQ,_,s,c,q,λx H1 tx S1 f1 s1 r1 q1=>?_⟩
 obtain ⟨a,C,fs,rfl,ea,g,l,q1⟩:=q1
 cases r1
 cases s1 a _ ea with
 |ins eh pr =>
  exact ⟨a,C,_,_,rfl,eh,g,cP pr l,S1,_,_,s1,.cons .ref .nil,q1,λC H' S' f s' q'=>⟨C,rfl,hq C U H' LQ S' (f1.trans f) s' (c.fr (f1.trans f)) q'⟩⟩
def sv (C:Addr) (wr:WA):WR:=λU S R=>wr U S λts S1=>ts.length<=2/\R C U S1
theorem bS (hx:bu X.K C none=true) (hk:PySem.W.keepIn X.K (.ref C)=true) (hc:X.calm=true) (hg:Gl X x) (hm:X.mg x=some (.ref C)) (ha:QA K X.nox (e::es) wr) (MV:(x==("__debug__":Str))=false:=by decide)
  (he:starEach (e::es) X.env=(false,eval e X.env)::starEach es X.env:=by rfl) (MS:(backTo pos (starEach es X.env)).any (·.1)=false:=by rfl):QR K X (.Raise (some (.Call (.Name x p) (e::es) [] pos)) none TL) (sv C wr) :=
 PR.of (Bc hx hk hc hg hm ha MV he MS) λU H R ⟨S,LQ,Rt,s,c,q,hq⟩ =>
  ⟨S,LQ,_,s,c,q,λvs H1 ts S1 f1 s1 r1 zz112=>by obtain ⟨hl,q1⟩:=zz112;exact ⟨by rw [r1.length];exact hl,hq C U H1 LQ S1 f1 s1 (c.fr f1) q1⟩⟩
end
def iq (R:Addr->Sto->Prop):WX:=λC _ S=>∃ S0,Le S0 S/\R C S0
theorem iq.mk {R:Addr->Sto->Prop}{C:Addr}{U:StT}{S:Sto}(h:R C S):iq R C U S:=⟨S,.refl,h⟩
theorem sx {P:Program}{w:World}{K:Fg}{mg:Str->Option Value}{base:Heap}{x qual:Str}{st:Stmt}{f:Addr}{fd:FuncData}{N ps:List Str}{k:Nat}{L5:aU}(F:FunD K x qual st f fd) (Sc:FnScope N ps (aq st)) (len:∀ ts S Q,L5 ts S Q->ts.length=ps.length)
  (NL:∀ (cdv:Value) (A:Around) (outer:List Env) (s:Shared) (H:Hp) (E:XK),Room k (A.deeper (envOfC qual (aq st) s.heap.objs.size f cdv)) ->
   ∃ u,QRs K (cJ CX0 P w K mg base N qual (aq st) f cdv A outer s H E) (bG st) u/\∀ ts S R,L5 ts S R->u (bV N ts) S (iq R)):FnOk P w K mg base (CX1 P w) (k+1) f fd ps (aH K L5):=by
 obtain ⟨oc,od,dV,kV,doc,pm,an,cdv,ct,osl,rfl,lk,Qm⟩:=F.ex
 refine Ba lk Qm Sc (λvs H Q E ⟨S,ts,Qt,s,r,q,_⟩=>by rw [r.length];exact len _ _ _ q) λA outer s H vs E Q hr ⟨S,ts,Rt,sr,r,q,b⟩=>?_
 obtain ⟨u,hu,hq⟩:=NL cdv A outer s H E hr
 refine ⟨_,hu,S,bV N ts,_,sr,lF r,hq ts S Rt q,λC LR H' L9 S' f s' _ zz113=>?_⟩
 obtain ⟨S0,l,q0⟩:=zz113
 exact b C H' S0 (f.trans (Fr.le l)) (s'.le l) q0
section
variable {K:Fg}{X:Cx}{pos p:Pos}{x:Str}{B:Addr}
abbrev WH:=Addr->WS
def lH (K:Fg) (w:WH):TH:=λC D U H=>∃ S LQ Dt,SRp K H S/\Cov K H S U LQ/\w C Dt LQ S/\EndsOk K H S Dt D
def QH (K:Fg) (X:Cx) (hs:List ExceptHandler) (w:WH):Prop:=PH X hs (lH K w)
theorem PH.of {hs:List ExceptHandler}{t t':TH}(h:PH X hs t) (i:∀ C D U H,t' C D U H->t C D U H):PH X hs t':=λpins s U H a C dct lo D I lw x q=>h pins s U H a C dct lo D I lw x (i C D U H q)
def JO:WH:=λ_ _ _ _=>False
theorem Ga:QH K X [] JO:=PH.of F9 λ_ _ _ _ zz114=>by obtain ⟨_,_,_,_,_,q,_⟩:=zz114;exact q
def pe (wn:WS) (wr:WR) (wh:WH):WS:=λD U S=>wn D U S\/wr U S λC LR S'=>wh C D LR S'
end
section
variable {K:Fg}{U:StT}{S:Sto}{R:WX}{D:EndsT}{w:WS}{r r2:WR}{t:WT}{we wa:WE}{wr:WA}{L5:aU}{C B:Addr}{G:Addr->Prop}{m:Str}{wh:WH}
theorem cA (h:w { nx:=λLR S'=>r LR S' R,rt:=λ_ _=>False } U S):t6 w r U S R:=h
theorem dA (h:t U S λb S1=>if b=true then r U S1 R else r2 U S1 R):wU t r r2 U S R:=h
theorem Gc (h:wr U S λts S1=>L5 (ts++[]) S1 λC S'=>R C U S'):t7 L5 wr U S R:=h
theorem Gd (h:wa U S λx S1=>∃ a C fs,x=.ref a/\S1 a=some (.ins C fs)/\G C/\fs.lookup m=none/\wr U S1 λts S2=>L5 (x::(ts++[])) S2 λC S'=>R C U S'):jo G m L5 wa wr U S R:=h
theorem Dj (h:wr U S λts S1=>ts.length<=2/\R C U S1):sv C wr U S R:=h
theorem Ge (h:w D U S):pe w r wh D U S:=.inl h
theorem Gf (h:r U S λC LR S'=>wh C D LR S'):pe w r wh D U S:=.inr h
end
end T2
namespace L2
open PySem PySem.Spec PyProof.Rows
section
variable {X:Cx}
def JP:V->V->Hp->VK->Prop:=λx y H Q=>∃ i j,x=.str i/\y=.str j/\i.length+j.length<=sizeLine/\Q (.str (i++j)) H
theorem Dk:oX X .Add JP:=λpins s U H x y u v Q I rx ry h=>yh pins s U H x y u v Q I rx ry h
variable {pos p2 p3:Pos}{value:Expr}{tv:TE}{s2:Str}{k3:Nat}
def tFr (tv:TE):TE:=λU H Q=>tv U H λx H1=>∃ z:Str,x=.str z/\z.length<=1000/\PyData.strOk z=true/\∀ y,Q (.str y) H1
theorem JQ (hv:PE X value tv) (h2:s2.length<=1000):PE X (.JoinedStr [.FormattedValue value 114 none p2,.Constant (.str s2) k3 p3] pos) (tFr tv):=by
 intro pins s U H Q I h
 refine JoinedStr_many (joinParts_cons ?_)
 show wpAny (model X.prog X.w) X.A (do let v <- eval value X.env;standAt p2;formatted p2 (<- holding [v] (converted 114 v)) none) _ _ s
 refine wpAny_bind (thn (hv pins s U H _ I h) λu sa zz115=>?_)
 obtain ⟨x,H1,I1,rx,z,ex,hz,hok,q⟩:=zz115
 subst ex
 obtain ⟨t1,rfl⟩:=(show ∃ t,u=Value.str z t from rx)
 have hr:(reprText z).length<=10002:=by
  have:=StrLaws.reprText_len z λc hc=>by
   unfold PyData.strOk at hok
   rw [Array.all_eq_true_iff_forall_mem] at hok
   have:=of_decide_eq_true (hok c (by simpa using hc))
   omega
  omega
 refine wpAny_bind (wpAny_standAt (wpAny_bind (wpAny_holding ?_)))
 show wpAny _ _ (pyReprObj (.str z t1)) _ _ _
 refine wpAny_pyReprObj_str (formatField_str (λt' tk=>?_) (by rw [sizeLine_eq];omega)) (by rw [sizeLine_eq];omega)
 have l0:(Str.empty++reprText z).length<=10002:=by rw [PySem.Str.length_append];exact (by simpa [Str.empty,PySem.Str.length] using hr)
 refine ⟨by rw [sizeLine_eq];omega,?_⟩
 refine joinParts_cons (thn (jh pins _ U H1 (λv H2=>v=.str s2/\H2=H1) (I1.tok _) ⟨rfl,rfl⟩) λu3 sc zz116=>?_)
 obtain ⟨v,H3,I3,ru3,ev,eH⟩:=zz116
 subst ev eH
 obtain ⟨t3,rfl⟩:=(show ∃ t,u3=Value.str s2 t from ru3)
 have lz:(Str.empty++reprText z++s2).length<=sizeLine:=by rw [PySem.Str.length_append,sizeLine_eq];omega
 exact ⟨lz,joinParts_nil (show EP X pins U Q _ _ from ⟨.str (Str.empty++reprText z++s2),_,I3.tok _,⟨_,rfl⟩,q _⟩) lz⟩
end
end L2
namespace T2
open PySem PySem.Spec PyProof.Rows L2
section
variable {K:Fg}{X:Cx}{pos p2 p3:Pos}{value o:Expr}{wv wa:WE}{s2:Str}{k3:Nat}{G:Addr->Prop}
def wFr (wv:WE):WE:=λU S Q=>wv U S λx S1=>∃ z:Str,x=.str z/\z.length<=1000/\PyData.strOk z=true/\∀ y,Q (.str y) S1
theorem dS (hv:QE K X value wv) (h2:s2.length<=1000:=by decide):QE K X (.JoinedStr [.FormattedValue value 114 none p2,.Constant (.str s2) k3 p3] pos) (wFr wv) :=
 PE.of (JQ hv h2) λU H Q zz117=>by
  obtain ⟨S,LQ,Qt,s,c,q,hq⟩:=zz117
  refine ⟨S,LQ,_,s,c,q,λx H1 tx S1 f1 s1 r1 q1=>?_⟩
  obtain ⟨z,rfl,hz,hok,q1⟩:=q1
  cases r1
  exact ⟨z,rfl,hz,hok,λy=>hq _ H1 _ S1 f1 s1 .str (q1 y)⟩
theorem Lx {U:StT}{S:Sto}{Q:T->Sto->Prop}(h:wv U S λx S1=>∃ z:Str,x=.str z/\z.length<=1000/\PyData.strOk z=true/\∀ y,Q (.str y) S1):wFr wv U S Q:=h
def qJ (G:Addr->Prop) (wa wv:WE) (f:Str):WS:=λD U S=>wa U S λx S1=>∃ a C fs i,x=.ref a/\S1 a=some (.ins C fs)/\G C/\fs.lookup f=some (.str i) /\
 wv U S1 λy S2=>∃ j Nz,y=.str j/\i.length+j.length<=sizeLine/\S2 a=some (.ins C Nz)/\Nz.length<1000/\D.nx U (put S2 a (.ins C (bz f (.str (i++j)) Nz)))
theorem yP {f:Str}{NA:Pos}(hK:X.K=K) (hG:∀ C,G C->Cls K C/\aJ K C f) (ha:QE K X o wa) (hv:QE K X value wv):QS K X (.AugAssign (.Attribute o f NA) .Add value pos) (qJ G wa wv f):=by
 subst hK
 refine PS.of (qk ha hv Dk) λD U H zz118=>?_
 obtain ⟨S,LQ,Dt,s,c,q,he⟩:=zz118
 refine ⟨S,LQ,_,s,c,q,λx H1 tx S1 f1 s1 r1 q1=>?_⟩
 obtain ⟨a,C,fs,i,rfl,ea,g,l,q1⟩:=q1
 cases r1
 cases s1 a _ ea with
 |ins eh pr =>
  obtain ⟨u,lu,ru⟩:=lJ pr l
  cases ru
  refine ⟨a,C,_,_,_,rfl,eh,(hG C g).1,(hG C g).2,lu,S1,LQ,_,s1,c.fr f1,q1,λy H2 ty S2 f2 s2 r2 q2=>?_⟩
  obtain ⟨j,Nz,rfl,hz,ea2,l2,q2⟩:=q2
  cases r2
  cases s2 a _ ea2 with
  |ins eh2 pr2 =>
   obtain ⟨fw,sw⟩:=lK (f:=f) (t:=.str (i++j)) (v:=.str (i++j)) s2 ea2 eh2 pr2 .str
   exact ⟨i,j,rfl,rfl,hz,_,_,eh2,by rw [Paired.len pr2];exact l2,he.nx _ _ LQ _ ((f1.trans f2).trans fw) sw (c.fr ((f1.trans f2).trans fw)) q2⟩
theorem Bg {U:StT}{S:Sto}{D:EndsT}{f:Str}(h:wa U S λx S1=>∃ a C fs i,x=.ref a/\S1 a=some (.ins C fs)/\G C/\fs.lookup f=some (.str i) /\
 wv U S1 λy S2=>∃ j Nz,y=.str j/\i.length+j.length<=sizeLine/\S2 a=some (.ins C Nz)/\Nz.length<1000/\D.nx U (put S2 a (.ins C (bz f (.str (i++j)) Nz)))):qJ G wa wv f D U S:=h
end
end T2
namespace L2
open PySem PySem.Spec PyProof.Rows
end L2
namespace T2
open PySem PySem.Spec PyProof.Rows L2
section
variable {K:Fg}{X:Cx}
end
section
variable {K:Fg}{X:Cx}{TC:List Stmt}{r1 r2:WR}
def j7 (r1 r2:WR):WR:=λU S R=>r1 U S R\/r2 U S R
theorem cQ (h1:QRs K X TC r1) (h2:QRs K X TC r2):QRs K X TC (j7 r1 r2):=λpins s U H Q I zz119=>by
 obtain ⟨S,LQ,Rt,sr,c,q,hr⟩:=zz119
 rcases q with q|q
 ·exact h1 pins s U H Q I ⟨S,LQ,Rt,sr,c,q,hr⟩
 ·exact h2 pins s U H Q I ⟨S,LQ,Rt,sr,c,q,hr⟩
theorem cF {U:StT}{S:Sto}{R:WX}(h:r1 U S R):j7 r1 r2 U S R:=.inl h
theorem cG {U:StT}{S:Sto}{R:WX}(h:r2 U S R):j7 r1 r2 U S R:=.inr h
end
end T2
namespace L2
open PySem PySem.Spec PyProof.Rows
section
variable {X:Cx}
end
end L2
namespace T2
open PySem PySem.Spec PyProof.Rows L2
section
variable {K:Fg}{X:Cx}
end
end T2
namespace L2
open PySem PySem.Spec PyProof.Rows
section
variable {X:Cx}{pins:List (Addr×Obj)}{U:St}{H:Hp}{s:Shared}
theorem jd {M:Model}{A:Around}{E:Value->Shared->Prop}{i:Nat}{x:Str}{pos:Pos}{Q:Unit->Shared->Prop}(I:Inv X pins U H s) (hN:X.N.Nodup) (hi:X.N[i]?=some x) (hx:X.env.scope.names.lookup x=some .local)
  (h:∀ s',Inv X pins (U.set i none) H s'->Q () s'):wpAny M A (do bindName X.env x .none;unbindBehindTheSuite X.env x pos) Q E s:=by
 refine wpAny_bind (wpAny_bindName (fZ (v:=.non) I hN hi (.inl hx) rfl (λs1 I1=>?_) (.inr hx)))
 have Tn:(X.env.scope.kind==.class || (X.env.scope.kind==.module&&X.env.locals != X.env.globals))=false:=by rw [I.ok.kind];rfl
 have hk:X.env.kindOf x=some .local:=hx
 obtain ⟨m,hn,hl⟩:=id I1.loc
 have cne:=I1.cne
 unfold unbindBehindTheSuite
 refine wpAny_onRaise ?_
 unfold unbindName
 refine wpAny_bind (wpAny_point (wpAny_bind ?_))
 unfold deleteName
 simp only [hk,Tn]
 rw [if_neg (by decide)]
 refine wpAny_bind (wpAny_nsDel_keeps hn λh' v hn' hs=>?_)
 have hsome:(m x).isSome=true:=by
  have Rc:i<U.length:=by rw [I.len];exact (List.getElem?_eq_some_iff.mp hi).1
  obtain ⟨u,_,q⟩:=hl i x .non hi (by rw [List.getElem?_set_self Rc]) (.inl hx)
  rcases q with ⟨_,e⟩|⟨k,_⟩
  ·rw [e];rfl
  ·rw [hk] at k;rcases k with k|k<;>cases k
 rw [hsome]
 simp only [if_true,Option.isSome_some,Bool.not_true,Bool.false_eq_true,if_false]
 refine wpAny_pure (wpAny_point (h _ ?_))
 obtain ⟨oL,_,_,hoL,_⟩:=id hn
 refine ⟨I.ok,I1.os,I1.bare,⟨λb o e n hb hx=>?_,λb o e n hb hx=>?_,I1.base.free,λb o e hx=>?_,I1.base.tups,I1.base.frzs,I1.base.tbls⟩,⟨_,hn',λj y v' e1 e2 e3=>?_⟩,λy c e=>?_,I1.free,I1.freeC,λp hp=>?_,λb ob e=>?_,by simpa using I.len⟩
 ·exact (hs.2 b (Nat.ne_of_lt (Nat.lt_of_lt_of_le (Heap.lt_size e) I.ok.above))).trans (I1.base.keep b o e n hb hx)
 ·obtain ⟨sl,e1⟩:=I1.base.slot b o e n hb hx
  exact ⟨sl,(hs.2 b (Nat.ne_of_lt (Nat.lt_of_lt_of_le (Heap.lt_size e) I.ok.above))).trans e1⟩
 ·obtain ⟨o',e1⟩:=I1.base.there b o e hx
  exact ⟨o',(hs.2 b (Nat.ne_of_lt (Nat.lt_of_lt_of_le (Heap.lt_size e) I.ok.above))).trans e1⟩
 ·have Rc:i<U.length:=by rw [I.len];exact (List.getElem?_eq_some_iff.mp hi).1
  by_cases hj:j=i
  ·subst hj
   rw [List.getElem?_set_self Rc] at e2
   cases e2
  ·rw [List.getElem?_set_ne (Ne.symm hj)] at e2
   obtain ⟨u',r',q⟩:=hl j y v' e1 (by rw [List.getElem?_set_ne (Ne.symm hj)];exact e2) e3
   refine ⟨u',r',?_⟩
   rcases q with ⟨k,e⟩|⟨k,c,e,z⟩
   ·refine .inl ⟨k,?_⟩
    have:y≠x:=λe=>hj (lW hN e1 (e ▸ hi))
    simp [this,e]
   ·exact .inr ⟨k,c,e,z.sameBut hs (cne y c e)⟩
 ·obtain ⟨w',z⟩:=I1.cell y c e
  exact ⟨w',z.sameBut hs (cne y c e)⟩
 ·obtain ⟨e,n,ne,nf,d⟩:=I1.pin p hp
  exact ⟨(hs.2 p.1 ne).trans e,n,ne,nf,d⟩
 ·refine (I1.hok b ob e).stay (λc w' hc q=>(hs.2 c ?_).trans q) (λ_ q=>q) λ_ _ q=>q
  rintro rfl
  rcases hc with rfl|hc
  ·rw [I1.free] at e;cases e
  ·rw [I1.free] at hc;cases hc
theorem Inv.add {a:Addr}{o:HO}{lo:Nat}(I:Inv X pins U H s) (lw:Low X pins lo) (hl:lo<=a) (h0:H a=none) (new:aP X.prog X.w (upd H a o) s.heap a o):Inv X pins U (upd H a o) s:=by
 have ne:∀ b u,H b=some u->b≠a:=λb u e z=>by rw [z,h0] at e;cases e
 have up:∀ b u,H b=some u->upd H a o b=some u:=λb u e=>by unfold upd;rw [if_neg (ne b u e)];exact e
 have no:∀ b,b<lo->H b=none->upd H a o b=none:=λb hb e=>by unfold upd;rw [if_neg (λz=>absurd (Nat.lt_of_lt_of_le hb hl) (by rw [z];exact Nat.lt_irrefl _))];exact e
 refine ⟨I.ok,I.os,I.bare,⟨I.base.keep,I.base.slot,λb u e n hx=>?_,I.base.there,λb xs e=>?_,λb u v e=>?_,λb ps e=>?_⟩,I.loc,I.cell,no _ lw.loc I.free,λx c e=>no _ (lw.cell x c e) (I.freeC x c e),λp hp=>?_,λb ob e=>?_,I.len⟩
 ·exact no b (Nat.lt_of_lt_of_le (Heap.lt_size e) lw.s0) (I.base.free b u e n hx)
 ·exact up _ _ (I.base.tups b xs e)
 ·exact up _ _ (I.base.frzs b u v e)
 ·obtain ⟨m,q⟩:=I.base.tbls b ps e
  exact ⟨m,up _ _ q⟩
 ·obtain ⟨e,n,r⟩:=I.pin p hp
  exact ⟨e,no _ (lw.pin p hp) n,r⟩
 ·by_cases hb:b=a
  ·subst hb
   have:ob=o:=by unfold upd at e;rw [if_pos rfl] at e;exact (Option.some.inj e).symm
   subst this
   exact new
  ·have e':H b=some ob:=by unfold upd at e;rw [if_neg hb] at e;exact e
   exact (I.hok b ob e').stay (λc w' hc q=>q) (λc q=>up _ _ q) λc xs q=>up _ _ q
theorem Gg {P:Program}{w:World}{h:Heap}{C a:Addr}(x:∃ ob,h.get? a=some ob/\ob.cls=.ref C/\ob.dict=none/\∃ vs,ob.data=.fields vs/\vs[2]?=some .none):aP P w H h a (exH C a) :=
 ⟨x,let ⟨ob,e,_⟩:=x;⟨ob,e⟩,λ_ _ zz120 k=>by obtain ⟨ob,e,r⟩:=zz120;exact ⟨ob,k _ e,r⟩⟩
end
section
variable {X:Cx}
def PHn (X:Cx) (hs:List ExceptHandler) (t:TH):Prop:=∀ (pins:List (Addr×Obj)) (s:Shared) (U:St) (H:Hp) (a C:Addr) (lo:Nat) (D:Ends),Inv X pins U H s->Low X pins lo->Xc.Exc s.heap lo (λb=>H b=none) a (.ref C) none->t C D U H ->
 wpAny (model X.prog X.w) X.A (handleBy (.ref a) X.env hs) (SP X pins D) X.xe s
theorem PH.n {hs:List ExceptHandler}{t:TH}(h:PH X hs t):PHn X hs t:=λpins s U H a C lo D I lw x q=>h pins s U H a C none lo D I lw x q
def ny (i:Nat) (D:Ends):Ends:={ D with nx:=λU H=>D.nx (U.set i none) H,bk:=λU H=>D.bk (U.set i none) H,ct:=λU H=>D.ct (U.set i none) H }
def Lz (K:PySem.W.Frag) (B:Addr) (i:Nat) (t:Addr->TS) (r:TH):TH:=λC D U H=>∃ b,PySem.W.exmOne K (.ref C) (.ref B)=some b/\if b=true then ∀ a,H a=none->t a (ny i D) (U.set i (some (.ref a))) (upd H a (exH C a)) else r C D U H
theorem JR {x n:Str}{B:Addr}{i:Nat}{p pos:Pos}{st:Stmt}{suite:List Stmt}{hs:List ExceptHandler}{t:Addr->TS}{r:TH}(hN:X.N.Nodup) (hi:X.N[i]?=some n) (hn:X.env.scope.names.lookup n=some .local) (hg:Gl X x) (hm:X.mg x=some (.ref B)) (h1:∀ a,PSs (X.inx a) (st::suite) (t a)) (h2:PHn X hs r) (MV:(x==("__debug__":Str))=false:=by decide) :
  PHn X (.ExceptHandler (some (.Name x p)) (some n) (st::suite) pos::hs) (Lz X.K B i t r):=by
 intro pins s U H a C lo D I lw x h
 obtain ⟨b,hb,q⟩:=h
 refine wpAny_handleBy_cons (codeAny_handlers_test (c6 (X:=X.inx a) (I.inx a) hg hm ?_ MV)) (by intro z;cases z)
 obtain ⟨oe,ge,hc,_⟩:=x.there
 have lt:PySem.W.Looks (model X.prog X.w) s.heap (typeOf (.ref a)) (.ref C):=hc ▸ (PySem.W.Looks.ld ge).andThen .now
 refine (PySem.W.exm_one (M:=model X.prog X.w) I.kIn lt hb).here ?_
 cases b with
 |true =>
  rw [if_pos rfl] at q
  refine codeAny_handlers_suite_as ?_
  refine zO I lw x λs' I' x'=>?_
  obtain ⟨oe',_,_,ge',Sl,hd',de',e2',Sq,h0,_⟩:=x'
  have J:=(I'.add lw Sq h0 (Gg (C:=C) ⟨oe',ge',Sl,hd',_,de',e2'.2⟩)).inx a
  refine fZ (X:=X.inx a) (v:=.ref a) J hN hi (.inl hn) rfl (λs2 J2=>?_) (.inr hn)
  refine wpAny_mono (h1 a pins s2 _ _ (ny i D) J2 (q a h0)) (λf s3 z=>?_) λ_ _ z=>z.elim
  have z:=SP.outx I.ok z
  cases f with
  |next=>obtain ⟨LR,H',I3,q3⟩:=z;exact jd I3 hN hi hn λs4 I4=>⟨_,_,I4,q3⟩
  |brk=>obtain ⟨LR,H',I3,q3⟩:=z;exact jd I3 hN hi hn λs4 I4=>⟨_,_,I4,q3⟩
  |cont=>obtain ⟨LR,H',I3,q3⟩:=z;exact jd I3 hN hi hn λs4 I4=>⟨_,_,I4,q3⟩
  |ret u=>obtain ⟨v,LR,H',I3,rv,q3⟩:=z;exact jd I3 hN hi hn λs4 I4=>⟨v,_,_,I4,rv,q3⟩
 |false =>
  rw [if_neg (by decide)] at q
  exact h2 pins s U H a C lo D I lw x q
def JS (tn:TS) (tr:TR) (th:TH):TS:=λD U H=>tn D U H\/tr U H λC dct LR H'=>dct=none/\th C D LR H'
theorem Dl {body:List Stmt}{hd:ExceptHandler}{hs:List ExceptHandler}{tn:TS}{tr:TR}{th:TH}{pos:Pos}(st:X.stack=X.env::X.outer/\X.env.frame=some X.env.locals) (hn:PSs X.nox body tn) (hr:PRs X body tr) (hh:PHn X (hd::hs) th) :
  PS X (.Try body (hd::hs) [] [] pos) (JS tn tr th):=by
 intro pins s U H D I h
 rcases h with h|h
 ·refine wpAny_Try_except (wpAny_mono (hn pins s U H D (I.wish _) h) (λf s1 q=>?_) λ_ _ z=>z.elim)
  cases f with
  |next=>exact wpAny_execs_nil q.unwish
  |brk=>exact q.unwish
  |cont=>exact q.unwish
  |ret u=>exact q.unwish
 ·refine wpAny_Try_except (wpAny_mono (hr pins s U H _ I h) (λf s1 q=>q.elim) λe s1 ⟨a,C,dct,LR,H',lo,ee,J,lw,x,hdn,q⟩=>?_)
  subst ee hdn
  have Sq:lo<=s1.heap.objs.size:=Nat.le_of_lt (Nat.lt_of_le_of_lt (by obtain ⟨_,_,_,_,_,_,_,_,l,_⟩:=x;exact l) (by obtain ⟨oe,_,_,ge,_⟩:=x;exact Heap.lt_size ge))
  exact su J st lw Sq x λs2 J2 _ _ x2=>hh pins s2 LR H' a C lo D J2 lw x2 q
end
end L2
namespace T2
open PySem PySem.Spec PyProof.Rows L2
section
variable {K:Fg}{X:Cx}{pos p:Pos}{x:Str}{B:Addr}
theorem Cov.none {H:Hp}{S:Sto}{U:L2.St}{LQ:StT}(c:Cov K H S U LQ) (i:Nat):Cov K H S (U.set i none) (LQ.set i none):=by
 refine ⟨by rw [List.length_set,List.length_set];exact c.1,λj t e=>?_⟩
 rw [List.getElem?_set] at e
 split at e
 ·split at e<;>cases e
 ·rename_i h
  obtain ⟨v,e1,e2⟩:=c.2 j t e
  exact ⟨v,by rw [List.getElem?_set_ne h];exact e1,e2⟩
def asE (i:Nat) (D:EndsT):EndsT:={ D with nx:=λU S=>D.nx (U.set i none) S,bk:=λU S=>D.bk (U.set i none) S,ct:=λU S=>D.ct (U.set i none) S }
theorem EndsOk.as {H:Hp}{S:Sto}{Dt:EndsT}{D:Ends}(e:EndsOk K H S Dt D) (i:Nat):EndsOk K H S (asE i Dt) (ny i D) :=
 ⟨λLR H' L9 S' f s c q=>e.nx _ H' _ S' f s (c.none i) q,λv H' t S' f s r q=>e.rt v H' t S' f s r q,λLR H' L9 S' f s c q=>e.bk _ H' _ S' f s (c.none i) q,λLR H' L9 S' f s c q=>e.ct _ H' _ S' f s (c.none i) q⟩
def QHn (K:Fg) (X:Cx) (hs:List ExceptHandler) (w:WH):Prop:=PHn X hs (lH K w)
theorem PHn.of {hs:List ExceptHandler}{t t':TH}(h:PHn X hs t) (i:∀ C D U H,t' C D U H->t C D U H):PHn X hs t':=λpins s U H a C lo D I lw x q=>h pins s U H a C lo D I lw x (i C D U H q)
theorem Gh {hs:List ExceptHandler}{w:WH}(h:QH K X hs w):QHn K X hs w:=PH.n h
def wX (K:Fg) (B:Addr) (i:Nat) (w:Addr->WS) (r:WH):WH:=λC D U S=>∃ b,PySem.W.exmOne K (.ref C) (.ref B)=some b/\if b=true then ∀ a,S a=none->w a (asE i D) (U.set i (some (.ref a))) (put S a (.exk C)) else r C D U S
theorem JT {n:Str}{i:Nat}{st:Stmt}{suite:List Stmt}{hs:List ExceptHandler}{w:Addr->WS}{r:WH}(hK:X.K=K) (hN:X.N.Nodup) (hi:X.N[i]?=some n) (hn:X.env.scope.names.lookup n=some .local) (hg:Gl X x) (hm:X.mg x=some (.ref B)) (h1:∀ a,QSs K (X.inx a) (st::suite) (w a)) (h2:QHn K X hs r) (MV:(x==("__debug__":Str))=false:=by decide) :
  QHn K X (.ExceptHandler (some (.Name x p)) (some n) (st::suite) pos::hs) (wX K B i w r):=by
 subst hK
 refine PHn.of (JR hN hi hn hg hm h1 h2 MV) λC D U H zz121=>?_
 obtain ⟨S,LQ,Dt,s,c,⟨b,hb,q⟩,he⟩:=zz121
 refine ⟨b,hb,?_⟩
 cases b with
 |true =>
  intro a h0
  have q:=q a (s.fresh h0)
  have f:=Fr.newT (S:=S) (u:=exH C a) (o:=.exk C) h0
  exact ⟨_,_,_,s.newT h0 (.exk aM),(c.fr f).set .ref i,q,(he.fr f).as i⟩
 |false=>exact ⟨S,LQ,Dt,s,c,q,he⟩
theorem Gi {body:List Stmt}{hd:ExceptHandler}{hs:List ExceptHandler}{wn:WS}{wr:WR}{wh:WH}(st:X.stack=X.env::X.outer/\X.env.frame=some X.env.locals) (hn:QSs K X.nox body wn) (hr:QRs K X body wr) (hh:QHn K X (hd::hs) wh) :
  QS K X (.Try body (hd::hs) [] [] pos) (pe wn wr wh):=PS.of (Dl st hn hr hh) λD U H zz122=>by
 obtain ⟨S,LQ,Dt,s,c,q,he⟩:=zz122
 rcases q with q|q
 ·exact .inl ⟨S,LQ,Dt,s,c,q,he⟩
 ·exact .inr ⟨S,LQ,_,s,c,q,λC LR H' L9 S' f s' c' q'=>⟨rfl,S',L9,Dt,s',c',q',he.fr f⟩⟩
theorem Gj {U:StT}{S:Sto}{D:EndsT}{C:Addr}{i:Nat}{w:Addr->WS}{r:WH}(e:PySem.W.exmOne K (.ref C) (.ref B)=some true) (h:∀ a,S a=none->w a (asE i D) (U.set i (some (.ref a))) (put S a (.exk C))):wX K B i w r C D U S:=⟨true,e,h⟩
end
end T2
namespace PySem.W
open PySem PySem.Spec PySem.Calls PyProof.Rows
section
variable {prog:Program}{w:World}{A:Around}{E:Value->Shared->Prop}{s:Shared}{K:Frag}{x C:Addr}{ox:Obj}{od:Option Obj}{name:Str}{Sx fill:Bool}
structure XGet (K:Frag) (C:Addr):Prop where
 ga:findIn K (.ref C) "__getattribute__"=some (some (.builtin "BaseException.__getattribute__"))
 gk:findIn K (.ref C) "__getattr__"=some none
 sub:mroIn K C (.type "BaseException")=some true
theorem Dm {tk:Tok}{Q:Value->Shared->Prop}(G:XGet K C) (X:K.In s.heap) (I:InstAt s.heap x ox C od)
  (h:wpAny (model prog w) A.in1 (Builtin.«object.__getattribute__» ⟨[.ref x,.str name tk],[]⟩) (λfin s'=>match fin with|.done (.ret v)=>wpAny (model prog w) A (handedOut v) Q E s'|_=>False) (λ_ _=>False) s) :
  wpAny (model prog w) A (getAttrBy (.ref x) (.str name tk) fill Sx) Q E s:=by
 have hb:Looks (model prog w) s.heap (hookBefore (.ref C)) none:=by
  unfold hookBefore;rw [if_pos (show onTheHeap (.ref C)=true from rfl)];exact looks_findIn X G.gk
 have sub:Looks (model prog w) s.heap (isInstance (.ref x) (.type "BaseException")) true:=I.type.andThen (looks_mroIn X G.sub)
 unfold getAttrBy
 refine wpAny_holding (wpAny_bind (I.type.here (wpAny_bind ((looks_findIn X G.ga).here ?_))))
 dsimp only
 rw [show (onTheHeap (.ref C)&&Value.builtin "BaseException.__getattribute__" == Value.builtin "object.__getattribute__")=false from by rw [show (Value.builtin "BaseException.__getattribute__" == Value.builtin "object.__getattribute__")=false from by decide +kernel,Bool.and_false],if_neg (by decide)]
 unfold getAttrByItsOwn
 refine wpAny_bind (hb.here (wpAny_bind (wpAny_attempt (wpAny_holding ?_))))
 unfold callGetattribute
 rw [show (Sx&&onTheHeap (Value.builtin "BaseException.__getattribute__"))=false from Bool.and_false _,if_neg (by decide)]
 unfold boundAndCalled
 rw [PySem.F.attr_ValueError.ga.bind]
 refine wpAny_bind (wpAny_pure ?_)
 show wpAny _ _ (call (.builtin "BaseException.__getattribute__") [.ref x,.str name tk]) _ _ _
 refine wpAny_call ?_
 refine codeAny_call_builtin PySem.F.attr_ValueError.ga.plain PySem.F.entry_bexc_ga ?_
 refine @check_slot (model prog w) _ _ s "BaseException.__getattribute__" "BaseException" "__getattribute__" (.ref x) [.str name tk] [] _ (by decide +kernel) (by decide +kernel) sub (PySem.F.args_bexc_ga (.ref x) (.str name tk)) ?_
 refine wpAny_mono h (λfin s' z=>?_) λ_ _ z=>z.elim
 rcases fin with (_|_|_|_)|_<;>first|exact z|exact z.elim
theorem xget_class {Q:Option Value->Shared->Prop}(G:XGet K C) (X:K.In s.heap) (I:InstAt s.heap x ox C od) (hf:findObj K C od "__class__"=some (.bind (.builtin "getset_descriptor.__get__") (.builtin "object.__class__")))
  (hm:mroIn K C (.type "object")=some true) (h:Q (some (.ref C)) { s with toks:=s.toks+1 }) :
  wpAny (model prog w) A (getAttr? (.ref x) "__class__") Q E s:=by
 unfold getAttr? getAttrBy?
 refine wpAny_bind (wpAny_mkText (wpAny_bind (wpAny_attempt (Dm (s:={ s with toks:=s.toks+1 }) G X I ?_))))
 obtain ⟨hh',g,d,t,os⟩:=s
 have L0:=I.type (M:=model prog w)
 have L1:=looks_find (M:=model prog w) X I hf
 refine wpAny_bind (wpAny_pure (wpAny_bind (wpAny_pure (wpAny_bind (L0.at (wpAny_bind (L1.at ?_)))))))
 show wpAny _ _ (holding [_] (call (.builtin "getset_descriptor.__get__") [.builtin "object.__class__",.ref x,.ref C]) >>= ret) _ _ _
 refine wpAny_bind (wpAny_holding (wpAny_call (class_get (ox:=ox) (od:=od) X I hm (wpAny_pure ?_))))
 show wpAny _ _ (handedOut (.ref C)) _ _ _
 rw [handedOut_of rfl]
 exact wpAny_pure (wpAny_pure h)
theorem findObj_class (hc:(clsIn K C).isSome=true) (ha:findIn K (.ref C) "__class__"=some (some (.builtin "object.__class__"))) (hn:specialIn K (.builtin "object.__class__") "__get__"=some (some (.builtin "getset_descriptor.__get__"))) (htk:takesIn K (.builtin "object.__class__")=some true) :
  findObj K C od "__class__"=some (.bind (.builtin "getset_descriptor.__get__") (.builtin "object.__class__")):=by
 obtain ⟨cd,hc⟩:=Option.isSome_iff_exists.mp hc
 unfold findObj
 rw [hc,Option.bind_some,ha,Option.bind_some]
 simp [hn,htk]
end
end PySem.W
namespace T2
open PySem PySem.Spec PyProof.Rows L2
structure XC (K:Fg) (C:Addr):Prop where
 kp:PySem.W.keepIn K (.ref C)=true
 get:PySem.W.XGet K C
 cl:(PySem.W.clsIn K C).isSome=true
 ca:PySem.W.findIn K (.ref C) "__class__"=some (some (.builtin "object.__class__"))
 cn:PySem.W.specialIn K (.builtin "object.__class__") "__get__"=some (some (.builtin "getset_descriptor.__get__"))
 ct:PySem.W.takesIn K (.builtin "object.__class__")=some true
 ob:PySem.W.mroIn K C (.type "object")=some true
theorem XC.of {K:Fg}{C:Addr}(h:b5 K C=true):XC K C:=by
 simp only [b5,Bool.and_eq_true,beq_iff_eq] at h
 obtain ⟨⟨⟨⟨⟨⟨⟨⟨a,b⟩,c⟩,d⟩,e⟩,f⟩,g⟩,i⟩,j⟩:=h
 exact ⟨a,⟨b,c,d⟩,e,f,g,i,j⟩
section
variable {K:Fg}{X:Cx}{x:Str}{p:Pos}
theorem rq {x D:Addr}{ox:Obj}{od:Option Obj}(c:XC K D):PySem.W.KitX K (.ref x) (.ref D) (λh=>PySem.W.InstAt h x ox D od) where
 ty:=λ_ _ _ I=>I.type
 it:=λ_ _ X _=>by
  obtain ⟨cdD,Sy⟩:=Option.isSome_iff_exists.mp c.cl
  unfold PySem.W.clsIn at Sy
  split at Sy
  ·rename_i c' d' cd' sl' ho
   intro A' Q' E' s' k q
   unfold isType loadHead
   exact wpAny_bind (wpAny_loadPart (k _ _ (X _ _ ho)) (wpAny_pure q))
  ·cases Sy
 ne:=λh tp dd its n sl X htp=>by
  obtain ⟨cdD,Sy⟩:=Option.isSome_iff_exists.mp c.cl
  refine Bool.eq_false_iff.mpr λq=>?_
  have e:D=tp:=Value.ref.inj (beq_iff_eq.mp q)
  subst e
  unfold PySem.W.clsIn at Sy
  split at Sy
  ·rename_i c' d' cd' sl' ho
   have z:=(X _ _ ho).symm.trans htp
   cases z
  ·cases Sy
 ca:=λX I k=>PySem.W.xget_class c.get X I (PySem.W.findObj_class c.cl c.ca c.cn c.ct) c.ob k
def wY:T->Option Value
 |.ty n=>some (.type n)
 |.ref C=>some (.ref C)
 |_=>none
def wZ (K:Fg) (G:Addr->Prop):GC:=λts S Q=>∃ a C y c b,ts=[.ref a,y]/\S a=some (.exk C)/\G C/\wY y=some c/\PySem.W.kitOne K (.ref C) c=some b/\Q (.bl b) S
theorem vo {G:Addr->Prop}(hK:X.K=K) (hG:∀ C,G C->XC K C):a8 X (.builtin "isinstance") (lC K (wZ K G)):=by
 subst hK
 rintro pins s U H xs us Q I r ⟨S,ts,Qt,sr,rs,hg,bh⟩
 obtain ⟨a,C,y,cv,b,rfl,ea,g,ey,ek,q⟩:=hg
 cases rs with
 |cons r1 l =>
  cases l with
  |cons r2 l2 =>
   cases l2
   cases r1
   obtain ⟨u1,u2,rfl,rr1,rr2⟩:=gQ r
   obtain rfl:u1=Value.ref a:=rr1
   have eu:u2=cv:=by
    cases r2<;>first|cases ey|skip
    ·exact rr2
    ·exact rr2
   subst eu
   have fin:∀ tk,EP X pins U Q (.bool b) { s with toks:=tk }:=λtk=>⟨.bl b,H,I.tok tk,rfl,bh _ H _ S .refl sr .bl q⟩
   cases sr a _ ea with
   |exk eh =>
    obtain ⟨oe,g0,hc,hd,vs,dv,_⟩:=(show aP X.prog X.w H s.heap a (exH C a) from I.hok a _ eh).1
    exact PySem.W.kia_one (rq (od:=none) (ox:=oe) (hG C g)) I.kIn ⟨g0,hc,by unfold PySem.W.notCls;rw [dv],by rw [hd];trivial⟩ ek (λz=>nomatch z) fin
theorem vp {G:Addr->Prop}{S:Sto}{Q:T->Sto->Prop}{a C:Addr}{y:T}{c:Value}{b:Bool}(h1:S a=some (.exk C)) (h2:G C) (h3:wY y=some c) (h4:PySem.W.kitOne K (.ref C) c=some b) (h:Q (.bl b) S):wZ K G [.ref a,y] S Q:=⟨a,C,y,c,b,rfl,h1,h2,h3,h4,h⟩
theorem Gk {C:Addr}(hg:Gl X x) (hm:X.mg x=some (.ref C)) (MV:(x==("__debug__":Str))=false:=by decide):PE X (.Name x p) (λ_ H Q=>Q (.ref C) H):=by
 intro pins s U H Q I h
 exact c6 I hg hm ⟨.ref C,H,I,rfl,h⟩ MV
def w4 (C:Addr):WE:=λ_ S Q=>Q (.ref C) S
theorem dM {C:Addr}(hg:Gl X x) (hm:X.mg x=some (.ref C)) (MV:(x==("__debug__":Str))=false:=by decide):QE K X (.Name x p) (w4 C) :=
 PE.of (Gk hg hm MV) λU H Q zz123=>by obtain ⟨S,LQ,Qt,s,c,q,hq⟩:=zz123;exact hq _ H _ S .refl s .ref q
theorem JU {C:Addr}{U:StT}{S:Sto}{Q:T->Sto->Prop}(h:Q (.ref C) S):w4 C U S Q:=h
end
end T2
namespace L2
open PySem PySem.Spec PyProof.Rows
section
variable {X:Cx}{pos p2 p3 p4:Pos}{value TM:Expr}{tv tv2:TE}{s2:Str}{k3:Nat}
variable {OH Mg LV:Expr}{Og:List Expr}{scope:Scope}{r:TR}
end
end L2
namespace T2
open PySem PySem.Spec PyProof.Rows L2
section
variable {K:Fg}{X:Cx}{pos p2 p3 p4:Pos}{value TM:Expr}{wv wv2:WE}{s2:Str}{k3:Nat}{r:WR}
variable {OH Mg LV:Expr}{Og:List Expr}{scope:Scope}
end
end T2
namespace T2
open PySem L2
end T2
namespace L2
open PySem PySem.Spec PyProof.Rows
section
variable {X:Cx}
end
end L2
namespace T2
open PySem PySem.Spec PyProof.Rows L2
section
variable {K:Fg}{X:Cx}
end
end T2
namespace L2
open PySem PySem.Spec PyProof.Rows
end L2
namespace T2
open PySem PySem.Spec PyProof.Rows L2
section
variable {K:Fg}{X:Cx}
end
section
variable {K:Fg}{X:Cx}
theorem sy {H:Hp}{S:Sto}:∀ {ys:List Addr}{vs:List V},Rps K H S (ys.map T.ref) vs->vs=ys.map V.ref
 |[],_,.nil=>rfl
 |_::_,_,.cons .ref r=>by rw [sy r];rfl
theorem qK:∀ {ys:List Addr}{us:List Value},am (ys.map V.ref) us->us=ys.map Value.ref
 |[],_,.nil=>rfl
 |y::_,_,.cons h r=>by rw [qK r,show _=Value.ref y from h];rfl
def vq (K:Fg) (G:Addr->Prop):GC:=λts S Q=>∃ (a C:Addr) (ys:List Addr) (b:Bool),ts=[.ref a,.tup (ys.map T.ref)]/\S a=some (.exk C)/\G C/\PySem.W.kitAny K (.ref C) (ys.map Value.ref)=some b/\Q (.bl b) S
theorem Gm {G:Addr->Prop}(hK:X.K=K) (hG:∀ C,G C->XC K C):a8 X (.builtin "isinstance") (lC K (vq K G)):=by
 subst hK
 rintro pins s U H xs us Q I r ⟨S,ts,Qt,sr,rs,hg,bh⟩
 obtain ⟨a,C,ys,b,rfl,ea,g,ek,q⟩:=hg
 cases rs with
 |cons r1 l =>
  cases l with
  |cons r2 l2 =>
   cases l2
   cases r1
   cases r2 with
   |tup hn hp rr =>
    obtain ⟨u1,u2,rfl,rr1,rr2⟩:=gQ r
    obtain rfl:u1=Value.ref a:=rr1
    cases rr2
    obtain ⟨its,rv,ht,hz⟩:=I.tuple (SqT.of hp)
    rw [sy rr] at rv
    obtain rfl:=qK rv
    obtain ⟨⟨oc,dd,od,sl⟩,htp,hc,n,hd⟩:=ht
    simp only at hc hd
    subst hc hd
    have fin:∀ tk,EP X pins U Q (.bool b) { s with toks:=tk }:=λtk=>⟨.bl b,H,I.tok tk,rfl,bh _ H _ S .refl sr .bl q⟩
    cases sr a _ ea with
    |exk eh =>
     obtain ⟨oe,g0,hc,hd,vs,dv,_⟩:=(show aP X.prog X.w H s.heap a (exH C a) from I.hok a _ eh).1
     exact PySem.W.kia_tup (rq (od:=none) (ox:=oe) (hG C g)) I.kIn ⟨g0,hc,by unfold PySem.W.notCls;rw [dv],by rw [hd];trivial⟩ htp ek (λz=>nomatch z) fin
theorem Gn {G:Addr->Prop}{S:Sto}{Q:T->Sto->Prop}{a C:Addr}{ys:List Addr}{b:Bool}(h1:S a=some (.exk C)) (h2:G C) (h4:PySem.W.kitAny K (.ref C) (ys.map Value.ref)=some b) (h:Q (.bl b) S):vq K G [.ref a,.tup (ys.map T.ref)] S Q:=⟨a,C,ys,b,rfl,h1,h2,h4,h⟩
end
end T2
namespace L2
open PySem PySem.Spec PyProof.Rows
theorem Go {X:Cx}{tg e:Expr}{r:TR}{pos:Pos}(h:PRE X e r) (hs:swapsWithSole [tg] e pos.line X.env=pure false:=by rfl) (hw:swappedStores [tg] e X.env=pure none:=by rfl):PR X (.Assign [tg] e pos) r :=
 λpins s U H R I q=>wpAny_Assign_stores (wpAny_mono (h pins s U H R I q) (λ_ _ z=>z.elim) λ_ _ z=>z) hs hw
end L2
namespace T2
open PySem PySem.Spec PyProof.Rows L2
theorem Gp {K:Fg}{X:Cx}{tg e:Expr}{r:WR}{pos:Pos}(h:QRE K X e r) (hs:swapsWithSole [tg] e pos.line X.env=pure false:=by rfl) (hw:swappedStores [tg] e X.env=pure none:=by rfl):QR K X (.Assign [tg] e pos) r:=Go h hs hw
section
variable {K:Fg}{X:Cx}{k:Nat}{f C:Addr}{fd:FuncData}{ps:List Str}{L5:WSp}{wsr:aU}{x m fl:Str}{p pos apos cpos MT:Pos}{e o value:Expr}{es:List Expr}{wa wv:WE}{wr:WA}{G:Addr->Prop}{i:Int}{tk:Tok}
theorem sA {pl:Sem Bool}(hG:∀ C,G C->Cls X.K C/\Meth X.K C m f) (F:FnOk X.prog X.w X.K X.mg X.base CX0 k f fd ps (lSp K L5)) (hb:ao X.K fd ps [.int i tk]) (hr:Room k X.A) (ho:QE K X o wa) (ha:QA K X (e::es) wr)
  (PC:starEach (e::es) X.env=(false,eval e X.env)::starEach es X.env:=by rfl) (MS:(backTo pos (starEach es X.env)).any (·.1)=false:=by rfl)
  (ht:eval (.Call (.Attribute o m apos) (e::es) [] pos) X.env=(do
   let ov <- eval o X.env
   standAt apos.atName
   let (f,first) <- holding [ov] (getMethod ov m pl)
   callWith pos f first (backTo pos (starEach (e::es) X.env)) (backToKw pos (keywordEach [] X.env))):=by rfl) :
  QE K X (.Call (.Attribute o m apos) (e::es) [] pos) (dJ G m L5 [.int i] wa wr):=tL (dvs:=[.int i]) (λ_ _=>.cons .int .nil) (qS (pl:=pl) ho hG F hr hb (.cons ⟨tk,rfl⟩ .nil) fL ha PC MS ht)
def sB (G:Addr->Prop) (m:Str) (i:Int) (L5:aU) (wa:WE) (wr:WA):WR:=λU S R=>wa U S λx S1=>∃ a C fs,x=.ref a/\S1 a=some (.ins C fs)/\G C/\fs.lookup m=none/\wr U S1 λts S2=>L5 (x::(ts++[.int i])) S2 λC S'=>R C U S'
theorem Bi {pl:Sem Bool}(hG:∀ C,G C->Cls X.K C/\Meth X.K C m f) (F:FnOk X.prog X.w X.K X.mg X.base (CX1 X.prog X.w) k f fd ps (aH K wsr)) (hb:ao X.K fd ps [.int i tk]) (hr:Room k X.A) (ho:QE K X.nox o wa) (ha:QA K X.nox (e::es) wr)
  (PC:starEach (e::es) X.env=(false,eval e X.env)::starEach es X.env:=by rfl) (MS:(backTo pos (starEach es X.env)).any (·.1)=false:=by rfl)
  (ht:eval (.Call (.Attribute o m apos) (e::es) [] pos) X.env=(do
   let ov <- eval o X.env
   standAt apos.atName
   let (f,first) <- holding [ov] (getMethod ov m pl)
   callWith pos f first (backTo pos (starEach (e::es) X.env)) (backToKw pos (keywordEach [] X.env))):=by rfl) :
  QRE K X (.Call (.Attribute o m apos) (e::es) [] pos) (sB G m i wsr wa wr):=PRE.of (rp (pl:=pl) (dvs:=[.int i]) ho hG F hr hb (.cons ⟨tk,rfl⟩ .nil) ha PC MS ht) λU H R h=>by
 obtain ⟨S,LQ,Rt,s,c,q,hq⟩:=h
 refine ⟨S,LQ,_,s,c,q,λx H1 tx S1 f1 s1 r1 q1=>?_⟩
 obtain ⟨a,C,fs,rfl,ea,g,l,q1⟩:=q1
 cases r1
 cases s1 a _ ea with
 |ins eh pr =>
  refine ⟨a,C,_,_,rfl,eh,g,cP pr l,S1,LQ,_,s1,c.fr f1,q1,λvs H2 ts S2 f2 s2 r2 q2=>?_⟩
  exact ⟨S2,_,_,s2,.cons .ref (r2.append (.cons .int .nil)),q2,λC H' S' f s' q'=>⟨C,rfl,hq C U H' LQ S' ((f1.trans f2).trans f) s' (c.fr ((f1.trans f2).trans f)) q'⟩⟩
theorem Do {U:StT}{S:Sto}{R:WX}(h:wa U S λx S1=>∃ a C fs,x=.ref a/\S1 a=some (.ins C fs)/\G C/\fs.lookup m=none/\wr U S1 λts S2=>wsr (x::(ts++[.int i])) S2 λC S'=>R C U S'):sB G m i wsr wa wr U S R:=h
end
section
variable {K:Fg}{X:Cx}{pos p2 p3:Pos}{value:Expr}{tv:TE}{wv:WE}{s2:Str}{k3:Nat}
def tF2 (tv:TE):TE:=λU H Q=>tv U H λx H1=>∃ i:Int,x=.int i/\i.natAbs.log2<1920/\∀ y,Q (.str y) H1
theorem JV (hv:PE X value tv) (h2:s2.length<=1000):PE X (.JoinedStr [.FormattedValue value (-1) none p2,.Constant (.str s2) k3 p3] pos) (tF2 tv):=by
 intro pins s U H Q I h
 refine JoinedStr_many (joinParts_cons (FormattedValue_plain (thn (hv pins s U H _ I h) λu2 sb zz124=>?_)))
 obtain ⟨x,H2,I2,rx,i,ex,hi,q⟩:=zz124
 subst ex
 obtain ⟨t2,rfl⟩:=(show ∃ t,u2=Value.int i t from rx)
 have li:(Str.ofString (toString i)).length<=1921:=by rw [PySem.ofString_length];exact int_text_length_le (by decide) hi
 have l0:(Str.empty++Str.ofString (toString i)).length<=1921:=by rw [PySem.Str.length_append];exact (by simpa [Str.empty,PySem.Str.length] using li)
 refine formatField_int_small hi ⟨by rw [sizeLine_eq];omega,?_⟩
 refine joinParts_cons (thn (jh pins _ U H2 (λv H1=>v=.str s2/\H1=H2) (I2.tok _) ⟨rfl,rfl⟩) λu3 sc zz125=>?_)
 obtain ⟨v,H3,I3,ru3,ev,eH⟩:=zz125
 subst ev eH
 obtain ⟨t3,rfl⟩:=(show ∃ t,u3=Value.str s2 t from ru3)
 have lz:(Str.empty++Str.ofString (toString i)++s2).length<=sizeLine:=by rw [PySem.Str.length_append,sizeLine_eq];omega
 exact ⟨lz,joinParts_nil (show EP X pins U Q _ _ from ⟨.str (Str.empty++Str.ofString (toString i)++s2),_,I3.tok _,⟨_,rfl⟩,q _⟩) lz⟩
def wF2 (wv:WE):WE:=λU S Q=>wv U S λx S1=>∃ i:Int,x=.int i/\i.natAbs.log2<1920/\∀ y,Q (.str y) S1
theorem LA (hv:QE K X value wv) (h2:s2.length<=1000:=by decide):QE K X (.JoinedStr [.FormattedValue value (-1) none p2,.Constant (.str s2) k3 p3] pos) (wF2 wv) :=
 PE.of (JV hv h2) λU H Q zz126=>by
  obtain ⟨S,LQ,Qt,s,c,q,hq⟩:=zz126
  refine ⟨S,LQ,_,s,c,q,λx H1 tx S1 f1 s1 r1 q1=>?_⟩
  obtain ⟨i,rfl,hi,q1⟩:=q1
  cases r1
  exact ⟨i,rfl,hi,λy=>hq _ H1 _ S1 f1 s1 .str (q1 y)⟩
theorem LB {U:StT}{S:Sto}{Q:T->Sto->Prop}(h:wv U S λx S1=>∃ i:Int,x=.int i/\i.natAbs.log2<1920/\∀ y,Q (.str y) S1):wF2 wv U S Q:=h
end
noncomputable def g6:List T->Option (List Key)
 |[]=>some []
 |t::ts=>match cr t,g6 ts with
  |some k,some ks=>some (k::ks)
  |_,_=>none
def g7:T->Option (List Key)
 |.tup ts=>g6 ts
 |_=>none
section
variable {K:Fg}{X:Cx}{H:Hp}{S:Sto}
theorem sC:∀ {ts:List T}{vs:List V}{ks:List Key},Rps K H S ts vs->g6 ts=some ks->vs=ks.map kV
 |_,_,_,.nil,e=>by cases e;rfl
 |t::ts,v::vs,ks,.cons r rs,e=>by
  unfold g6 at e
  cases e1:cr t with
  |none=>rw [e1] at e;cases e
  |some k =>
   cases e2:g6 ts with
   |none=>rw [e1,e2] at e;cases e
   |some ks' =>
    rw [e1,e2] at e
    cases e
    rw [List.map_cons,fP r e1,sC rs e2]
theorem t8 {t:T}{v:V}{ks:List Key}(r:Rp K H S t v) (e:g7 t=some ks):∃ p,v=.ref p/\H p=some (.tup (ks.map kV)):=by
 cases r with
 |tup n h rs=>exact ⟨_,rfl,by rw [h,sC rs e]⟩
 |_=>cases e
theorem vt {a:Addr}{kts:List (List Key×T)}(s:SRp K H S) (e:S a=some (.dT kts)):∃ kvs,H a=some (.dT kvs)/\PrT K H S kts kvs:=by
 cases s a _ e with
 |dT h p=>exact ⟨_,h,p⟩
def vv:GM:=λx ts S Q=>∃ a kts y z ks,x=.ref a/\ts=[y,z]/\S a=some (.dT kts)/\g7 y=some ks/\Q ((aQ kts ks).getD z) S
theorem Bj {κ:Type}[DecidableEq κ] {kts:List (κ×T)}{kvs:List (κ×V)}{k:κ}{z:T}{v:V}(p:PrT K H S kts kvs) (r:Rp K H S z v):Rp K H S ((aQ kts k).getD z) ((aZ kvs k).getD v):=by
 cases e:aQ kts k with
 |none =>
  have:=me (k:=k) p
  rw [e] at this
  cases e2:aZ kvs k with
  |none=>exact r
  |some _=>rw [e2] at this;cases this
 |some t =>
  obtain ⟨u,h1,h2⟩:=md p e
  rw [h1];exact h2
theorem t9 (hu:X.A.units+1<cLine):MtR X "dict.get" (lM K vv):=by
 rintro pins s U H x xs v us Q I rx rv ⟨S,t,ts,Qt,sr,hx,rs,⟨a,kts,y,z,ks,e,e2,ea,ek,q⟩,b⟩
 subst e e2
 cases hx
 cases rs with
 |cons ry rn =>
  cases rn with
  |cons rz rn2 =>
   cases rn2
   obtain ⟨kvs,hk,p⟩:=vt sr ea
   obtain ⟨pb,rfl,hb⟩:=t8 ry ek
   obtain ⟨u1,u2,rfl,rr1,rr2⟩:=gQ rv
   cases (show v=Value.ref a from rx)
   exact E9 hu I (jU.t hk hb) rr1 rr2 λw' s' I' QB=>⟨_,H,I',QB,b _ H _ S .refl sr (Bj p rz) q⟩
def vw:GS:=λo i v S Q=>∃ a kts ks,o=.ref a/\S a=some (.dT kts)/\g7 i=some ks/\kts.length<sizeLine/\Q (put S a (.dT (cX kts ks v)))
theorem Gq (hu:X.A.units+1<cLine):c3 X (eK K vw):=by
 rintro pins s U H o i v ov iv u Q I ro ri rv ⟨S,to,ti,tv,Qt,sr,hO,hI,hV,⟨a,kts,ks,e,ea,ek,hl,q⟩,b⟩
 subst e
 cases hO
 cases (show ov=Value.ref a from ro)
 obtain ⟨kvs,hk,p⟩:=vt sr ea
 obtain ⟨pb,rfl,hb⟩:=t8 hI ek
 have hn:S a≠none:=by rw [ea];simp
 refine qB hu I (eE.t hk hb (by rw [Paired.len p];exact hl)) ri rv λs' I'=>⟨_,I',?_⟩
 exact b _ _ (Fr.write hn) (sr.write hn (.dT aM (Paired.mapP (tY hV p) λ_ _ z=>⟨z.1,z.2.fr (Fr.write hn)⟩))) q
def ua:WE:=λ_ S Q=>∀ p,S p=none->Q (.ref p) (put S p (.dT []))
theorem Dp {pos:Pos}:QE K X (.Dict [] [] pos) ua:=PE.of AE λU H Q ⟨S,LQ,Qt,s,c,q,hq⟩=>λp hp =>
 hq _ _ (.ref p) _ (Fr.newT hp) (s.newT hp (.dT aM .nil)) .ref (q p (s.fresh hp))
end
section
variable {K:Fg}{X:Cx}{U:StT}{S:Sto}{D:EndsT}{Q:T->Sto->Prop}{R:Prop}{w:World}{a d:Addr}{t x y z:T}{kts:List (List Key×T)}{ks:List Key}{wa:WE}{o:Expr}{pos apos cpos:Pos}
theorem Dq (h:∀ p,S p=none->Q (.ref p) (put S p (.dT []))):ua U S Q:=h
theorem ub (e:S a=some (.dT kts)) (ek:g7 y=some ks) (h:Q ((aQ kts ks).getD z) S):vv (.ref a) [y,z] S Q:=⟨a,kts,y,z,ks,rfl,rfl,e,ek,h⟩
theorem Gs {Q:Sto->Prop}(e:S a=some (.dT kts)) (ek:g7 y=some ks) (l:kts.length<sizeLine) (h:Q (put S a (.dT (cX kts ks t)))):vw (.ref a) y t S Q:=⟨a,kts,ks,rfl,e,ek,l,h⟩
theorem Gu (e:S a=some (.dT kts)) (h:R):tyM "dict" S (.ref a)/\R:=⟨by simp only [tyM,e],h⟩
end
end T2
namespace PySem
open PySem.W
def LO (h:Heap) (d:Addr) (es:Array DictEntry) (ep:Nat):Prop:=∃ o,h.get? d=some o/\o.ExactDict/\o.data=.dict es ep
section
variable {prog:Program}{w:World}{A:Around}{E:Value->Shared->Prop}{s:Shared}{d it:Addr}{es:Array DictEntry}{ep i:Nat}
end
end PySem
namespace L2
open PySem PySem.Spec PyProof.Rows
abbrev LP (H:Hp):List Addr->List (List Key×V)->Prop:=Paired λ(b:Addr) (p:List Key×V)=>H b=some (.tup (p.1.map kV))
section
variable {X:Cx}{pins:List (Addr×Obj)}{U:St}{H:Hp}{s:Shared}{a:Addr}{kvs:List (List Key×V)}
end
end L2
namespace T2
open PySem PySem.Spec PyProof.Rows L2
section
variable {K:Fg}{X:Cx}{H:Hp}{S:Sto}
end
section
variable {K:Fg}{X:Cx}{o i a b c e:Expr}{es:List Expr}{wa wb wc wi:WE}{wr:WA}{we:WE}{pos p apos cpos:Pos}{x:Str}{k:Nat}{f:Addr}{fd:FuncData}{ps:List Str}{L5:WSp}
abbrev FnO (P:Program) (w:World) (K:Fg) (mg:Str->Option Value) (base:Heap) (n:Nat) (f:Addr) (fd:FuncData) (ps:List Str) (sp:WSp):Prop:=FnOk P w K mg base CX0 n f fd ps (lSp K sp)
theorem ax {L5:WSp}{N:List Str}{u:WS}(h:∀ v:WS,v=u->∀ ts S Q,L5 ts S Q->v { nx:=λ_ S'=>Fin Q .non S',rt:=Fin Q } (bV N ts) S):∀ ts S Q,L5 ts S Q->u { nx:=λ_ S'=>Fin Q .non S',rt:=Fin Q } (bV N ts) S:=h u rfl
theorem bo {L5:aU}{N:List Str}{u:WR}(h:∀ v:WR,v=u->∀ ts S R,L5 ts S R->v (bV N ts) S (iq R)):∀ ts S R,L5 ts S R->u (bV N ts) S (iq R):=h u rfl
theorem aC (ha:QE K X a wa) (hc:QE K X c wc) (hK:X.K=K:=by rfl) (hs:mE c:=by exact λ_ _=>rfl):QE K X (.Subscript a c pos) (w2 gIx wa wc):=K5 hK ha hc hs
theorem LC (w:World) (ho:QE K X o wa) (hi:QE K X i wi) (hw:X.w=w:=by rfl) (hs:hZ i:=by exact λ_ _=>rfl):QE K X (.Subscript o i pos) (w2 (j6 w) wa wi):=JB w hw ho hi hs
theorem aG {j:Nat}(hr:Room j X.A) (ha:QE K X a wa) (hb:QE K X b wb) (hK:X.K=K:=by rfl):QT K X (.Compare a [.Eq] [b] pos) (wB (w2 (gEq false) wa wb)):=aS (eI hK hr.units) ha hb (mT _)
theorem ap {G:Addr->Prop}{fl:Str}(hG:∀ C,G C->Cls K C/\aJ K C fl) (he:QE K X o wa) (hK:X.K=K:=by rfl) (hb:attributeBase o fl X.env (eval o X.env)=eval o X.env:=by rfl):QE K X (.Attribute o fl pos) (jW G wa fl):=JA hK hG he hb
theorem aV {id:String}{g:GC}(hc:a8 X (.builtin id) (lC K g)) (hm:X.mg x=none) (hv:bootBuiltins x=some (.builtin id)) (ha:QA K X (e::es) wr) (hg:Gl X x:=by rfl) (hn:x ≠ "__name__":=by decide) (MV:(x==("__debug__":Str))=false:=by decide)
  (he:starEach (e::es) X.env=(false,eval e X.env)::starEach es X.env:=by rfl) (MS:(backTo pos (starEach es X.env)).any (·.1)=false:=by rfl):QE K X (.Call (.Name x p) (e::es) [] pos) (wCB g wr):=Lr hc hg hm hv ha hn MV he MS
theorem aA (F:FnOk X.prog X.w X.K X.mg X.base CX0 k f fd ps (lSp K L5)) (D:Df X.K X.mg x f fd ps) (hr:Room k X.A) (ha:QA K X (e::es) wr) (hg:Gl X x:=by rfl)
  (MV:(x==("__debug__":Str))=false:=by decide) (he:starEach (e::es) X.env=(false,eval e X.env)::starEach es X.env:=by rfl) (MS:(backTo pos (starEach es X.env)).any (·.1)=false:=by rfl) :
  QE K X (.Call (.Name x p) (e::es) [] pos) (gX L5 [] wr):=FS F D hr hg ha MV he MS
theorem aD (i:Nat) {MT:Pos}(hN:X.N.Nodup) (he:QE K X e we) (hi:X.N[i]?=some x:=by rfl) (hx:Loc X.env.scope x:=by first|exact Or.inl rfl|exact Or.inr rfl) (hs:swapsWith e (some (.Name x MT)) pos.line X.env=pure false:=by rfl)
  (hf:X.fn x=true\/X.env.scope.names.lookup x=some .local:=by first|exact .inl rfl|exact .inr rfl|assumption):QS K X (.Assign [.Name x MT] e pos) (eG we (wgN i)):=Iz hN hi hx he hs hf
theorem bp (i:Nat) (hN:X.N.Nodup) (hi:X.N[i]?=some x:=by rfl) (hx:Loc X.env.scope x:=by first|exact Or.inl rfl|exact Or.inr rfl) (hf:X.fn x=true\/X.env.scope.names.lookup x=some .local:=by first|exact .inl rfl|exact .inr rfl|assumption):QG K X (.Name x pos) (wgN i):=C3 hN hi hx hf
theorem dg {tg:Expr}{g:WG}(he:QE K X e we) (hg:QG K X tg g) (h:∀ {t g},PE X e t->PG X tg g->PS X (.Assign [tg] e pos) (fS t g):=by exact λh g=>L2.EC h g):QS K X (.Assign [tg] e pos) (eG we g):=Iy h he hg
theorem dB {g:GS}(ho:QE K X o wa) (hi:QE K X i wi) (hs:c3 X (eK K g)) (h:∀ {to ti t},PE X o to->PE X i ti->c3 X t->PG X (.Subscript o i pos) (L2.eD to ti t):=by exact λh1 h2 h3=>L2.EB h1 h2 h3):QG K X (.Subscript o i pos) (wgS wa wi g):=FT ho hi hs h
theorem bF {ty id:String}{m:Str}{gm:GM}(pa:PlainAttrs ty) (slot:Slot ty m id) (Rr:typeOf (.builtin id)=pure (.type "method_descriptor")) (hm:MtR X id (lM K gm)) (ho:QE K X o wa) (ha:QA K X (e::es) wr) (hK:X.K=K:=by rfl)
  (NM:attributeBase o m X.env (eval o X.env)=eval o X.env:=by rfl)
  (Tt:((backTo cpos (starEach (e::es) X.env)).all (λx=>!x.1)&&(backToKw cpos (keywordEach [] X.env)).all (λx=>x.1.isSome)
   && decide ((e::es).length+([]:List Keyword).length+(if ([]:List Keyword).isEmpty then 0 else 1)<30))=true:=by rfl)
  (N5:(apos.endLine==cpos.line)=true:=by rfl) (hs:starEach (e::es) X.env=(false,eval e X.env)::starEach es X.env:=by rfl) (NY:(backTo cpos (starEach es X.env)).any (·.1)=false:=by rfl) :
  QE K X (.Call (.Attribute o m apos) (e::es) [] cpos) (wBM ty gm wa wr):=Ls hK pa slot Rr hm ho ha λh1 h2 h3=>Ij pa slot Rr h2 h1 h3 NM Tt N5 hs NY
end
end T2
namespace L2
open PySem PySem.Spec PyProof.Rows
def ItE (K:PySem.W.Frag) (l:Addr):It :=
 ⟨λi H=>∃ xs x,SqL K H l xs/\xs[i]?=some x,λi H x H'=>∃ p y,H p=none/\x=.ref p/\H'=upd H p (.tup [.int i,y])/\∀ xs,SqL K H l xs->xs[i]?=some y,λi H=>∃ xs,SqL K H l xs/\xs.length<=i⟩
theorem Inv.turned2 {X:Cx}{pins:List (Addr×Obj)}{U:St}{H:Hp}{s:Shared}{h':Heap}{t':Nat}{e it:Addr}{oi oi':Obj}(I:Inv X pins U H s) (PL:e≠it) (hi:s.heap.get? it=some oi) (hi':h'.get? it=some oi') (k:∀ b o,b≠e->b≠it->s.heap.get? b=some o->h'.get? b=some o)
  (f:bO X pins H e) (g:bO X pins H it):Inv X pins U H { s with heap:=h',toks:=t' }:=by
 obtain ⟨f0,f1,f2,f3,f4,f5⟩:=f
 obtain ⟨g0,g1,g2,g3,g4,g5⟩:=g
 have hfr:oi.isFreed=false:=(Heap.get?_some_iff.mp hi).2
 have I1:Inv X pins U H { s with heap:=h'.update it (λ_=>oi),toks:=t' }:=I.turned (λb o hb z=>by
  by_cases hbi:b=it
  ·subst hbi
   rw [hi] at z;cases z
   exact Heap.get?_update_self _ hi' hfr
  ·rw [Heap.get?_update_other _ _ (Ne.symm hbi)]
   exact k b o hb hbi z) f0 f1 f3 f4 f5
 exact I1.turned (s:={ s with heap:=h'.update it (λ_=>oi),toks:=t' }) (t':=t') (λb o hb z=>by
  rw [show ({ s with heap:=h'.update it (λ_=>oi),toks:=t' }:Shared).heap.get? b=h'.get? b from Heap.get?_update_other _ _ (Ne.symm hb)] at z
  exact z) g0 g1 g3 g4 g5
theorem zS {P:Program}{w:World}{K:PySem.W.Frag}{Oh:List Expr}{x1:Nat}{NA:Pos}(l e it:Addr) (PL:e≠it) :
  Turn P w K (.Tuple Oh x1 NA) (ItE K l) [e,it] e (λi h=>∃ old,IsEnum h e it ((i:Nat):Int) old/\h.IsListIter it l i) where
 mem:=by simp
 obj:=λi h st b hb=>by
  obtain ⟨old,h1,o,h2,_,h3⟩:=st
  rcases List.mem_cons.mp hb with rfl|hb
  ·exact ⟨_,h1,λv z=>by cases z⟩
  ·obtain rfl:b=it:=by simpa using hb
   exact ⟨o,h2,λv z=>by rw [h3] at z;cases z⟩
 keep:=λi h h' zz127 k=>by obtain ⟨old,h1,o,h2,r⟩:=zz127;exact ⟨old,k e (by simp) _ h1,o,k it (by simp) _ h2,r⟩
 item:=by
  rintro X hP hw hK hc i pins s U H E I hf ⟨old,st,sl⟩ hg
  subst hP hw hK
  obtain ⟨xs,x,hq,hx⟩:=hg
  obtain ⟨its,rv,p,hz⟩:=I.list hq
  obtain ⟨u,hu,ru⟩:=rv.get hx
  have fe:=hf e (by simp)
  have fi:=hf it (by simp)
  obtain ⟨oi,hoi,_⟩:=id sl
  refine wpAny_pyNext_enum_item st sl p.isList (x:=u) (by simpa using hu) PL λh1 st1 sl1 ht hsz kp=>?_
  refine ⟨_,rfl,wpAny_letOwnedTupleGo_enum st1 λh2 st2 Ti=>?_⟩
  have TN:e<s.heap.objs.size:=Heap.lt_size st
  have his:it<s.heap.objs.size:=Heap.lt_size hoi
  replace Ti:Heap.SameBut e h1 h2:=Ti
  have ht2:h2.get? s.heap.objs.size=some { cls:=.type "tuple",data:=.seq #[.int i s.toks,u] }:=(Ti.2 _ (Nat.ne_of_gt TN)).trans ht
  have sl2:h2.IsListIter it l (i+1):=by
   obtain ⟨o,ho,r⟩:=sl1
   exact ⟨o,(Ti.2 it (Ne.symm PL)).trans ho,r⟩
  obtain ⟨oi2,hoi2,_⟩:=id sl2
  have Im:Inv X pins U (upd H s.heap.objs.size (.tup [.int i,x])) { s with heap:=s.heap.push { cls:=.type "tuple",data:=.seq #[.int i s.toks,u] },toks:=s.toks } :=
   I.laid (t':=s.toks) (λb u e=>Heap.get?_push_of_some _ e) (Nat.le_refl _) ⟨by show 2<=sizeLine;decide,[.int i s.toks,u],.cons ⟨_,rfl⟩ (.cons ru .nil),⟨_,Heap.get?_push_size _ rfl,rfl,_,rfl⟩⟩
  have fk:∀ b,b<s.heap.objs.size->bO X pins H b->bO X pins (upd H s.heap.objs.size (.tup [.int i,x])) b:=λb hb f=>⟨by rw [aB (Nat.ne_of_lt hb)];exact f.1,f.2⟩
  have I2:Inv X pins U (upd H s.heap.objs.size (.tup [.int i,x])) { s with heap:=h2,toks:=s.toks+1 }:=by
   refine Inv.turned2 (s:={ s with heap:=s.heap.push { cls:=.type "tuple",data:=.seq #[.int i s.toks,u] },toks:=s.toks }) Im (t':=s.toks+1) (e:=e) (it:=it) (oi:=oi) (oi':=oi2) PL (Heap.get?_push_of_some _ hoi) hoi2 (λb o Sk hbi z=>?_) (fk e TN fe) (fk it his fi)
   by_cases hbs:b=s.heap.objs.size
   ·subst hbs
    rw [show ({ s with heap:=s.heap.push { cls:=.type "tuple",data:=.seq #[.int i s.toks,u] },toks:=s.toks }:Shared).heap.get? s.heap.objs.size=some { cls:=.type "tuple",data:=.seq #[.int i s.toks,u] } from Heap.get?_push_size _ rfl] at z
    cases z;exact ht2
   ·exact (Ti.2 b Sk).trans (kp b o Sk hbi (by rw [<- Heap.get?_push_ne _ _ _ hbs];exact z))
  refine ⟨.ref s.heap.objs.size,_,I2,rfl,⟨s.heap.objs.size,x,I.hok.fresh (Nat.le_refl _),rfl,rfl,λys hy=>by rw [I.list_inj hy hq];exact hx⟩,⟨_,st2,sl2⟩,λb hb=>?_⟩
  rcases List.mem_cons.mp hb with rfl|hb
  ·exact (fk _ TN fe).1
  ·obtain rfl:b=it:=by simpa using hb
   exact (fk _ his fi).1
 done:=by
  rintro X hP hw hK hc i pins s U H E I hf ⟨old,st,sl⟩ hg
  subst hP hw hK
  obtain ⟨xs,hq,hx⟩:=hg
  obtain ⟨its,rv,p,hz⟩:=I.list hq
  obtain ⟨f0,f1,f2,f3,f4,f5⟩:=hf it (by simp)
  have hl:=rv.length
  exact wpAny_pyNext_enum_end (I.ok.hd hc) st sl p.isList (by simp;omega) λh' eb=>⟨rfl,I.turned (t':=s.toks) (λb o hb z=>eb b o hb z) f0 f1 f3 f4 f5⟩
 self:=λA i s Q E zz128 h=>by obtain ⟨old,st,sl⟩:=zz128;exact wpAny_pyIter_enum st h
theorem xy:bootBuiltins (Str.ofString "enumerate")=some (.type "enumerate"):=by kernel_rfl
def JW (K:PySem.W.Frag) (ta:TA):TI:=λU H R=>ta U H λvs H1=>∃ l,vs=[.ref l]/\(∃ xs,SqL K H1 l xs)/\R (ItE K l) H1
theorem Ds {X:Cx}{Oh:List Expr}{x1:Nat}{NA:Pos}{a:Expr}{ta:TA}{p pos:Pos}(hg:Gl X "enumerate") (hm:X.mg "enumerate"=none) (ha:PA X [a] ta) (hs:starEach [a] X.env=[(false,eval a X.env)]:=by rfl) :
  PI X (.Tuple Oh x1 NA) (.Call (.Name "enumerate" p) [a] [] pos) (JW X.K ta):=by
 intro pins s U H R I h
 refine Call_ (fj I hg hm xy (PyProof.Rows.callWith_type1 (thn (ha pos pins s U H _ I h) λus s1 ⟨vs,H1,I1,r1,q1⟩=>?_) hs rfl))
 obtain ⟨l,e,⟨xs,hq⟩,q⟩:=q1
 subst e
 cases r1 with
 |cons r rr =>
  cases rr
  cases r
  obtain ⟨its,rv,pl,hz⟩:=I1.list hq
  refine call_enumerate_list pl.isList λh' he hi hsz kp=>?_
  refine wpAny_pyIter_enum (s:={ s1 with heap:=h' }) he ?_
  have I2:Inv X pins U H1 { s1 with heap:=h' }:=I1.kept (t':=s1.toks) kp
  refine ⟨s1.heap.objs.size+1,[s1.heap.objs.size+1,s1.heap.objs.size],_,_,H1,rfl,I2,zS l _ _ (Nat.succ_ne_self _),⟨_,he,hi⟩,λb hb=>?_,q⟩
  rcases List.mem_cons.mp hb with rfl|hb
  ·exact I1.fpOk (Nat.le_succ _) (I1.hok.fresh (Nat.le_succ _))
  ·obtain rfl:b=s1.heap.objs.size:=by simpa using hb
   exact I1.fpOk (Nat.le_refl _) (I1.hok.fresh (Nat.le_refl _))
end L2
namespace T2
open PySem L2
variable {K:Fg}{X:Cx}
def cH (ts:List T):List T:=ts.zipIdx.map λp=>.tup [.int (p.2:Int),p.1]
theorem zT (ts:List T):(cH ts).length=ts.length:=by simp [cH]
theorem Bk (ts:List T) (i:Nat):(cH ts)[i]?=ts[i]?.map λt=>.tup [.int i,t]:=by
 simp only [cH,List.getElem?_map,List.getElem?_zipIdx,Option.map_map,Nat.zero_add]
 rfl
theorem zU {H1:Hp}{S1:Sto}{x:T}{a:Addr}{ts:List T}(r:Rp K H1 S1 x (.ref a)) (e:aN S1 x=some ts):Iter K (ItE K a) ⟨cH ts,c8 x ts⟩ H1 S1:=by
 have I0:=qF r e
 have main:∀ H S,Fr H1 S1 H S->SRp K H S->c8 x ts S->∃ vs,SqL K H a vs/\Rps K H S ts vs:=λH S f s g=>by
  obtain ⟨p,vs,ep,hq,rs⟩:=bT s (r.fr f) (qE e g)
  cases ep
  exact ⟨vs,hq,rs⟩
 refine ⟨λH S i f s g hl=>?_,λH S i y H' f s g hl hy=>?_,λH S f s g=>?_⟩
 ·exact I0.go H S i f s g (by simpa [cH] using hl)
 ·obtain ⟨vs,hq,rs⟩:=main H S f s g
  obtain ⟨p,z,hp,rfl,rfl,hz⟩:=hy
  obtain ⟨t,et,rt⟩:=rs.getV (hz vs hq)
  refine ⟨.tup [.int i,t],by rw [Bk,et];rfl,Fr.new hp,s.new hp,?_⟩
  exact .tup (s.fresh hp) aM (.cons .int (.cons (rt.fr (Fr.new hp)) .nil))
 ·have:=I0.stop H S f s g
  show (ItE K a).stop (cH ts).length H
  rw [zT];exact this
def wiE (wa:WE):WI:=λU S R=>wa U S λx S1=>∃ ts,aN S1 x=some ts/\R ⟨cH ts,c8 x ts⟩ S1
theorem Du {Oh:List Expr}{x1:Nat}{NA:Pos}{a:Expr}{wa:WE}{p pos:Pos}(hK:X.K=K) (hg:Gl X "enumerate") (hm:X.mg "enumerate"=none) (ha:QE K X a wa) (hs:starEach [a] X.env=[(false,eval a X.env)]:=by rfl) (TB:starEach [a] X.env=(false,eval a X.env)::starEach [] X.env:=by rfl) :
  QI K X (.Tuple Oh x1 NA) (.Call (.Name "enumerate" p) [a] [] pos) (wiE wa):=by
 subst hK
 refine PI.of (Ds hg hm (mC ha mV TB) hs) λU H R zz129=>?_
 obtain ⟨S,LQ,Rt,s,c,q,hq⟩:=zz129
 refine ⟨S,LQ,_,s,c,q,λv H1 t S1 f1 s1 r1 q1=>?_⟩
 obtain ⟨ts,e,q1⟩:=q1
 obtain ⟨p,vs,rfl,hS,rs⟩:=bT s1 r1 e
 exact ⟨p,rfl,⟨vs,hS⟩,hq _ H1 _ S1 f1 s1 (zU r1 e) q1⟩
end T2
namespace L2
open PySem PySem.Spec PyProof.Rows
section
variable {X:Cx}
theorem zV:a8 X (.type "int") (λxs H Q=>∃ (x:Str) (n:Int),xs=[.str x]/\PySem.intText? x=some n/\x.length<=640/\Q (.int n) H):=by
 intro pins s U H xs us Q I r h
 obtain ⟨x,n,rfl,hn,hl,q⟩:=h
 obtain ⟨u,rfl,rx⟩:=bW r
 obtain ⟨t,rfl⟩:=(show ∃ t,u=Value.str x t from rx)
 exact PySem.W.KIN.call_text hn hl ⟨.int n,H,I.tok _,⟨_,rfl⟩,q⟩
def JX:V->List V->Hp->VK->Prop:=λx xs H Q=>∃ a b:Str,x=.str a/\xs=[.str b]/\b.length≠0/\a.length<=sizeLine/\∀ p,H p=none->Q (.ref p) (upd H p (.tup [.str (Txt.partition a b).1,.str (Txt.partition a b).2.1,.str (Txt.partition a b).2.2]))
theorem Dv:MtR X "str.partition" JX:=by
 intro pins s U H x vs v us Q I rx rv h
 obtain ⟨a,b,rfl,rfl,hb,hz,q⟩:=h
 obtain ⟨t,rfl⟩:=rx
 obtain ⟨u,rfl,t2,rfl⟩:=bW rv
 have hy:(b.length==0)=false:=by simpa using hb
 refine call_meets F.slot_str_partition (typeIs_str _ _ _) F.entry_str_partition (F.args_str_partition_2 _ _) (meets_str_partition a b t t2 hy hz) ?_
 have q1:=q s.heap.objs.size I.fresh
 unfold Txt.partition at q1
 cases e:Builtin.Str.occurrences a b 0 a.length 1 with
 |nil =>
  rw [e] at q1
  exact ⟨.ref _,_,I.laid (o:=.tup [.str a,.str Str.empty,.str Str.empty]) (h':=s.heap.push { cls:=.type "tuple",data:=.seq #[.str a t,.str Str.empty s.toks,.str Str.empty s.toks] }) (t':=s.toks+1) (λ_ _ e=>Heap.get?_push_of_some _ e) (Nat.le_refl _)
   ⟨by show 3<=sizeLine;decide,[.str a t,.str Str.empty s.toks,.str Str.empty s.toks],.cons ⟨_,rfl⟩ (.cons ⟨_,rfl⟩ (.cons ⟨_,rfl⟩ .nil)),⟨_,Heap.get?_push_size _ rfl,rfl,_,rfl⟩⟩,rfl,q1⟩
 |cons i l =>
  rw [e] at q1
  exact ⟨.ref _,_,I.laid (o:=.tup [.str (Builtin.Str.strSub a 0 i),.str b,.str (Builtin.Str.strSub a (i+b.length) a.length)]) (h':=s.heap.push { cls:=.type "tuple",data:=.seq #[.str (Builtin.Str.strSub a 0 i) s.toks,.str b t2,.str (Builtin.Str.strSub a (i+b.length) a.length) (s.toks+1)] }) (t':=s.toks+1+1) (λ_ _ e=>Heap.get?_push_of_some _ e) (Nat.le_refl _)
   ⟨by show 3<=sizeLine;decide,[.str (Builtin.Str.strSub a 0 i) s.toks,.str b t2,.str (Builtin.Str.strSub a (i+b.length) a.length) (s.toks+1)],.cons ⟨_,rfl⟩ (.cons ⟨_,rfl⟩ (.cons ⟨_,rfl⟩ .nil)),⟨_,Heap.get?_push_size _ rfl,rfl,_,rfl⟩⟩,rfl,q1⟩
end
end L2
namespace T2
open PySem PySem.Spec PyProof.Rows L2
section
variable {K:Fg}{X:Cx}
def ou:GC:=λts S Q=>∃ (x:Str) (n:Int),ts=[.str x]/\PySem.intText? x=some n/\x.length<=640/\Q (.int n) S
theorem uc:a8 X (.type "int") (lC K ou):=by
 rintro pins s U H xs us Q I r ⟨S,ts,Qt,sr,rs,⟨x,n,rfl,hn,hl,q⟩,b⟩
 cases rs with
 |cons a l =>
  cases l
  cases a
  exact zV pins s U H _ us Q I r ⟨_,n,rfl,hn,hl,b _ H _ S .refl sr .int q⟩
theorem ud {S:Sto}{Q:T->Sto->Prop}{x:Str}{n:Int}(hn:PySem.intText? x=some n) (hl:x.length<=640) (h:Q (.int n) S):ou [.str x] S Q:=⟨x,n,rfl,hn,hl,h⟩
def vx:GM:=λx ts S Q=>∃ a b:Str,x=.str a/\ts=[.str b]/\b.length≠0/\a.length<=1000/\Q (.tup [.str (Txt.partition a b).1,.str (Txt.partition a b).2.1,.str (Txt.partition a b).2.2]) S
theorem jp:MtR X "str.partition" (lM K vx):=by
 rintro pins s U H x vs v us Q I rx rv ⟨S,t,ts,Qt,sr,hx,rs,⟨a,c,rfl,rfl,h0,h1,q⟩,b⟩
 cases hx
 cases rs with
 |cons r l =>
  cases l
  cases r
  refine Dv pins s U H _ _ v us Q I rx rv ⟨a,c,rfl,rfl,h0,by rw [sizeLine_eq];omega,λp hp=>?_⟩
  exact b _ _ _ S (Fr.new hp) (sr.new hp) (.tup (sr.fresh hp) aM (.cons .str (.cons .str (.cons .str .nil)))) q
theorem jq {S:Sto}{Q:T->Sto->Prop}{a b:Str}(h0:b.length≠0) (h1:a.length<=1000) (h:Q (.tup [.str (Txt.partition a b).1,.str (Txt.partition a b).2.1,.str (Txt.partition a b).2.2]) S):vx (.str a) [.str b] S Q:=⟨a,b,rfl,rfl,h0,h1,h⟩
end
end T2
open PySem
namespace Sc
noncomputable def isL (c:Nat):Bool:=decide (97<=c)&&decide (c<=122)
def isP (p:List Nat):Bool:=decide (1<=p.length)&&decide (p.length<=12)&&p.all isL
noncomputable def bQ:List Nat->Nat->Nat->Option (Nat×Nat)
 |[],z,n=>some (z,n)
 |c::r,z,n=>if c=32 then (if z=0 then none else bQ r 0 (n+1)) else if isL c=true then (if z+1>12 then none else bQ r (z+1) n) else none
noncomputable def fin:Option (Nat×Nat)->Bool
 |none=>false
 |some (z,n)=>decide (0<z)&&decide (n<5)
theorem lP:∀ (p rest:List Nat) (z n:Nat),32∉p->z<=12->bQ (p++rest) z n=if (p.all isL&&decide (z+p.length<=12))=true then bQ rest (z+p.length) n else none
 |[],rest,z,n,_,hz=>by simp [hz]
 |c::p,rest,z,n,h,hz=>by
  have hc:c≠32:=λe=>h (by simp [e])
  have hp:32∉p:=λe=>h (by simp [e])
  have ih:=lP p rest (z+1) n hp
  show bQ (c::(p++rest)) z n=_
  rw [bQ,if_neg hc]
  cases hl:isL c with
  |false=>simp [hl]
  |true =>
   rw [if_pos rfl]
   by_cases Tk:z+1>12
   ·rw [if_pos Tk]
    have:¬ (z+(c::p).length<=12):=by simp;omega
    simp [this]
    omega
   ·rw [if_neg Tk,ih (by omega)]
    have e:z+1+p.length=z+(c::p).length:=by simp;omega
    rw [e]
    simp [hl]
noncomputable def ba (g:List Nat):List (List Nat)->List Nat
 |[]=>[]
 |[p]=>p
 |p::q::r=>p++g++ba g (q::r)
theorem rA:∀ (ps:List (List Nat)) (n:Nat),ps≠[]->(∀ p∈ps,32∉p)->fin (bQ (ba [32] ps) 0 n)=(decide (ps.length+n<=5)&&ps.all isP)
 |[],_,h,_=>absurd rfl h
 |[p],n,_,hf=>by
  have h:=lP p [] 0 n (hf p (by simp)) (by omega)
  rw [List.append_nil] at h
  show fin (bQ p 0 n)=_
  rw [h]
  simp only [Nat.zero_add,List.length_singleton,List.all_cons,List.all_nil,Bool.and_true]
  by_cases hc:(p.all isL&&decide (p.length<=12))=true
  ·rw [if_pos hc]
   simp only [Bool.and_eq_true,decide_eq_true_eq] at hc
   simp only [bQ,fin,isP,hc.1,hc.2,decide_true,Bool.and_true]
   rw [Bool.eq_iff_iff]
   simp only [Bool.and_eq_true,decide_eq_true_eq]
   omega
  ·rw [if_neg hc]
   have:isP p=false:=by
    simp only [isP]
    rw [Bool.eq_false_iff]
    intro z
    simp only [Bool.and_eq_true,decide_eq_true_eq] at z hc
    exact hc ⟨z.2,z.1.2⟩
   simp [fin,this]
 |p::q::r,n,_,hf=>by
  have h:=lP p (32::ba [32] (q::r)) 0 n (hf p (by simp)) (by omega)
  have ih:=rA (q::r) (n+1) (by simp) λx hx=>hf x (List.mem_cons_of_mem _ hx)
  have e:ba [32] (p::q::r)=p++32::ba [32] (q::r):=by simp [ba]
  rw [e,h]
  simp only [Nat.zero_add]
  by_cases hc:(p.all isL&&decide (p.length<=12))=true
  ·rw [if_pos hc]
   simp only [Bool.and_eq_true,decide_eq_true_eq] at hc
   rw [bQ,if_pos rfl]
   by_cases hz:p.length=0
   ·rw [if_pos hz]
    have:isP p=false:=by simp [isP,hz]
    simp [fin,this]
   ·rw [if_neg hz,ih]
    have:isP p=true:=by
     simp only [isP,hc.1,hc.2,decide_true,Bool.and_true,decide_eq_true_eq]
     omega
    have ea:(p::q::r).all isP=(q::r).all isP:=by rw [List.all_cons,this,Bool.true_and]
    rw [ea]
    have e2:(q::r).length+(n+1)=(p::q::r).length+n:=by simp;omega
    rw [e2]
  ·rw [if_neg hc]
   have:isP p=false:=by
    simp only [isP]
    rw [Bool.eq_false_iff]
    intro z
    simp only [Bool.and_eq_true,decide_eq_true_eq] at z hc
    exact hc ⟨z.2,z.1.2⟩
   simp [fin,this]
theorem Dw (c:Nat):decide (c∈[97,98,99,100,101,102,103,104,105,106,107,108,109,110,111,112,113,114,115,116,117,118,119,120,121,122])=isL c:=by
 have lo:∀ c<123,decide (c∈[97,98,99,100,101,102,103,104,105,106,107,108,109,110,111,112,113,114,115,116,117,118,119,120,121,122])=isL c:=by decide +kernel
 by_cases h:c<123
 ·exact lo c h
 ·have hi:∀ x∈[97,98,99,100,101,102,103,104,105,106,107,108,109,110,111,112,113,114,115,116,117,118,119,120,121,122],x<123:=by decide +kernel
  rw [decide_eq_false λq=>h (hi c q)]
  unfold isL
  rw [decide_eq_false (p:=c<=122) λq=>h (Nat.lt_succ_of_le q),Bool.and_false]
theorem Gv (a b:Nat):decide ([a]<[b])=decide (a<b):=by
 rw [Bool.eq_iff_iff]
 simp [List.cons_lt_cons_iff]
end Sc
namespace Wm
open PySem
theorem qi (g:List Nat):∀ ps:List (List Nat),Sc.ba g ps=Tm.ba g ps
 |[]=>rfl
 |[p]=>rfl
 |p::q::r=>by
  show p++g++Sc.ba g (q::r)=p++g++Tm.ba g (q::r)
  rw [qi g (q::r)]
noncomputable def Wd (z:Str):Bool:=decide (z.length<=24)&&Sc.fin (Sc.bQ (Tm.tl z) 0 1)
theorem yQ (z:Str):Sc.fin (Sc.bQ (Tm.tl z) 0 1)=(decide ((Txt.split z " ").length<=4)&&(Txt.split z " ").all λp=>Sc.isP (Tm.tl p)):=by
 have hn:=PyProof.Rows.split_pos z " "
 rw [<- Tm.qh z,<- qi,Sc.rA _ 1 (by simp [Tm.AW]) (Tm.split_free z),List.length_map,List.all_map]
 congr 1
 rw [Bool.eq_iff_iff]
 simp only [decide_eq_true_eq]
 omega
theorem jr (c d:Nat):T2.ltS ⟨#[c]⟩ ⟨#[d]⟩=decide (c<d):=by
 unfold T2.ltS
 exact Sc.Gv c d
theorem Gw (c:Nat):(!T2.ltS ⟨#[c]⟩ "a" && !T2.ltS "z" ⟨#[c]⟩)=Sc.isL c:=by
 rw [show ("a":Str)=⟨#[97]⟩ by decide +kernel,show ("z":Str)=⟨#[122]⟩ by decide +kernel,jr,jr,Bool.eq_iff_iff]
 simp only [Sc.isL,Bool.and_eq_true,Bool.not_eq_true',decide_eq_false_iff_not,decide_eq_true_eq]
 omega
theorem all_map (l:List Bool):T2.dP (l.map T2.T.bl)=some l:=by
 induction l with
 |nil=>rfl
 |cons a l ih=>simp [T2.dP,ih]
theorem mM {α β:Type}(f:α->β) (l:List α):l.filterMap (λx=>some (f x))=l.map f:=by
 induction l with
 |nil=>rfl
 |cons a l ih=>simp [ih]
end Wm
namespace Wm
open PySem
theorem ue {z:Str}(h:Wd z=true):1<=z.length/\z.length<=24:=by
 unfold Wd at h
 simp only [Bool.and_eq_true,decide_eq_true_eq] at h
 refine ⟨?_,h.1⟩
 rcases Nat.eq_zero_or_pos z.length with e|e
 ·have:Tm.tl z=[]:=List.length_eq_zero_iff.mp (by rw [Tm.len];exact e)
  rw [this] at h
  simp [Sc.bQ,Sc.fin] at h
 ·exact e
theorem mO:∀ (l:List Nat) (z n:Nat){p:Nat×Nat},Sc.bQ l z n=some p->∀ c∈l,c=32\/Sc.isL c=true
 |[],_,_,_,_,c,hc=>by cases hc
 |d::l,z,n,p,h,c,hc=>by
  rw [Sc.bQ] at h
  rcases List.mem_cons.mp hc with rfl|hc
  ·by_cases e:c=32
   ·exact .inl e
   ·rw [if_neg e] at h
    split at h
    ·exact .inr ‹_›
    ·cases h
  ·split at h
   ·split at h
    ·cases h
    ·exact mO l _ _ h c hc
   ·split at h
    ·split at h
     ·cases h
     ·exact mO l _ _ h c hc
    ·cases h
theorem Bl {z:Str}(h:Wd z=true):∀ c∈Tm.tl z,c=32\/Sc.isL c=true:=by
 unfold Wd at h
 simp only [Bool.and_eq_true] at h
 cases q:Sc.bQ (Tm.tl z) 0 1 with
 |none=>rw [q] at h;simp [Sc.fin] at h
 |some p=>exact mO _ _ _ q
theorem g8 {z:Str}(h:Wd z=true):PyData.strOk z=true:=by
 unfold PyData.strOk
 rw [Array.all_eq_true_iff_forall_mem]
 intro c hc
 have:=Bl h c (by simpa [Tm.tl] using hc)
 rw [decide_eq_true_eq]
 rcases this with e|e
 ·omega
 ·simp only [Sc.isL,Bool.and_eq_true,decide_eq_true_eq] at e;omega
end Wm
namespace Rk
open PySem T2 S6
abbrev Rt:=Str×Int
noncomputable def rt (a:Rt):T:=.tup [.str a.1,.int a.2]
noncomputable def ky (a:Rt):Ky:=.cons (.i (-a.2)) (.cons (.s a.1) .nil)
theorem nz (a:Rt):tre (ky a)=.tup [.int (-a.2),.str a.1]:=by simp [ky,tre,ii]
def ah (a b:Rt):Bool:=Ky.lt (ky a) (ky b)
theorem js (a b:Rt):Ky.shp (ky a) (ky b)=true:=rfl
theorem Gx {a b:Rt}(h:ky a=ky b):a=b:=by
 simp only [ky,Ky.cons.injEq,Ky.i.injEq,Ky.s.injEq,and_true] at h
 exact Prod.ext h.2 (by omega)
theorem Bm {a b c:Rt}(h1:ah a b=true) (h2:ah b c=true):ah a c=true:=Ky.trans (js _ _) (js _ _) h1 h2
theorem uf (a b:Rt):ah a b=true\/a=b\/ah b a=true:=by
 rcases Ky.tri (js a b) with h|h|h
 ·exact .inl h
 ·exact .inr (.inl (Gx h))
 ·exact .inr (.inr h)
theorem Dx {a b:Rt}(h:ah a b=true):ah b a=false:=Ky.Lp (js _ _) h
noncomputable def kyT:T->Ky
 |.tup [.str w,.int n]=>ky (w,n)
 |_=>.nil
theorem ug (a:Rt):kyT (rt a)=ky a:=rfl
noncomputable def ins (LU:List Rt) (a:Rt):List Rt:=LU.takeWhile (λx=>ah x a)++a::LU.dropWhile (λx=>ah x a)
def bst (l:List Rt):List Rt:=l.foldl ins []
theorem mf (LU:List Rt) (a:Rt):(ins LU a).Perm (a::LU):=by
 unfold ins
 refine (List.perm_middle).trans ?_
 rw [List.takeWhile_append_dropWhile]
theorem qL:∀ (l LU:List Rt),(l.foldl ins LU).Perm (l++LU)
 |[],LU=>by simp
 |a::l,LU=>by
  rw [List.foldl_cons]
  refine (qL l (ins LU a)).trans ?_
  refine ((mf LU a).append_left l).trans ?_
  exact List.perm_middle
theorem eY (l:List Rt):(bst l).Perm l:=by
 have:=qL l []
 rwa [List.append_nil] at this
theorem yR {LU:List Rt}{a:Rt}(h:LU.Pairwise λx y=>ah x y=true) (hn:a∉LU):(ins LU a).Pairwise λx y=>ah x y=true:=by
 induction LU with
 |nil=>simp [ins]
 |cons b l ih =>
  have hb:b≠a:=λe=>hn (by simp [e])
  obtain ⟨h1,h2⟩:=List.pairwise_cons.mp h
  have Sn:a∉l:=λe=>hn (by simp [e])
  unfold ins
  by_cases q:ah b a=true
  ·rw [List.takeWhile_cons,if_pos q,List.dropWhile_cons,if_pos q,List.cons_append]
   refine List.pairwise_cons.mpr ⟨λx hx=>?_,ih h2 Sn⟩
   have:=(mf l a).mem_iff.mp (show x∈ins l a from hx)
   rcases List.mem_cons.mp this with rfl|hx
   ·exact q
   ·exact h1 x hx
  ·rw [List.takeWhile_cons,if_neg q,List.dropWhile_cons,if_neg q,List.nil_append]
   have ab:ah a b=true:=by
    rcases uf a b with z|z|z
    ·exact z
    ·exact (hb z.symm).elim
    ·exact (q z).elim
   refine List.pairwise_cons.mpr ⟨λx hx=>?_,h⟩
   rcases List.mem_cons.mp hx with rfl|hx
   ·exact ab
   ·exact Bm ab (h1 x hx)
theorem p8:∀ (l LU:List Rt),(l++LU).Nodup->(LU.Pairwise λx y=>ah x y=true)->((l.foldl ins LU).Pairwise λx y=>ah x y=true)
 |[],LU,_,h=>h
 |a::l,LU,hn,h=>by
  rw [List.foldl_cons]
  have hm:a∉LU:=λe=>by
   rw [List.cons_append,List.nodup_cons] at hn
   exact hn.1 (List.mem_append_right _ e)
  refine p8 l (ins LU a) ?_ (yR h hm)
  have p:(l++ins LU a).Perm (a::l++LU):=((mf LU a).append_left l).trans List.perm_middle
  exact p.nodup_iff.mpr hn
theorem yS {l:List Rt}(h:l.Nodup):(bst l).Pairwise λx y=>ah x y=true:=p8 l [] (by simpa using h) .nil
theorem w5:∀ {l m:List Rt},(l.Pairwise λx y=>ah x y=true)->(m.Pairwise λx y=>ah x y=true)->l.Perm m->l=m
 |[],m,_,_,p=>(List.perm_nil.mp p.symm).symm
 |a::l,[],_,_,p=>absurd p.length_eq (by simp)
 |a::l,b::m,h1,h2,p=>by
  obtain ⟨a1,a2⟩:=List.pairwise_cons.mp h1
  obtain ⟨b1,b2⟩:=List.pairwise_cons.mp h2
  have e:a=b:=by
   rcases List.mem_cons.mp (p.mem_iff.mp (List.mem_cons_self ..):a∈b::m) with e|e
   ·exact e
   ·rcases List.mem_cons.mp (p.mem_iff.mpr (List.mem_cons_self ..):b∈a::l) with q|q
    ·exact q.symm
    ·have x1:=a1 b q
     have x2:=b1 a e
     rw [Dx x1] at x2;cases x2
  subst e
  rw [w5 a2 b2 (List.perm_cons a |>.mp p)]
theorem Bn {l:List Rt}(h:(l.map (·.1)).Nodup):l.Nodup:=by
 unfold List.Nodup at h ⊢
 rw [List.pairwise_map] at h
 exact h.imp fun {a b} PL e=>PL (by rw [e])
theorem zW {l l':List Rt}(hn:l.Nodup) (p:l'.Perm l) (h:l'.Pairwise λa b=>Ky.lt (kyT (rt b)) (kyT (rt a))=false):l'=bst l:=by
 refine w5 ?_ (yS hn) (p.trans (eY l).symm)
 have n':l'.Nodup:=p.nodup_iff.mpr hn
 refine (h.and n').imp fun {a b} hab=>?_
 rcases uf a b with z|z|z
 ·exact z
 ·exact (hab.2 z).elim
 ·have:=hab.1
  rw [ug,ug] at this
  rw [show Ky.lt (ky b) (ky a)=true from z] at this;cases this
theorem JY {S:Sto}{Q:T->Sto->Prop}{a:Rt}(h:Q (.str a.1) S):gIx (rt a) (.int 0) S Q:=oj (t:=.str a.1) rfl h
end Rk
namespace As
open PySem T2
variable {α β:Type}
noncomputable def kt (f:α->T) (l:List (Str×α)):List (L2.Key×T):=l.map λa=>(Sum.inr a.1,f a.2)
noncomputable def look (l:List (Str×α)) (z:Str):Option α:=(l.find? λa=>decide (a.1=z)).map (·.2)
noncomputable def pu (l:List (Str×α)) (z:Str) (x:α):List (Str×α):=if (l.any λa=>decide (a.1=z))=true then l.map (λa=>if a.1=z then (a.1,x) else a) else l++[(z,x)]
noncomputable def dr (l:List (Str×α)) (z:Str):List (Str×α):=l.filter λa=>decide (a.1≠z)
theorem bL (f:α->T) (z:Str):∀ l:List (Str×α),aQ (kt f l) (Sum.inr z)=(look l z).map f
 |[]=>rfl
 |a::l=>by
  have ih:=bL f z l
  unfold aQ kt look at *
  rw [List.map_cons,List.find?_cons,List.find?_cons]
  by_cases e:a.1=z
  ·simp [e]
  ·have e2:¬ (Sum.inr a.1:L2.Key)=Sum.inr z:=λq=>e (Sum.inr.inj q)
   simp only [e,e2,decide_false]
   exact ih
theorem uh (f:α->T) (z:Str):∀ l:List (Str×α),((kt f l).any λkv=>decide (kv.1=Sum.inr z))=l.any λa=>decide (a.1=z)
 |[]=>rfl
 |a::l=>by
  have ih:=uh f z l
  unfold kt at *
  rw [List.map_cons,List.any_cons,List.any_cons,ih]
  congr 1
  rw [Bool.eq_iff_iff]
  simp
theorem nA (f:α->T) (l:List (Str×α)) (z:Str) (x:α):cX (kt f l) (Sum.inr z) (f x)=kt f (pu l z x):=by
 unfold cX pu
 rw [uh]
 split
 ·unfold kt
  rw [List.map_map,List.map_map]
  refine List.map_congr_left λa _=>?_
  by_cases e:a.1=z
  ·simp [e]
  ·have e2:¬ (Sum.inr a.1:L2.Key)=Sum.inr z:=λq=>e (Sum.inr.inj q)
   simp [e]
 ·unfold kt;simp
theorem sD (f:α->T) (l:List (Str×α)) (z:Str):fO (kt f l) (Sum.inr z)=kt f (dr l z):=by
 unfold fO dr kt
 rw [List.filter_map]
 congr 1
 refine List.filter_congr λa _=>?_
 rw [Bool.eq_iff_iff]
 simp
theorem c5 {l:List (Str×α)}{z:Str}{x:α}(h:look l z=some x):(z,x)∈l:=by
 unfold look at h
 rw [Option.map_eq_some_iff] at h
 obtain ⟨a,h1,h2⟩:=h
 have h3:=List.find?_some h1
 have h4:=List.mem_of_find?_eq_some h1
 simp only [decide_eq_true_eq] at h3
 rw [<- h3,<- h2];exact h4
theorem Dy {l:List (Str×α)}(hn:(l.map (·.1)).Nodup){a:Str×α}(h:a∈l):look l a.1=some a.2:=by
 induction l with
 |nil=>cases h
 |cons b l ih =>
  rw [List.map_cons,List.nodup_cons] at hn
  unfold look
  rw [List.find?_cons]
  rcases List.mem_cons.mp h with rfl|h
  ·simp
  ·rw [decide_eq_false (λe=>hn.1 (by rw [e];exact List.mem_map_of_mem h))]
   exact ih hn.2 h
theorem cP {l:List (Str×α)}{z:Str}:look l z=none ↔ z∉l.map (·.1):=by
 unfold look
 rw [Option.map_eq_none_iff,List.find?_eq_none]
 constructor
 ·intro h hm
  obtain ⟨a,ha,e⟩:=List.mem_map.mp hm
  exact h a ha (by simp [e])
 ·intro h a ha e
  exact h (by rw [<- of_decide_eq_true e];exact List.mem_map_of_mem ha)
theorem ui {l:List (Str×α)}{z:Str}(x:α) (h:z∉l.map (·.1)):pu l z x=l++[(z,x)]:=by
 unfold pu
 rw [if_neg]
 intro e
 rw [List.any_eq_true] at e
 obtain ⟨a,ha,e⟩:=e
 exact h (by rw [<- of_decide_eq_true e];exact List.mem_map_of_mem ha)
theorem nB (f:α->T) (l:List (Str×α)):(kt f l).length=l.length:=by unfold kt;rw [List.length_map]
noncomputable def wrt (m:Int×Int) (now:Int):Int:=m.1 / 2 ^ (now - m.2).toNat
noncomputable def mkT (m:Int×Int):T:=.tup [.int m.1,.int m.2]
end As
open PySem
namespace Wm
end Wm
namespace Nm
open PySem
def D (n:Nat):Str:=Str.ofString (toString (n:Int))
theorem w6 (n:Nat):Tm.tl (D n)=(Nat.toDigits 10 n).map Char.toNat:=PySem.W.KIN.signs_num n
theorem JZ {n c:Nat}(h:c∈Tm.tl (D n)):48<=c/\c<=57:=by
 rw [w6] at h
 obtain ⟨d,hd,rfl⟩:=List.mem_map.mp h
 have:=Nat.isDigit_of_mem_toDigits (by decide) (by decide) hd
 simp only [Char.isDigit,Bool.and_eq_true,decide_eq_true_eq] at this
 exact this
theorem J0 {n:Nat}(h:n<10 ^ 15):(D n).length<=15:=by
 rw [<- Tm.len,w6,List.length_map];exact (Nat.length_toDigits_le_iff (by decide) (by decide)).mpr h
end Nm
namespace L2
open PySem PySem.Spec PyProof.Rows
section
variable {X:Cx}{pos p:Pos}{e e':Expr}{es:List Expr}{tv:TE}{t:Str->TE}{s2:Str}{k n:Nat}
def PJ (X:Cx) (n:Nat) (es:List Expr) (t:Str->TE):Prop:=∀ pins s U H MC Q,Inv X pins U H s->MC.length<=n->t MC U H Q->wpAny (model X.prog X.w) X.A (joinParts MC (evalEach es X.env)) (EP X pins U Q) X.xe s
theorem Gy (h:n<=1000000):PJ X n [] λMC U H Q=>Q (.str MC) H:=λpins s U H MC Q I l q =>
 joinParts_nil (show EP X pins U Q _ _ from ⟨.str MC,_,I.tok _,⟨_,rfl⟩,q⟩) (by rw [sizeLine_eq];omega)
theorem Gz (h2:s2.length<=1000) (r:PJ X (n+1000) es t) (hn:n<=1000000):PJ X n (.Constant (.str s2) k p::es) λMC=>t (MC++s2):=λpins s U H MC Q I l q =>
 joinParts_cons (thn (jh (pos:=p) (j:=k) pins s U H (λv H1=>v=.str s2/\H1=H) I ⟨rfl,rfl⟩) λu3 sc zz130=>by
  obtain ⟨v,H3,I3,ru3,ev,eH⟩:=zz130
  subst ev eH
  obtain ⟨t3,rfl⟩:=(show ∃ t,u3=Value.str s2 t from ru3)
  have lz:(MC++s2).length<=n+1000:=by rw [PySem.Str.length_append];omega
  exact ⟨by rw [sizeLine_eq];omega,r pins _ U _ _ Q I3 lz q⟩)
def Fmt (x:V) (y:Str):Prop:=(∃ i:Int,x=.int i/\i.natAbs.log2<1920/\y=Str.ofString (toString i))\/(x=.str y/\y.length<=1000)
theorem GA (hv:PE X e tv) (r:PJ X (n+2000) es t) (hn:n<=1000000):PJ X n (.FormattedValue e (-1) none p::es) λMC U H Q=>tv U H λx H1=>∃ y,Fmt x y/\t (MC++y) U H1 Q:=λpins s U H MC Q I l q =>
 joinParts_cons (FormattedValue_plain (thn (hv pins s U H _ I q) λu2 sb zz131=>by
  obtain ⟨x,H2,I2,rx,y,hf,q⟩:=zz131
  rcases hf with ⟨i,rfl,hi,rfl⟩|⟨rfl,hy⟩
  ·obtain ⟨t2,rfl⟩:=(show ∃ t,u2=Value.int i t from rx)
   have li:(Str.ofString (toString i)).length<=1921:=by rw [PySem.ofString_length];exact int_text_length_le (by decide) hi
   have l0:(MC++Str.ofString (toString i)).length<=n+2000:=by rw [PySem.Str.length_append];omega
   exact formatField_int_small hi ⟨by rw [sizeLine_eq];omega,r pins _ U _ _ Q (I2.tok _) l0 q⟩
  ·obtain ⟨t2,rfl⟩:=(show ∃ t,u2=Value.str y t from rx)
   have l0:(MC++y).length<=n+2000:=by rw [PySem.Str.length_append];omega
   exact formatField_str (λt' tk=>⟨by rw [sizeLine_eq];omega,r pins _ U _ _ Q (I2.tok _) l0 q⟩) (by rw [sizeLine_eq];omega)))
theorem GB (hv:PE X e tv) (r:PJ X (n+11000) es t) (hn:n<=1000000):PJ X n (.FormattedValue e 114 none p::es) λMC U H Q=>tv U H λx H1=>∃ z:Str,x=.str z/\z.length<=1000/\PyData.strOk z=true/\t (MC++reprText z) U H1 Q:=λpins s U H MC Q I l q =>
 joinParts_cons (by
  show wpAny (model X.prog X.w) X.A (do let v <- eval e X.env;standAt p;formatted p (<- holding [v] (converted 114 v)) none) _ _ s
  refine wpAny_bind (thn (hv pins s U H _ I q) λu sa zz132=>?_)
  obtain ⟨x,H1,I1,rx,z,ex,hz,hok,q⟩:=zz132
  subst ex
  obtain ⟨t1,rfl⟩:=(show ∃ t,u=Value.str z t from rx)
  have hr:(reprText z).length<=10002:=by
   have:=StrLaws.reprText_len z λc hc=>by
    unfold PyData.strOk at hok
    rw [Array.all_eq_true_iff_forall_mem] at hok
    have:=of_decide_eq_true (hok c (by simpa using hc))
    omega
   omega
  have l0:(MC++reprText z).length<=n+11000:=by rw [PySem.Str.length_append];omega
  refine wpAny_bind (wpAny_standAt (wpAny_bind (wpAny_holding ?_)))
  show wpAny _ _ (pyReprObj (.str z t1)) _ _ _
  exact wpAny_pyReprObj_str (formatField_str (λt' tk=>⟨by rw [sizeLine_eq];omega,r pins _ U _ _ Q (I1.tok _) l0 q⟩) (by rw [sizeLine_eq];omega)) (by rw [sizeLine_eq];omega))
theorem J1 (h:PJ X 0 (e::e'::es) t):PE X (.JoinedStr (e::e'::es) pos) (t Str.empty):=λpins s U H Q I q=>JoinedStr_many (h pins s U H _ Q I (Nat.le_refl 0) q)
theorem PJ.of {t':Str->TE}(h:PJ X n es t) (i:∀ MC U H Q,t' MC U H Q->t MC U H Q):PJ X n es t':=λpins s U H MC Q I l q=>h pins s U H MC Q I l (i MC U H Q q)
end
end L2
namespace T2
open PySem PySem.Spec PyProof.Rows L2
section
variable {K:Fg}{X:Cx}{pos p:Pos}{e e':Expr}{es:List Expr}{wv:WE}{w:Str->WE}{s2:Str}{k n:Nat}
def QJ (K:Fg) (X:Cx) (n:Nat) (es:List Expr) (w:Str->WE):Prop:=PJ X n es λMC=>lE K (w MC)
def jN:Str->WE:=λMC U S Q=>Q (.str MC) S
def FmT (x:T) (y:Str):Prop:=(∃ i:Int,x=.int i/\i.natAbs.log2<1920/\y=Str.ofString (toString i))\/(x=.str y/\y.length<=1000)
def jV (wv:WE) (w:Str->WE):Str->WE:=λMC U S Q=>wv U S λx S1=>∃ y,FmT x y/\w (MC++y) U S1 Q
def jR (wv:WE) (w:Str->WE):Str->WE:=λMC U S Q=>wv U S λx S1=>∃ z:Str,x=.str z/\z.length<=1000/\PyData.strOk z=true/\w (MC++reprText z) U S1 Q
theorem d9 (h:n<=1000000:=by decide):QJ K X n [] jN:=PJ.of (Gy h) λMC U H Q zz133=>by obtain ⟨S,LQ,Qt,s,c,q,hq⟩:=zz133;exact hq _ _ _ _ .refl s .str q
theorem da (r:QJ K X (n+1000) es w) (h2:s2.length<=1000:=by decide) (hn:n<=1000000:=by decide):QJ K X n (.Constant (.str s2) k p::es) (λMC=>w (MC++s2)):=Gz h2 r hn
theorem fH (hv:QE K X e wv) (r:QJ K X (n+2000) es w) (hn:n<=1000000:=by decide):QJ K X n (.FormattedValue e (-1) none p::es) (jV wv w) :=
 PJ.of (GA hv r hn) λMC U H Q zz134=>by
  obtain ⟨S,LQ,Qt,s,c,q,hq⟩:=zz134
  refine ⟨S,LQ,_,s,c,q,λx H1 tx S1 f1 s1 r1 zz135=>?_⟩
  obtain ⟨y,hf,q1⟩:=zz135
  refine ⟨y,?_,S1,LQ,Qt,s1,c.fr f1,q1,λx2 H2 tx2 S2 f2=>hq x2 H2 tx2 S2 (f1.trans f2)⟩
  rcases hf with ⟨i,rfl,hi,rfl⟩|⟨rfl,hy⟩
  ·cases r1;exact .inl ⟨i,rfl,hi,rfl⟩
  ·cases r1;exact .inr ⟨rfl,hy⟩
theorem jt (hv:QE K X e wv) (r:QJ K X (n+11000) es w) (hn:n<=1000000:=by decide):QJ K X n (.FormattedValue e 114 none p::es) (jR wv w) :=
 PJ.of (GB hv r hn) λMC U H Q zz136=>by
  obtain ⟨S,LQ,Qt,s,c,q,hq⟩:=zz136
  refine ⟨S,LQ,_,s,c,q,λx H1 tx S1 f1 s1 r1 zz137=>?_⟩
  obtain ⟨z,ez,hz,ho,q1⟩:=zz137
  subst ez
  cases r1
  exact ⟨z,rfl,hz,ho,S1,LQ,Qt,s1,c.fr f1,q1,λx2 H2 tx2 S2 f2=>hq x2 H2 tx2 S2 (f1.trans f2)⟩
theorem eO (h:QJ K X 0 (e::e'::es) w):QE K X (.JoinedStr (e::e'::es) pos) (w Str.empty):=J1 h
theorem LD {MC:Str}{U:StT}{S:Sto}{Q:T->Sto->Prop}(h:Q (.str MC) S):jN MC U S Q:=h
theorem LF {MC:Str}{U:StT}{S:Sto}{Q:T->Sto->Prop}(h:wv U S λx S1=>∃ y,FmT x y/\w (MC++y) U S1 Q):jV wv w MC U S Q:=h
theorem LG {MC:Str}{U:StT}{S:Sto}{Q:T->Sto->Prop}(h:wv U S λx S1=>∃ z:Str,x=.str z/\z.length<=1000/\PyData.strOk z=true/\w (MC++reprText z) U S1 Q):jR wv w MC U S Q:=h
end
end T2
namespace L2
open PySem PySem.Spec PyProof.Rows
section
variable {X:Cx}
theorem Dz:MtR X "str.find" (λx vs H Q=>∃ a b:Str,x=.str a/\vs=[.str b]/\Q (.int (Txt.find a b)) H):=by
 intro pins s U H x vs v us Q I rx rv h
 obtain ⟨a,b,rfl,rfl,q⟩:=h
 obtain ⟨tk,rfl⟩:=rx
 obtain ⟨u,rfl,t2,rfl⟩:=bW rv
 exact SC.find ⟨.int (Txt.find a b),H,I.tok _,⟨_,rfl⟩,q⟩
end
end L2
namespace T2
open PySem PySem.Spec PyProof.Rows L2
section
variable {K:Fg}{X:Cx}
def vy:GM:=λx ts S Q=>∃ a b:Str,x=.str a/\ts=[.str b]/\Q (.int (Txt.find a b)) S
theorem uj:MtR X "str.find" (lM K vy):=by
 rintro pins s U H x vs v us Q I rx rv ⟨S,t,ts,Qt,sr,hx,rs,⟨a,c,rfl,rfl,q⟩,b⟩
 cases hx
 cases rs with
 |cons r l =>
  cases l
  cases r
  exact Dz pins s U H _ _ v us Q I rx rv ⟨a,c,rfl,rfl,b _ H _ S .refl sr .int q⟩
theorem GD {S:Sto}{Q:T->Sto->Prop}{a b:Str}(h:Q (.int (Txt.find a b)) S):vy (.str a) [.str b] S Q:=⟨a,b,rfl,rfl,h⟩
end
end T2
namespace L2
open PySem PySem.Spec PyProof.Rows
section
variable {X:Cx}{o e:Expr}{es:List Expr}{r:TR}{ta:TE}{pos apos:Pos}{G:Addr->Prop}{m:Str}{f:Addr}
theorem DA {x1}(h:PRA X es r):PRE X (.Tuple es x1 pos) r:=λpins s U H R I q=>wpAny_Tuple_spliced (wpAny_mono (h pos pins s U H R I q) (λ_ _ z=>z.elim) λ_ _ z=>z)
def GF (G:Addr->Prop) (m:Str) (ta:TE) (r:TR):TR:=λU H R=>ta U H λx H1=>∃ a C dx fs,x=.ref a/\H1 a=some (.ins C dx fs)/\G C/\fs.lookup m=none/\r U H1 R
theorem zX {pl:Sem Bool}(he:PE X.nox o ta) (hG:∀ C,G C->Cls X.K C/\Meth X.K C m f) (ha:PRA X (e::es) r)
  (PC:starEach (e::es) X.env=(false,eval e X.env)::starEach es X.env:=by rfl) (MS:(backTo pos (starEach es X.env)).any (·.1)=false:=by rfl)
  (ht:eval (.Call (.Attribute o m apos) (e::es) [] pos) X.env=(do
   let ov <- eval o X.env
   standAt apos.atName
   let (f,first) <- holding [ov] (getMethod ov m pl)
   callWith pos f first (backTo pos (starEach (e::es) X.env)) (backToKw pos (keywordEach [] X.env))):=by rfl) :
  PRE X (.Call (.Attribute o m apos) (e::es) [] pos) (GF G m ta r):=by
 intro pins s U H R I h
 refine PySem.W.methodCall_KW (pl:=pl) (dI (he pins s U H _ (I.wish _) h) λu s1 ⟨x,H1,I1,rx,a,C,dx,fs,ex,ea,g,l,q⟩=>?_) ht
 subst ex
 obtain rfl:u=Value.ref a:=rx
 obtain ⟨c,hm⟩:=hG C g
 refine fW I1.unwish ea c hm l ?_
 exact PySem.W.callWith_K (first:=[.ref a]) (h₀:=X.base) I.ok.mod.kin hm.kp (wpAny_mono (ha pos pins s1 U H1 R I1.unwish q) (λ_ _ z=>z.elim) λ_ _ z=>z) PC MS
end
end L2
namespace T2
open PySem PySem.Spec PyProof.Rows L2
section
variable {K:Fg}{X:Cx}{o e:Expr}{es:List Expr}{r r2:WR}{wa:WE}{pos apos:Pos}{G:Addr->Prop}{m:Str}{f:Addr}
theorem GG {x1}(h:QRA K X es r):QRE K X (.Tuple es x1 pos) r:=DA h
def sE (G:Addr->Prop) (m:Str) (wa:WE) (r:WR):WR:=λU S R=>wa U S λx S1=>∃ a C fs,x=.ref a/\S1 a=some (.ins C fs)/\G C/\fs.lookup m=none/\r U S1 R
theorem mh {pl:Sem Bool}(hG:∀ C,G C->Cls X.K C/\Meth X.K C m f) (ho:QE K X.nox o wa) (ha:QRA K X (e::es) r)
  (PC:starEach (e::es) X.env=(false,eval e X.env)::starEach es X.env:=by rfl) (MS:(backTo pos (starEach es X.env)).any (·.1)=false:=by rfl)
  (ht:eval (.Call (.Attribute o m apos) (e::es) [] pos) X.env=(do
   let ov <- eval o X.env
   standAt apos.atName
   let (f,first) <- holding [ov] (getMethod ov m pl)
   callWith pos f first (backTo pos (starEach (e::es) X.env)) (backToKw pos (keywordEach [] X.env))):=by rfl) :
  QRE K X (.Call (.Attribute o m apos) (e::es) [] pos) (sE G m wa r):=PRE.of (zX (pl:=pl) ho hG ha PC MS ht) λU H R zz138=>by
 obtain ⟨S,LQ,Rt,s,c,q,hq⟩:=zz138
 refine ⟨S,LQ,_,s,c,q,λx H1 tx S1 f1 s1 r1 q1=>?_⟩
 obtain ⟨a,C,fs,rfl,ea,g,l,q1⟩:=q1
 cases r1
 cases s1 a _ ea with
 |ins eh pr=>exact ⟨a,C,_,_,rfl,eh,g,cP pr l,S1,LQ,Rt,s1,c.fr f1,q1,λC' LR H' L9 S' f'=>hq C' LR H' L9 S' (f1.trans f')⟩
theorem DB {U:StT}{S:Sto}{R:WX}(h:wa U S λx S1=>∃ a C fs,x=.ref a/\S1 a=some (.ins C fs)/\G C/\fs.lookup m=none/\r U S1 R):sE G m wa r U S R:=h
theorem GH (h1:QRE K X e r) (h2:QRE K X e r2):QRE K X e (j7 r r2):=λpins s U H R I zz139=>by
 obtain ⟨S,LQ,Rt,s0,c,q,hq⟩:=zz139
 rcases q with q|q
 ·exact h1 pins s U H R I ⟨S,LQ,Rt,s0,c,q,hq⟩
 ·exact h2 pins s U H R I ⟨S,LQ,Rt,s0,c,q,hq⟩
end
section
variable {K:Fg}{X:Cx}
def vB:G2:=λx y S Q=>∃ ts us,x=.tup ts/\y=.tup us/\ts≠[]/\us≠[]/\ts.length+us.length<=sizeLine/\Q (.tup (ts++us)) S
theorem GI:OpR X (binaryOp .Add) (l2 K vB):=by
 rintro pins s U H x y v u Q I rx ry ⟨S,tx,ty,Qt,sr,hx,hy,hg,b⟩
 obtain ⟨ts,us,rfl,rfl,h1,h2,hz,q⟩:=hg
 cases hx with
 |tup n1 e1 r1 =>
  cases hy with
  |tup n2 e2 r2 =>
   refine B' pins s U H _ _ v u Q I rx ry ⟨_,_,_,_,rfl,rfl,.inl (.inl e1),.inl (.inl e2),λz=>?_,by rw [r1.length,r2.length];exact hz,λz=>?_,λ_ p hp=>?_⟩
   ·subst z;cases r1;exact h1 rfl
   ·subst z;cases r2;exact absurd rfl h2
   ·exact b _ _ (.tup (ts++us)) S (Fr.new hp) (sr.new hp) (.tup (sr.fresh hp) aM ((r1.append r2).fr (Fr.new hp))) q
theorem GJ {S:Sto}{Q:T->Sto->Prop}{t u:T}{ts us:List T}(hz:(t::ts).length+(u::us).length<=sizeLine) (h:Q (.tup ((t::ts)++(u::us))) S):vB (.tup (t::ts)) (.tup (u::us)) S Q:=⟨_,_,rfl,rfl,nofun,nofun,hz,h⟩
def j8 (neg:Bool):G2:=λx y S Q=>∃ b,y=.bl b/\((∃ c,x=.bl c/\Q (.bl (neg ^^ decide (c=b))) S)\/∃ ts,x=.tup ts/\Q (.bl neg) S)
theorem rB (b c:Bool):((Value.bool c==Value.bool b):Bool)=decide (c=b):=by cases b<;>cases c<;>rfl
theorem J4:OpR X (compareOp .Is) (l2 K (j8 false)):=by
 rintro pins s U H x y v u Q I rx ry ⟨S,tx,ty,Qt,sr,hx,hy,hg,b⟩
 obtain ⟨c,rfl,⟨d,rfl,q⟩|⟨ts,rfl,q⟩⟩:=hg
 ·cases hx;cases hy;cases rx;cases ry
  refine wpAny_is_plain rfl ⟨.bl (decide (d=c)),H,I,?_,b _ H _ S .refl sr .bl (by simpa using q)⟩
  rw [rB];exact rfl
 ·cases hx with
  |tup n e r =>
   cases hy;cases rx;cases ry
   exact wpAny_is_other rfl (by intro z;cases z) ⟨.bl false,H,I,rfl,b _ H _ S .refl sr .bl q⟩
theorem Bo:OpR X (compareOp .IsNot) (l2 K (j8 true)):=by
 rintro pins s U H x y v u Q I rx ry ⟨S,tx,ty,Qt,sr,hx,hy,hg,b⟩
 obtain ⟨c,rfl,⟨d,rfl,q⟩|⟨ts,rfl,q⟩⟩:=hg
 ·cases hx;cases hy;cases rx;cases ry
  refine wpAny_isNot_plain rfl ⟨.bl (!decide (d=c)),H,I,?_,b _ H _ S .refl sr .bl (by simpa using q)⟩
  rw [rB];exact rfl
 ·cases hx with
  |tup n e r =>
   cases hy;cases rx;cases ry
   exact wpAny_isNot_other rfl (by intro z;cases z) ⟨.bl true,H,I,rfl,b _ H _ S .refl sr .bl q⟩
theorem vC {n b c:Bool}{S:Sto}{Q:T->Sto->Prop}(h:Q (.bl (n ^^ decide (c=b))) S):j8 n (.bl c) (.bl b) S Q:=⟨b,rfl,.inl ⟨c,rfl,h⟩⟩
theorem GK {n b:Bool}{ts:List T}{S:Sto}{Q:T->Sto->Prop}(h:Q (.bl n) S):j8 n (.tup ts) (.bl b) S Q:=⟨b,rfl,.inr ⟨ts,rfl,h⟩⟩
end
end T2
seal T2.QE T2.QT T2.QW T2.QA T2.QS T2.QSs T2.QG T2.QGs T2.QI T2.QTs T2.QO L2.PE L2.PT L2.PA L2.PS L2.PSs L2.PG L2.PGs L2.PI L2.PTs L2.PO L2.PW
namespace My
open PySem L2 T2
set_option genInjectivity false
set_option hygiene false
local macro_rules
 | `(tactic|subst_eqs)=>`(tactic|simp only [Option.isSome_none,Option.isSome_some,Bool.true_xor,Bool.false_xor,Bool.not_false,Bool.not_true])
local macro_rules
 | `(tactic|and_intros)=>`(tactic|simp only [List.set_cons_zero,List.set_cons_succ])
local macro_rules
 |`(tactic| ac_rfl)=>`(tactic| (first|(with_reducible assumption)|with_reducible exact aI|exact (ay (by assumption)).trans (by assumption)|exact (ay (by assumption)).trans aI|exact (ay (Ne.symm (by assumption))).trans aI|exact (ay (Ne.symm (by assumption))).trans (by assumption)))
local macro_rules
 |`(tactic| infer_instance)=>`(tactic| (first|omega|(with_reducible assumption)|((with_reducible apply Int.emod_nonneg);omega)|((with_reducible apply Int.emod_lt_of_pos);omega)|(simp only [Int.reduceToNat,Int.reducePow];omega)|(simp only [PySem.Str.length_append];omega)|(simp only [List.length_range,List.length_map];omega)))
local macro_rules
 |`(tactic| contradiction)=>`(tactic| (first|(simp only [PySem.sizeLine_eq,PySem.Str.length_append,Tm.C2,Tm.len_blank,Tm.zJ];omega)|(rw [PySem.sizeLine_eq];omega)|(rw [PySem.sizeLine_eq];decide)))
local macro_rules
 |`(tactic| ext)=>`(tactic| (repeat (first
   |(with_reducible first|apply IH|apply tQ|apply Fs|apply II|apply IJ|apply IK|apply K8|apply CJ|apply Ft|apply IL|apply i_C|apply i_2|apply i_B|apply K'|apply CK|apply IM|apply La|apply IN|apply Fu|apply Fv|apply IP|apply Fw|apply Lb|apply IQ|apply Fy|apply IR|apply IS|apply Fz|apply FA|apply Lc|apply Ld|apply IT|apply Lf|apply Lg|apply Lh|apply FB|apply FC|apply Li|apply IU|apply Lj|apply IV|apply FD|apply Ja|apply Jb|apply Jc|apply Jd|apply Je|apply Jf|apply Jg|apply Ll|apply Jp|apply vb|apply FH|apply FI|apply Jk|apply AO|apply Jl|apply Jn|apply ifT|apply ifF|apply Ln|apply Lo|apply FJ|apply LH|apply JU|apply GD|apply DB|apply LG|apply LF|apply LD|apply LI|apply JY|apply ul|apply Bp|apply Dj|apply Do|apply Gd|apply Gc|apply dA|apply cA|apply JI|apply Bg|apply LB|apply Lx|apply Lq|apply Lu|apply Dq|apply F6|apply JF|apply De|apply F0|apply JD|apply FY|apply FX)
   |((with_reducible apply vd);(rfl;rfl))
   |((with_reducible apply J5);((with_reducible assumption)))
   |((with_reducible apply Jj);(rfl;exact T.ss))
   |((with_reducible apply DC);(infer_instance;infer_instance;(with_reducible assumption);intro r o' hr0 hr1 hbx))
   |((with_reducible apply GL);(infer_instance;infer_instance;ac_rfl;(with_reducible assumption);intro r o' hr0 hr1 hbx))
   |((with_reducible apply J6);(infer_instance;intro q ob hq0 hbx))
   |((with_reducible apply GN);(infer_instance;intro z))
   |((with_reducible apply GO);(infer_instance))
   |((with_reducible apply DD);(infer_instance))
   |((with_reducible apply i_part);(infer_instance))
   |((with_reducible apply Bq);(infer_instance))
   |((with_reducible apply Gu);(ac_rfl))
   |((with_reducible apply JH);(ac_rfl))
   |((with_reducible apply Lv);(ac_rfl))
   |((with_reducible apply A3);(ac_rfl;(simp only [List.length_cons,List.length_nil];decide)))
   |((with_reducible apply Dg);(ac_rfl;rfl;rfl))
   |((with_reducible apply d8);(ac_rfl;rfl;(simp only [List.length_cons,List.length_nil];decide)))
   |((with_reducible apply JE);(ac_rfl;rfl;rfl))
   |((with_reducible apply FZ);(ac_rfl;rfl;rfl))
   |((with_reducible apply i_V);(rfl))
   |((with_reducible apply u9);(((try and_intros);rfl)))
   |((with_reducible apply K9);(rfl))
   |((with_reducible apply oj);(rfl))
   |((with_reducible apply fN);(rfl))
   |((with_reducible apply va);(ac_rfl;rfl))
   |((with_reducible apply CL);(rfl;(simp only [List.length_cons,List.length_nil];decide);((try and_intros);rfl)))
   |((with_reducible apply FF);(ac_rfl;rfl;(simp only [List.length_cons,List.length_nil];decide);((try and_intros);rfl)))
   |((with_reducible apply IX);(infer_instance))
   |((with_reducible apply IW);(infer_instance;infer_instance))
   |((with_reducible apply IY);(decide;decide;decide))
   |((with_reducible apply FE);(first|exact .inl ⟨by first|omega|decide,by first|omega|decide⟩|exact .inr ⟨by first|omega|decide,by first|omega|decide⟩))
   |((with_reducible apply IZ);(infer_instance))
   |((with_reducible apply tR);(contradiction))
   |((with_reducible apply Ji);(contradiction))
   |((with_reducible apply FG);(contradiction))
   |((with_reducible apply CP);(decide;infer_instance))
   |((with_reducible apply Jq);(infer_instance;infer_instance))
   |((with_reducible apply m7);(contradiction;infer_instance;infer_instance;intro d hd ed))
   |((with_reducible apply Jm);(ac_rfl))
   |((with_reducible apply Jo);(ac_rfl))
   |((with_reducible apply CO);(ac_rfl))
   |((with_reducible apply vd);(rfl;rfl))
   |((with_reducible apply Lm (n:=0));((first|decide|(simp only [List.length_cons,List.length_nil];decide)))))))
local macro_rules
 |`(tactic| ac_nf)=>`(tactic| (subst hu;simp only [bV,List.map_cons,List.map_nil,List.length_cons,List.length_nil,List.replicate,List.cons_append,List.nil_append,Nat.zero_add,Nat.reduceAdd,Nat.reduceSub]))
local macro_rules
 |`(tactic| exfalso)=>`(tactic| (ext;repeat' ((with_reducible refine ifB ?_ ?_)<;>(intro hb;(try simp only [Bool.false_xor,Bool.true_xor,Bool.not_eq_true',Bool.not_eq_false',Bool.not_eq_true,Bool.not_eq_false,Bool.not_not,decide_eq_true_eq,decide_eq_false_iff_not,Int.not_lt,Int.not_le,Bool.not_true,Bool.not_false] at hb);ext))))
local macro_rules
 |`(tactic| left)=>`(tactic| (cases d<;>first|exact ⟨_,_,rfl⟩|exact ⟨_,rfl⟩|rfl|exact absurd h (by dsimp only [kd];decide +kernel)))
local macro_rules
 |`(tactic| exists $x)=>`(tactic| ((first|refine Fc F $x (λts S Q h=>?_) λcdv A outer s H E hr=>?_|refine Dc F $x (λts S Q h=>?_) λcdv A outer s H E hr=>?_|refine sx F $x (λts S Q h=>?_) λcdv A outer s H E hr=>?_|refine sx (T2.Fun.toD F) $x (λts S Q h=>?_) λcdv A outer s H E hr=>?_);(focus ((repeat obtain ⟨_,h⟩:=h)<;>(subst_vars;rfl)));have nd:=($x).nd))
local macro_rules
 |`(tactic| symm)=>`(tactic| ((with_reducible apply i_hide);intro X hr))
local macro_rules
 |`(tactic| right)=>`(tactic| refine ifK (λk=>?_) λ_=>?_)
local macro_rules
 |`(!$n:num)=>`(Txt K mg C L R Y Z)
local macro_rules
 |`(!$a:str $m)=>`(Fun K $a $a $m f fd)
local macro_rules
 |`(!$a:str $b:str $m)=>`(FunD K $a $b $m f fd)
local macro_rules
 |`(!$n:num $a $b $c $d)=>`(FnO P w K mg base $n $a $b $c $d)
set_option hygiene true
open Rk S6 As
structure Zs where
 (N T A S H W B X E:Addr)
abbrev vv0:List Str:=["self","word"]
abbrev vv1:List Str:=["self"]
abbrev vv2:List Str:=["self","word","count"]
abbrev vv3:List Str:=["self","word","times"]
abbrev vv4:List Str:=["text","least","most"]
abbrev vv5:List Str:=["self","times"]
abbrev vv6:List Str:=["self","name","rest"]
abbrev vv7:List Str:=["_law_box_here","_law_many"]
abbrev vv8:List Str:=["_law_desk","_law_row"]
abbrev vv9:List Str:=["self","row"]
abbrev cN:List Str:=["self","beginning"]
abbrev dC:List Str:=["self","before","word"]
abbrev cx:List Str:=["_law_box_here"]
abbrev dU:List Str:=["_law_script","_law_k"]
abbrev ir:List Str:=["_law_text","_law_low","_law_high"]
abbrev dW:List Str:=["mark","era","times"]
abbrev eP:List Str:=["text","most_figures"]
abbrev vv17:List Str:=["word","worth","own","before","self"]
abbrev dD:List Str:=["mark","era"]
abbrev ix:List Str:=["self","layers","many"]
abbrev dX:List Str:=["self","sign"]
abbrev dY:List Str:=["self","rest"]
abbrev eQ:List Str:=["self","number"]
abbrev vv23:List Str:=["word","mark","self","beginning"]
abbrev j9:List Str:=["number","word","own"]
abbrev iz:List Str:=["rated","many"]
abbrev iA:List Str:=["self","house"]
structure Txt (K:PySem.W.Frag) (mg:Str->Option Value) (C L R Y D:Addr) (Z:Zs):Prop where
 len:mg "len"=none
 range:mg "range"=none
 all:mg "all"=none
 sorted:mg "sorted"=none
 isinstance:mg "isinstance"=none
 int:mg "int"=none
 str:mg "str"=none
 list:mg "list"=none
 min:mg "min"=none
 enumerate:mg "enumerate"=none
 ValueError:mg "ValueError"=none
 ss:PySem.W.kitOne K (.type "str") (.type "str")=some true
 c_MOST_SIGNS:∃ tk,mg "MOST_SIGNS"=some (.int 24 tk)
 c_MOST_PARTS:∃ tk,mg "MOST_PARTS"=some (.int 4 tk)
 c_MOST_LETTERS:∃ tk,mg "MOST_LETTERS"=some (.int 12 tk)
 c_ROW_FIGURES:∃ tk,mg "ROW_FIGURES"=some (.int 10 tk)
 c_MOST_COUNT:∃ tk,mg "MOST_COUNT"=some (.int 1000000000 tk)
 c_MOST_TIMES:∃ tk,mg "MOST_TIMES"=some (.int 1000000 tk)
 c_MOST_NUMBER:∃ tk,mg "MOST_NUMBER"=some (.int 9999999999 tk)
 mg_Wood:mg "Wood"=some (.ref C)
 cl:Cls K C
 nm:aJ K C "marks"
 nn:aJ K C "now"
 mg_Layers:mg "Layers"=some (.ref L)
 cL:Cls K L
 nh:aJ K L "house"
 no:aJ K L "own"
 nv:aJ K L "veiled"
 mg_Pairs:mg "Pairs"=some (.ref R)
 cR:Cls K R
 rm:aJ K R "marks"
 rn:aJ K R "now"
 mg_Typist:mg "Typist"=some (.ref Y)
 cY:Cls K Y
 yl:aJ K Y "layers"
 ym:aJ K Y "many"
 yp:aJ K Y "pairs"
 yt:aJ K Y "text"
 yc:aJ K Y "chosen"
 mg_Desk:mg "Desk"=some (.ref D)
 cD:Cls K D
 dh:aJ K D "house"
 dl:aJ K D "layers"
 dt:aJ K D "typist"
 mg_NoWord:mg "NoWord"=some (.ref Z.N)
 mg_Twice:mg "Twice"=some (.ref Z.T)
 mg_Absent:mg "Absent"=some (.ref Z.A)
 mg_NoSign:mg "NoSign"=some (.ref Z.S)
 mg_NoChoice:mg "NoChoice"=some (.ref Z.H)
 mg_NoRow:mg "NoRow"=some (.ref Z.W)
 mg_Beside:mg "Beside"=some (.ref Z.B)
 mg_NoText:mg "NoText"=some (.ref Z.X)
 mg_AheadError:mg "AheadError"=some (.ref Z.E)
 x_NoWord:bu K Z.N none=true
 k_NoWord:PySem.W.keepIn K (.ref Z.N)=true
 c_NoWord:b5 K Z.N=true
 e_NoWord:PySem.W.exmOne K (.ref Z.N) (.ref Z.E)=some true
 wN:PySem.W.kitOne K (.ref Z.N) (.ref Z.W)=some false
 oN:PySem.W.kitAny K (.ref Z.N) (List.map Value.ref [Z.A,Z.B,Z.H,Z.S,Z.X,Z.N,Z.T])=some true
 vN:PySem.W.kitOne K (.ref Z.N) (.type "ValueError")=some true
 x_Twice:bu K Z.T none=true
 k_Twice:PySem.W.keepIn K (.ref Z.T)=true
 c_Twice:b5 K Z.T=true
 e_Twice:PySem.W.exmOne K (.ref Z.T) (.ref Z.E)=some true
 wT:PySem.W.kitOne K (.ref Z.T) (.ref Z.W)=some false
 oT:PySem.W.kitAny K (.ref Z.T) (List.map Value.ref [Z.A,Z.B,Z.H,Z.S,Z.X,Z.N,Z.T])=some true
 vT:PySem.W.kitOne K (.ref Z.T) (.type "ValueError")=some true
 x_Absent:bu K Z.A none=true
 k_Absent:PySem.W.keepIn K (.ref Z.A)=true
 c_Absent:b5 K Z.A=true
 e_Absent:PySem.W.exmOne K (.ref Z.A) (.ref Z.E)=some true
 wA:PySem.W.kitOne K (.ref Z.A) (.ref Z.W)=some false
 oA:PySem.W.kitAny K (.ref Z.A) (List.map Value.ref [Z.A,Z.B,Z.H,Z.S,Z.X,Z.N,Z.T])=some true
 vA:PySem.W.kitOne K (.ref Z.A) (.type "ValueError")=some true
 x_NoSign:bu K Z.S none=true
 k_NoSign:PySem.W.keepIn K (.ref Z.S)=true
 c_NoSign:b5 K Z.S=true
 e_NoSign:PySem.W.exmOne K (.ref Z.S) (.ref Z.E)=some true
 wS:PySem.W.kitOne K (.ref Z.S) (.ref Z.W)=some false
 oS:PySem.W.kitAny K (.ref Z.S) (List.map Value.ref [Z.A,Z.B,Z.H,Z.S,Z.X,Z.N,Z.T])=some true
 vS:PySem.W.kitOne K (.ref Z.S) (.type "ValueError")=some true
 x_NoChoice:bu K Z.H none=true
 k_NoChoice:PySem.W.keepIn K (.ref Z.H)=true
 c_NoChoice:b5 K Z.H=true
 e_NoChoice:PySem.W.exmOne K (.ref Z.H) (.ref Z.E)=some true
 wH:PySem.W.kitOne K (.ref Z.H) (.ref Z.W)=some false
 oH:PySem.W.kitAny K (.ref Z.H) (List.map Value.ref [Z.A,Z.B,Z.H,Z.S,Z.X,Z.N,Z.T])=some true
 vH:PySem.W.kitOne K (.ref Z.H) (.type "ValueError")=some true
 x_NoRow:bu K Z.W none=true
 k_NoRow:PySem.W.keepIn K (.ref Z.W)=true
 c_NoRow:b5 K Z.W=true
 e_NoRow:PySem.W.exmOne K (.ref Z.W) (.ref Z.E)=some true
 wW:PySem.W.kitOne K (.ref Z.W) (.ref Z.W)=some true
 oW:PySem.W.kitAny K (.ref Z.W) (List.map Value.ref [Z.A,Z.B,Z.H,Z.S,Z.X,Z.N,Z.T])=some false
 vW:PySem.W.kitOne K (.ref Z.W) (.type "ValueError")=some true
section
variable {P:Program}{w:World}{K:PySem.W.Frag}{mg:Str->Option Value}{base:Heap}{C L R Y D:Addr}{Z:Zs}
theorem Txt.gm (T:Txt K mg C L R Y D Z):∀ c,c=C->Cls K c/\aJ K c "marks":=λc e=>by subst e;exact ⟨T.cl,T.nm⟩
theorem Txt.gn (T:Txt K mg C L R Y D Z):∀ c,c=C->Cls K c/\aJ K c "now":=λc e=>by subst e;exact ⟨T.cl,T.nn⟩
theorem Txt.gh (T:Txt K mg C L R Y D Z):∀ c,c=L->Cls K c/\aJ K c "house":=λc e=>by subst e;exact ⟨T.cL,T.nh⟩
theorem Txt.go (T:Txt K mg C L R Y D Z):∀ c,c=L->Cls K c/\aJ K c "own":=λc e=>by subst e;exact ⟨T.cL,T.no⟩
theorem Txt.gv (T:Txt K mg C L R Y D Z):∀ c,c=L->Cls K c/\aJ K c "veiled":=λc e=>by subst e;exact ⟨T.cL,T.nv⟩
theorem Txt.gpm (T:Txt K mg C L R Y D Z):∀ c,c=R->Cls K c/\aJ K c "marks":=λc e=>by subst e;exact ⟨T.cR,T.rm⟩
theorem Txt.gpn (T:Txt K mg C L R Y D Z):∀ c,c=R->Cls K c/\aJ K c "now":=λc e=>by subst e;exact ⟨T.cR,T.rn⟩
theorem Txt.gul (T:Txt K mg C L R Y D Z):∀ c,c=Y->Cls K c/\aJ K c "layers":=λc e=>by subst e;exact ⟨T.cY,T.yl⟩
theorem Txt.gum (T:Txt K mg C L R Y D Z):∀ c,c=Y->Cls K c/\aJ K c "many":=λc e=>by subst e;exact ⟨T.cY,T.ym⟩
theorem Txt.gup (T:Txt K mg C L R Y D Z):∀ c,c=Y->Cls K c/\aJ K c "pairs":=λc e=>by subst e;exact ⟨T.cY,T.yp⟩
theorem Txt.gut (T:Txt K mg C L R Y D Z):∀ c,c=Y->Cls K c/\aJ K c "text":=λc e=>by subst e;exact ⟨T.cY,T.yt⟩
theorem Txt.guc (T:Txt K mg C L R Y D Z):∀ c,c=Y->Cls K c/\aJ K c "chosen":=λc e=>by subst e;exact ⟨T.cY,T.yc⟩
theorem Txt.gdh (T:Txt K mg C L R Y D Z):∀ c,c=D->Cls K c/\aJ K c "house":=λc e=>by subst e;exact ⟨T.cD,T.dh⟩
theorem Txt.gdl (T:Txt K mg C L R Y D Z):∀ c,c=D->Cls K c/\aJ K c "layers":=λc e=>by subst e;exact ⟨T.cD,T.dl⟩
theorem Txt.gdt (T:Txt K mg C L R Y D Z):∀ c,c=D->Cls K c/\aJ K c "typist":=λc e=>by subst e;exact ⟨T.cD,T.dt⟩
theorem Txt.gd (T:Txt K mg C L R Y D Z){m:Str}{f:Addr}(h:Meth K D m f):∀ c,c=D->Cls K c/\Meth K c m f:=λc e=>by subst e;exact ⟨T.cD,h⟩
theorem Txt.gf (T:Txt K mg C L R Y D Z){m:Str}{f:Addr}(h:Meth K C m f):∀ c,c=C->Cls K c/\Meth K c m f:=λc e=>by subst e;exact ⟨T.cl,h⟩
theorem Txt.gl (T:Txt K mg C L R Y D Z){m:Str}{f:Addr}(h:Meth K L m f):∀ c,c=L->Cls K c/\Meth K c m f:=λc e=>by subst e;exact ⟨T.cL,h⟩
theorem Txt.gp (T:Txt K mg C L R Y D Z){m:Str}{f:Addr}(h:Meth K R m f):∀ c,c=R->Cls K c/\Meth K c m f:=λc e=>by subst e;exact ⟨T.cR,h⟩
theorem Txt.gu (T:Txt K mg C L R Y D Z){m:Str}{f:Addr}(h:Meth K Y m f):∀ c,c=Y->Cls K c/\Meth K c m f:=λc e=>by subst e;exact ⟨T.cY,h⟩
def GX (Z:Zs) (c:Addr):Prop:=c=Z.N\/c=Z.T\/c=Z.A\/c=Z.S\/c=Z.H\/c=Z.W
theorem Txt.gx (T:Txt K mg C L R Y D Z):∀ c,GX Z c->XC K c:=λc e=>by
 rcases e with rfl|rfl|rfl|rfl|rfl|rfl
 ·exact XC.of T.c_NoWord
 ·exact XC.of T.c_Twice
 ·exact XC.of T.c_Absent
 ·exact XC.of T.c_NoSign
 ·exact XC.of T.c_NoChoice
 ·exact XC.of T.c_NoRow
def bN (o:O):Prop:=∃ a b c d:Int,o=.lst [.int a,.int b,.int c,.int d]
def dG:WSp:=λts S Q=>∃ p m o,ts=[.ref p,.int m]/\0<m/\m<18446744073709551616/\S p=some o/\bN o/\∀ r o',0<=r->r<m->bN o'->Q (.int r) (put S p o')
theorem GL {S:Sto}{Q:T->Sto->Prop}{p:Addr}{m:Int}{o:O}(h1:0<m) (h2:m<18446744073709551616) (e:S p=some o) (f:bN o) (h:∀ r o',0<=r->r<m->bN o'->Q (.int r) (put S p o')) :
  dG ([.ref p,.int m]++[]) S Q:=⟨p,m,o,rfl,h1,h2,e,f,h⟩
theorem DC {S:Sto}{Q:T->Sto->Prop}{p:Addr}{m:Int}{o:O}(h1:0<m) (h2:m<18446744073709551616) (f:bN o) (h:∀ r o',0<=r->r<m->bN o'->Q (.int r) (put S p o')) :
  dG ([.ref p,.int m]++[]) (put S p o) Q:=⟨p,m,o,rfl,h1,h2,aI,f,λr o' a b c=>by rw [c7];exact h r o' a b c⟩
theorem yq:FnScope ["_law_box_here","_law_many","_law_found"] vv7 (aq k9):=⟨rfl,rfl,rfl,by decide +kernel,rfl,by decide +kernel,by decide +kernel⟩
theorem DE (F:!"_law_take" k9):!1 f fd vv7 dG:=by
 exists yq
 refine ⟨_,((ak (dg (aE (aX false) (aC (aa 0) aj) aj) (dB (aa 0) aj (gN 2))) (ak (az (eF (uQ (aG hr (aC (aa 0) aj) aj) (tH (dZ bd bd (gZ aj) (aC (aa 0) aj) aj)))) (ak (dg (aC (aa 0) aj) (dB (aa 0) aj (gN 0))) (ai (dg aj (dB (aa 0) aj (gN 1))))) aF) (ak (az (aG hr (aC (aa 0) aj) aj) (ak (aD 2 nd (aE df (aC (aa 0) aj) (aa 1))) (ak (dg (aE n6 (aC (aa 0) aj) (aa 1)) (dB (aa 0) aj (gN 0))) (ai (av (aa 2))))) aF) (ak (dg (aE df (aE (aX false) (aE (aX false) (aE (fM false) (aE df (aC (aa 0) aj) aj) aj) (aE (fM false) aj (aC (aa 0) aj))) aj) aj) (dB (aa 0) aj (gN 0))) (ai (av (aE df (aE n6 (aE df (aE (fM false) (aC (aa 0) aj) aj) aj) aj) (aa 1))))))))),ax λv hu ts S Q h=>?_⟩
 obtain ⟨p,m,o,rfl,h1,h2,hp,⟨a,b,c,d,rfl⟩,hq⟩:=h
 ac_nf
 refine cu (λLR S'=>LR=[some (.ref p),some (.int m),none]/\S'=put S p (.lst [.int a,.int b,.int (c+1),.int d])) ?_ ?_
 ·intro X hX
  ext
  exact hX _ _ ⟨rfl,rfl⟩
 rintro LR S' ⟨rfl,rfl⟩
 refine cu (λLR S'=>LR=[some (.ref p),some (.int m),none]/\∃ o',bN o'/\S'=put S p o') ?_ ?_
 ·intro X hX
  exfalso
  all_goals exact hX _ _ ⟨rfl,_,⟨_,_,_,_,rfl⟩,rfl⟩
 ·rintro LR S' ⟨rfl,o',⟨a,b,c,d,rfl⟩,rfl⟩
  exfalso
  all_goals exact .mk (hq _ _ (Int.emod_nonneg _ (by omega)) (Int.emod_lt_of_pos _ h1) ⟨_,_,_,_,rfl⟩)
def ji:WSp:=λts S Q=>∃ (ns:List Int) (k:Int),ts=[.scr ns,.int k]/\0<=k/\∀ z:Int,Q (.int z) S
theorem GN {S:Sto}{Q:T->Sto->Prop}{ns:List Int}{k:Int}(h0:0<=k) (h:∀ z:Int,Q (.int z) S):ji ([.scr ns,.int k]++[]) S Q:=⟨ns,k,rfl,h0,h⟩
theorem xz:FnScope ["_law_script","_law_k","_law_seed"] dU (aq kD):=⟨rfl,rfl,rfl,by decide +kernel,rfl,by decide +kernel,by decide +kernel⟩
theorem DF (F:!"_law_cell_at" kD) (T:Txt K mg C L R Y D Z):!1 f fd dU ji:=by
 exists xz
 refine ⟨_,((ak (az (aS jY (aa 1) (aV (bv rfl) T.len PySem.boot_len (ae (aa 0) af))) (ai (av (aC (aa 0) (aa 1)))) aF) (ak (aD 2 nd aj) (ak (az (aS wG (aV (bv rfl) T.len PySem.boot_len (ae (aa 0) af)) aj) (ai (aD 2 nd (aC (aa 0) (aE df (aa 1) (aV (bv rfl) T.len PySem.boot_len (ae (aa 0) af)))))) aF) (ai (av (aE (aX false) (aE (fM false) (aE df (aE (aX false) (aE (aX false) (aE (fM false) (aE df (aa 2) aj) aj) (aE (fM false) (aa 1) aj)) aj) aj) aj) aj))))))),ax λv hu ts S Q h=>?_⟩
 obtain ⟨ns,k,rfl,h0,hq⟩:=h
 ac_nf
 refine cu (λLR S'=>LR=[some (.scr ns),some (.int k),none]/\S=S') ?_ ?_
 ·intro X hX
  exfalso
  ·refine vc h0 hb λz _ _=>?_
   ext
   exact .mk (hq _)
  ·exact hX _ _ ⟨rfl,rfl⟩
 rintro LR S' ⟨rfl,rfl⟩
 refine cu (λLR S'=>∃ z:Int,LR=[some (.scr ns),some (.int k),some (.int z)]/\S=S') ?_ ?_
 ·intro X hX
  ext
  exact hX _ _ ⟨_,rfl,rfl⟩
 rintro LR S' ⟨z,rfl,rfl⟩
 refine cu (λLR S'=>∃ z:Int,LR=[some (.scr ns),some (.int k),some (.int z)]/\S=S') ?_ ?_
 ·intro X hX
  exfalso
  ·refine vc (Int.emod_nonneg _ (by omega)) (Int.emod_lt_of_pos _ hb) λz _ _=>?_
   ext
   exact hX _ _ ⟨_,rfl,rfl⟩
  ·exact hX _ _ ⟨_,rfl,rfl⟩
 rintro LR S' ⟨z,rfl,rfl⟩
 ext
 exact .mk (hq _)
def jB:WSp:=λts S Q=>∃ (ns:List Int) (k:Int),ts=[.scr ns,.int k]/\0<=k/\∀ p o,S p=none->bN o->Q (.ref p) (put S p o)
theorem J6 {S:Sto}{Q:T->Sto->Prop}{ns:List Int}{k:Int}(h0:0<=k) (h:∀ p o,S p=none->bN o->Q (.ref p) (put S p o)):jB ([.scr ns,.int k]++[]) S Q:=⟨ns,k,rfl,h0,h⟩
theorem yT:FnScope ["_law_script","_law_k","_law_cell"] dU (aq lx):=⟨rfl,rfl,rfl,by decide +kernel,rfl,by decide +kernel,by decide +kernel⟩
theorem GP (F:!"_law_box" lx) (OK:!1 f1 LX dU ji) (OL:Df K mg "_law_cell_at" f1 LX dU) :
  !2 f fd dU jB:=by
 exists yT
 refine ⟨_,((ak (aD 2 nd (aA OK OL hr.m (ae (aa 0) (ae (aa 1) af)))) (ai (av (m3 (ae (aE n6 (aa 2) aj) (ae (aE df (aa 2) aj) (ae aj (ae (aa 2) af))))))))),ax λv hu ts S Q h=>?_⟩
 obtain ⟨ns,k,rfl,h0,hq⟩:=h
 ac_nf
 ext
 exact λp hp=>.mk (hq p _ hp ⟨_,_,_,_,rfl⟩)
def iZ:WSp:=λts S Q=>∃ c:Nat,ts=[.str ⟨#[c]⟩]/\Q (.bl (Sc.isL c)) S
theorem Bp {S:Sto}{Q:T->Sto->Prop}{c:Nat}(h:Q (.bl (Sc.isL c)) S):iZ ([.str ⟨#[c]⟩]++[]) S Q:=⟨c,rfl,h⟩
theorem x4:FnScope ["sign"] ["sign"] (aq kN):=⟨rfl,rfl,rfl,by decide +kernel,rfl,by decide +kernel,by decide +kernel⟩
theorem zY (F:!"is_letter" kN):!1 f fd ["sign"] iZ:=by
 exists x4
 refine ⟨_,((ai (av (i7 bd bd ag (aa 0) ag)))),ax λv hu ts S Q h=>?_⟩
 obtain ⟨c,rfl,hq⟩:=h
 rw [<- Wm.Gw] at hq
 ac_nf
 ext
 refine ifB (λhb=>?_) λhb=>?_
 ·ext
  rw [hb,Bool.true_and] at hq
  exact .mk hq
 ·rw [hb,Bool.false_and] at hq
  exact .mk hq
def mi:WSp:=λts S Q=>∃ z:Str,ts=[.str z]/\z.length<=1000/\Q (.bl (Sc.isP (Tm.tl z))) S
theorem Bq {S:Sto}{Q:T->Sto->Prop}{z:Str}(h0:z.length<=1000) (h:Q (.bl (Sc.isP (Tm.tl z))) S):mi ([.str z]++[]) S Q:=⟨z,rfl,h0,h⟩
theorem yU:FnScope ["text"] ["text"] (aq lh):=⟨rfl,rfl,rfl,by decide +kernel,rfl,by decide +kernel,by decide +kernel⟩
theorem zZ (F:!"is_part" lh) (T:Txt K mg C L R Y D Z) (NN:!1 f1 LX ["sign"] iZ) (NO:Df K mg "is_letter" f1 LX ["sign"]) :
  !2 f fd ["text"] mi:=by
 exists yU
 refine ⟨_,((ai (av (d7 (i7 bd bd aj (aV (bv rfl) T.len PySem.boot_len (ae (aa 0) af)) (bK (n:=12) (by rfl) T.c_MOST_LETTERS)) (cU (aV (og rfl rfl) T.all PyProof.Rows.boot_all (ae (dH false ["sign"] 1 [] rfl (m5 (aa 0)) (λ_ _ _ _=>(bp 0 (show List.Nodup (["sign"]:List Str) from by decide +kernel))) (λ_ _ _ _=>d4) (λ_ _ _ _=>(aA NN NO hr.m (ae (aa 0) af)))) af))))))),ax λv hu ts S Q h=>?_⟩
 obtain ⟨z,rfl,hz,hq⟩:=h
 have e:Sc.isP (Tm.tl z)=(decide (1<=(z.length:Int))&&decide ((z.length:Int)<=12)&&(Tm.tl z).all Sc.isL):=by
  unfold Sc.isP
  rw [Tm.len]
  congr 1
  congr 1
  ·rw [Bool.eq_iff_iff];simp only [decide_eq_true_eq];omega
  ·rw [Bool.eq_iff_iff];simp only [decide_eq_true_eq];omega
 rw [e] at hq
 ac_nf
 ext
 refine ifB (λhb=>?_) λhb=>?_
 ·rw [hb,Bool.true_and] at hq
  ext
  refine ifB (λhb=>?_) λhb=>?_
  ·rw [hb,Bool.true_and] at hq
   ext
   refine eT (ls:=Tm.tl z) (λc=>T2.T.str ⟨#[c]⟩) (λc=>some (.bl (Sc.isL c))) [] ?_ ?_ (λx hx u LU N Nf hN=>?_) ?_
   ·trivial
   ·rw [Tm.len,sizeLine_eq];omega
   ·ext
    exact ⟨Nf,hN _⟩
   ·ext
    refine m6 (bs:=(Tm.tl z).map Sc.isL) (by rw [<- Wm.all_map,List.map_map];rw [Wm.mM];rfl) ?_
    rw [List.all_map]
    exact .mk hq
  ·rw [hb,Bool.false_and] at hq
   exact .mk hq
 ·rw [hb,Bool.false_and,Bool.false_and] at hq
  ext
  exact .mk hq
def gw:WSp:=λts S Q=>∃ z:Str,ts=[.str z]/\z.length<=1000/\Q (.bl (Wm.Wd z)) S
theorem yV:FnScope ["thing","parts"] ["thing"] (aq lj):=⟨rfl,rfl,rfl,by decide +kernel,rfl,by decide +kernel,by decide +kernel⟩
theorem z0 (F:!"is_word" lj) (T:Txt K mg C L R Y D Z) (Ri:!2 f1 LX ["text"] mi) (Rj:Df K mg "is_part" f1 LX ["text"]) :
  !3 f fd ["thing"] gw:=by
 exists yV
 refine ⟨_,((ak (az (eF (ia (bt (bg (aV (u6 rfl) T.isinstance PyProof.Rows.boot_isinstance (ae (aa 0) (ae (o9 (n:="str") (by rfl) T.str PyProof.Rows.boot_str) af))))) (gW (aS wG (aV (bv rfl) T.len PySem.boot_len (ae (aa 0) af)) (bK (n:=24) (by rfl) T.c_MOST_SIGNS))))) (ai (av bx)) aF) (ak (aD 1 nd (bF PySem.F.plainAttrs_str PySem.F.slot_str_split PySem.F.type_str_split (CH false) (aa 0) (ae ag af))) (ai (av (d7 (ci bd (aV (bv rfl) T.len PySem.boot_len (ae (aa 1) af)) (bK (n:=4) (by rfl) T.c_MOST_PARTS)) (cU (aV (og rfl rfl) T.all PyProof.Rows.boot_all (ae (dH false ["part"] 1 [] rfl (d3 rfl (aa 1)) (λ_ _ _ _=>(bp 0 (show List.Nodup (["part"]:List Str) from by decide +kernel))) (λ_ _ _ _=>d4) (λ_ _ _ _=>(aA Ri Rj hr.m (ae (aa 0) af)))) af))))))))),ax λv hu ts S Q h=>?_⟩
 obtain ⟨z,rfl,hz,hq⟩:=h
 ac_nf
 ·unfold Wm.Wd at hq
  ext
  refine ifB (λhb=>?_) λhb=>?_
  ·ext
   have hb:=of_decide_eq_true hb
   rw [decide_eq_false (by omega),Bool.false_and] at hq
   exact .mk hq
  ·have hb:=of_decide_eq_false hb
   rw [decide_eq_true (by omega),Bool.true_and,Wm.yQ] at hq
   have hsl:=PyProof.Rows.split_le z " "
   ext
   refine ifB (λhb=>?_) λhb=>?_
   ·have hb:=of_decide_eq_true hb
    rw [decide_eq_true (by omega),Bool.true_and] at hq
    ext
    refine eT (ls:=Txt.split z " ") T2.T.str (λp=>some (.bl (Sc.isP (Tm.tl p)))) [] ?_ ?_ (λx hx u LU N Nf hN=>?_) ?_
    ·trivial
    ·rw [sizeLine_eq];omega
    ·have hxl:=Tm.zK hx
     ext
     exact ⟨Nf,hN _⟩
    ·ext
     refine m6 (bs:=(Txt.split z " ").map λp=>Sc.isP (Tm.tl p)) (by rw [<- Wm.all_map,List.map_map];rw [Wm.mM];rfl) ?_
     rw [List.all_map]
     exact .mk hq
   ·have hb:=of_decide_eq_false hb
    rw [decide_eq_false (by omega),Bool.false_and] at hq
    exact .mk hq
def e9:WSp:=λts S Q=>∃ (m:Int×Int) (O3:Int),ts=[mkT m,.int O3]/\m.2<=O3/\Q (.int (wrt m O3)) S
theorem DD {S:Sto}{Q:T->Sto->Prop}{m:Int×Int}{O3:Int}(h0:m.2<=O3) (h:Q (.int (wrt m O3)) S):e9 ([mkT m,.int O3]++[]) S Q:=⟨m,O3,rfl,h0,h⟩
theorem yr:FnScope dD dD (aq kZ):=⟨rfl,rfl,rfl,by decide +kernel,rfl,by decide +kernel,by decide +kernel⟩
theorem Br (F:!"worth_at" kZ):!1 f fd dD e9:=by
 exists yr
 refine ⟨_,((ai (av (aE IB (aC (aa 0) aj) (aE uZ (aa 1) (aC (aa 0) aj)))))),ax λv hu ts S Q h=>?_⟩
 obtain ⟨m,O3,rfl,h0,hq⟩:=h
 ac_nf
 unfold mkT
 ext
 exact .mk hq
def gH:WSp:=λts S Q=>∃ (m:Int×Int) (O3 n:Int),ts=[mkT m,.int O3,.int n]/\m.2<=O3/\Q (mkT (wrt m O3+n,O3)) S
theorem GO {S:Sto}{Q:T->Sto->Prop}{m:Int×Int}{O3 n:Int}(h0:m.2<=O3) (h:Q (mkT (wrt m O3+n,O3)) S):gH ([mkT m,.int O3,.int n]++[]) S Q:=⟨m,O3,n,rfl,h0,h⟩
theorem x5:FnScope dW dW (aq kO):=⟨rfl,rfl,rfl,by decide +kernel,rfl,by decide +kernel,by decide +kernel⟩
theorem DG (F:!"used_mark" kO) (MW:!1 f1 LX dD e9) (MX:Df K mg "worth_at" f1 LX dD):!2 f fd dW gH:=by
 exists x5
 refine ⟨_,((ai (av (aY (ae (aE (aX false) (aA MW MX hr.m (ae (aa 0) (ae (aa 1) af))) (aa 2)) (ae (aa 1) af)))))),ax λv hu ts S Q h=>?_⟩
 obtain ⟨m,O3,n,rfl,h0,hq⟩:=h
 ac_nf
 ext
 exact .mk hq
abbrev Ms:=List (Str×Int×Int)
structure Wo (C:Addr) (S:Sto) (p d:Addr) (n:Int) (ms:Ms):Prop where
 ins:S p=some (.ins C [("marks",.ref d),("now",.int n)])
 dct:S d=some (.dK (kt mkT ms))
theorem Wo.ne {S:Sto}{p d:Addr}{n:Int}{ms:Ms}(h:Wo C S p d n ms):p≠d:=λe=>by
 have:=h.ins
 rw [e,h.dct] at this;cases this
def nC (C:Addr):WSp:=λts S Q=>∃ p,ts=[.ref p]/\S p=some (.ins C [])/\∀ d,S d=none->Q .non (put (put S d (.dK [])) p (.ins C [("marks",.ref d),("now",.int 0)]))
theorem x6:FnScope vv1 vv1 (aq kP):=⟨rfl,rfl,rfl,by decide +kernel,rfl,by decide +kernel,by decide +kernel⟩
theorem DH (F:!"__init__" "Wood.__init__" kP) (T:Txt K mg C L R Y D Z):!1 f fd vv1 (nC C):=by
 exists x6
 refine ⟨_,((ak (bE rfl T.gm (aa 0) t4) (ai (bE rfl T.gn (aa 0) aj)))),ax λv hu ts S Q h=>?_⟩
 obtain ⟨p,rfl,hp,hq⟩:=h
 ac_nf
 ext
 intro d hd
 have PL:p≠d:=λe=>by rw [e,hd] at hp;cases hp
 ext
 refine d8 aI rfl (Nat.le_of_ble_eq_true rfl) ?_
 rw [c7]
 exact .mk (hq d hd)
def ju (C:Addr):WSp:=λts S Q=>∃ p d n ms z m,ts=[.ref p,.str z]/\Wo C S p d n ms/\look ms z=some m/\Q (mkT m) S
theorem uo {S:Sto}{Q:T->Sto->Prop}{p d:Addr}{n:Int}{ms:Ms}{z:Str}{m:Int×Int}(h1:Wo C S p d n ms) (h2:look ms z=some m) (h:Q (mkT m) S):ju C ([.ref p,.str z]++[]) S Q:=⟨p,d,n,ms,z,m,rfl,h1,h2,h⟩
theorem pG:FnScope vv0 vv0 (aq iG):=⟨rfl,rfl,rfl,by decide +kernel,rfl,by decide +kernel,by decide +kernel⟩
theorem DI (F:!"mark_of" "Wood.mark_of" iG) (T:Txt K mg C L R Y D Z):!1 f fd vv0 (ju C):=by
 exists pG
 refine ⟨_,((ak (az (aS (eX w rfl) (aa 1) (ap T.gm (aa 0)) (by with_unfolding_all rfl)) (ai bf) aF) (ai (av (LC w (ap T.gm (aa 0)) (aa 1)))))),ax λv hu ts S Q h=>?_⟩
 obtain ⟨p,d,n,ms,z,m,rfl,⟨hw,hd⟩,hm,hq⟩:=h
 have hv:aQ (kt mkT ms) (Sum.inr z)=some (mkT m):=by rw [bL,hm];rfl
 ac_nf
 ext
 refine bZ hd rfl ?_
 rw [hv]
 subst_eqs
 ext
 refine JG hd rfl hv ?_
 exact .mk hq
def oB (C:Addr):WSp:=λts S Q=>∃ p d n ms z c,ts=[.ref p,.str z,.int c]/\Wo C S p d n ms/\ms.length<=100/\Wm.Wd z=true/\look ms z=none/\Q .non (put S d (.dK (kt mkT (ms++[(z,c,n)]))))
theorem p9:FnScope vv2 vv2 (aq iR):=⟨rfl,rfl,rfl,by decide +kernel,rfl,by decide +kernel,by decide +kernel⟩
theorem GQ (F:!"put" "Wood.put" iR) (T:Txt K mg C L R Y D Z) (Mp:!3 f1 LX ["thing"] gw) (Mq:Df K mg "is_word" f1 LX ["thing"]):!4 f fd vv2 (oB C):=by
 exists p9
 refine ⟨_,((ak (az (bt (bg (aA Mp Mq hr.m (ae (aa 1) af)))) (ai bf) aF) (ak (az (aS (dL w rfl) (aa 1) (ap T.gm (aa 0)) (by with_unfolding_all rfl)) (ai bf) aF) (ai (dg (aY (ae (aa 2) (ae (ap T.gn (aa 0)) af))) (dB (ap T.gm (aa 0)) (aa 1) (nj (eg hr)))))))),ax λv hu ts S Q h=>?_⟩
 obtain ⟨p,d,n,ms,z,c,rfl,⟨hw,hd⟩,hl,hz,hm,hq⟩:=h
 have hv:aQ (kt mkT ms) (Sum.inr z)=none:=by rw [bL,hm];rfl
 have hzl:=Wm.ue hz
 ac_nf
 ext
 refine ⟨z,rfl,by omega,?_⟩
 rw [hz]
 ext
 refine bZ hd rfl ?_
 rw [hv]
 subst_eqs
 ext
 refine nr hd rfl (by rw [nB,sizeLine_eq];omega) ?_
 rw [show (T2.T.tup [.int c,.int n])=mkT (c,n) from rfl,nA,ui _ (cP.mp hm)]
 exact .mk hq
def oF (C:Addr):WSp:=λts S Q=>∃ p d n ms z c m,ts=[.ref p,.str z,.int c]/\Wo C S p d n ms/\ms.length<=100/\look ms z=some m/\m.2<=n/\Q .non (put S d (.dK (kt mkT (pu ms z (wrt m n+c,n)))))
theorem qa:FnScope vv3 vv3 (aq iS):=⟨rfl,rfl,rfl,by decide +kernel,rfl,by decide +kernel,by decide +kernel⟩
theorem GR (F:!"use" "Wood.use" iS) (T:Txt K mg C L R Y D Z) (NP:!2 f1 LX dW gH) (MG:Df K mg "used_mark" f1 LX dW)
  (MY:!1 f2 M9 vv0 (ju C)) (L7:Meth K C "mark_of" f2) (L8:ao K M9 vv0 []):!3 f fd vv3 (oF C):=by
 exists qa
 refine ⟨_,((ai (dg (aA NP MG hr.m (ae (aL (T.gf L7) MY L8 hr.m (aa 0) (ae (aa 1) af)) (ae (ap T.gn (aa 0)) (ae (aa 2) af)))) (dB (ap T.gm (aa 0)) (aa 1) (nj (eg hr)))))),ax λv hu ts S Q h=>?_⟩
 obtain ⟨p,d,n,ms,z,c,m,rfl,⟨hw,hd⟩,hl,hm,hn,hq⟩:=h
 ac_nf
 ext
 refine uo ⟨hw,hd⟩ hm ?_
 ext
 refine nr hd rfl (by rw [nB,sizeLine_eq];omega) ?_
 rw [nA]
 exact .mk hq
def mj (C:Addr):WSp:=λts S Q=>∃ p d n ms z m,ts=[.ref p,.str z]/\Wo C S p d n ms/\look ms z=some m/\Q .non (put S d (.dK (kt mkT (dr ms z))))
theorem pH:FnScope vv0 vv0 (aq iH):=⟨rfl,rfl,rfl,by decide +kernel,rfl,by decide +kernel,by decide +kernel⟩
theorem z3 (F:!"strike" "Wood.strike" iH) (T:Txt K mg C L R Y D Z)
  (MY:!1 f2 M9 vv0 (ju C)) (L7:Meth K C "mark_of" f2) (L8:ao K M9 vv0 []):!2 f fd vv0 (mj C):=by
 exists pH
 refine ⟨_,((ak (aR (aL (T.gf L7) MY L8 hr.m (aa 0) (ae (aa 1) af))) (ai (aR (bF PySem.F.plainAttrs_dict PySem.F.slot_dict_pop PySem.F.type_dict_pop tZ (ap T.gm (aa 0)) (ae (aa 1) af)))))),ax λv hu ts S Q h=>?_⟩
 obtain ⟨p,d,n,ms,z,m,rfl,⟨hw,hd⟩,hm,hq⟩:=h
 have hv:aQ (kt mkT ms) (Sum.inr z)=some (mkT m):=by rw [bL,hm];rfl
 ac_nf
 ext
 refine uo ⟨hw,hd⟩ hm ?_
 ext
 refine t5 hd rfl hv ?_
 rw [sD]
 exact .mk hq
def nD (C:Addr):WSp:=λts S Q=>∃ p d n ms c,ts=[.ref p,.int c]/\Wo C S p d n ms/\Q .non (put S p (.ins C [("marks",.ref d),("now",.int (n+c))]))
theorem x8:FnScope vv5 vv5 (aq kQ):=⟨rfl,rfl,rfl,by decide +kernel,rfl,by decide +kernel,by decide +kernel⟩
theorem DJ (F:!"fade" "Wood.fade" kQ) (T:Txt K mg C L R Y D Z):!1 f fd vv5 (nD C):=by
 exists x8
 refine ⟨_,((ai (qD rfl T.gn (aa 0) (aa 1)))),ax λv hu ts S Q h=>?_⟩
 obtain ⟨p,d,n,ms,c,rfl,⟨hw,hd⟩,hq⟩:=h
 ac_nf
 ext
 exact .mk hq
theorem Bs {S:Sto}{a:Addr}{o:O}(h:S a=some o):put S a o=S:=by
 funext b
 by_cases e:b=a
 ·subst e;rw [aI,h]
 ·rw [ay e]
theorem iV {α:Type}{grd:Sto->Prop}{g:WG}{tt:WT}{te:WE}{Q:List T2.T->Sto->Prop}(f:α->T2.T) (φ:α->Option T2.T) (cs:StT){ls:List α}{S:Sto}(hg:grd S) (hz:ls.length<=sizeLine)
  (step:∀ a∈ls,∀ (u v:Option T2.T) (LU:List T2.T) (N:List T2.T->StT->Sto->Prop),LU.length<sizeLine->(∀ u' v',N (LU++(φ a).toList) (u'::v'::cs) S) ->
   g (f a) (u::v::cs) S λMR S2=>tt MR S2 λb S3=>if b=true then te MR S3 λy S4=>LU.length<sizeLine/\N (LU++[y]) MR S4 else N LU MR S3)
  (done:Q (ls.filterMap φ) S):cV grd g tt te Q (ls.map f) [] (none::none::cs) S:=by
 refine lN (λitems LU LR S'=>∃ pre O1 u v,ls=pre++O1/\items=O1.map f/\LU=pre.filterMap φ/\LR=u::v::cs/\S'=S) ⟨[],ls,none,none,rfl,rfl,rfl,rfl,rfl⟩ ?_ ?_
 ·rintro t ts LU LR S' N ⟨pre,O1,u,v,e,e2,rfl,rfl,rfl⟩ hN
  cases O1 with
  |nil=>cases e2
  |cons a r =>
   simp only [List.map_cons,List.cons.injEq] at e2
   obtain ⟨rfl,rfl⟩:=e2
   refine ⟨hg,step a (by rw [e];simp) u v _ N ?_ λu' v'=>hN _ _ _ ⟨pre++[a],r,u',v',by rw [e];simp,rfl,?_,rfl,rfl⟩⟩
   ·have h1:=List.length_filterMap_le φ pre
    have h2:ls.length=pre.length+(r.length+1):=by rw [e];simp
    omega
   ·rw [List.filterMap_append];cases h:φ a<;>simp [h]
 ·rintro LU LR S' ⟨pre,O1,u,v,e,e2,rfl,rfl,rfl⟩
  have:O1=[]:=by cases O1 with|nil=>rfl|cons _ _=>cases e2
  subst this
  rw [List.append_nil] at e
  subst e
  exact ⟨hg,done⟩
def fU (ms:Ms) (b:Str):Ms:=ms.filter λa=>PySem.Txt.startswith a.1 b
def rtd (ms:Ms) (n:Int) (b:Str):List Rt:=(fU ms b).map λa=>(a.1,wrt a.2 n)
theorem jv {ms:Ms}{n:Int}{b:Str}(h:(ms.map (·.1)).Nodup):(rtd ms n b).Nodup:=by
 refine Bn ?_
 unfold rtd fU
 rw [List.map_map]
 exact (List.Sublist.map _ (List.filter_sublist)).nodup h
theorem je (ms:Ms) (n:Int) (b:Str):(rtd ms n b).length<=ms.length:=by
 unfold rtd fU
 rw [List.length_map];exact List.length_filter_le _ _
def mP (C:Addr):WSp:=λts S Q=>∃ p d n ms b,ts=[.ref p,.str b]/\Wo C S p d n ms/\ms.length<=100/\(∀ a∈ms,a.2.2<=n)/\Q (.lst ((rtd ms n b).map rt)) S
theorem xL:FnScope cN cN (aq kE):=⟨rfl,rfl,rfl,by decide +kernel,rfl,by decide +kernel,by decide +kernel⟩
theorem Bt (F:!"begun" "Wood.begun" kE) (T:Txt K mg C L R Y D Z) (MW:!1 f1 LX dD e9) (MX:Df K mg "worth_at" f1 LX dD):!2 f fd cN (mP C):=by
 exists xL
 refine ⟨_,((ai (av (JC w rfl (dH false vv23 2 [0,1] rfl (C9 w rfl rfl (ap T.gm (aa 0))) (λ_ _ _ _=>(gK (λh=>gB (n:=2) rfl rfl h) (cz (bp 0 (show List.Nodup (vv23:List Str) from by decide +kernel)) (cz (bp 1 (show List.Nodup (vv23:List Str) from by decide +kernel)) gC (λh1 h2=>cy h1 h2)) (λh1 h2=>cy h1 h2)))) (λ_ _ _ _=>(ja (bg (bF PySem.F.plainAttrs_str PySem.F.slot_str_startswith PySem.F.type_str_startswith lZ (aa 0) (ae (aa 3) af))))) (λ_ _ _ _=>(aY (ae (aa 0) (ae (aA MW MX hr.m (ae (aa 1) (ae (ap T.gn (aa 2)) af))) af))))))))),ax λv hu ts S Q h=>?_⟩
 obtain ⟨p,d,n,ms,b,rfl,W,hl,hn,hq⟩:=h
 have hw:=W.ins
 have hd:=W.dct
 have hpd:=W.ne
 ac_nf
 ext
 intro od kvs
 rw [show (kt mkT ms).map jJ=ms.map (λa=>T2.T.tup [.str a.1,mkT a.2]) by unfold kt;rw [List.map_map];rfl]
 refine iV (λa:Str×Int×Int=>T2.T.tup [.str a.1,mkT a.2]) (λa=>if PySem.Txt.startswith a.1 b=true then some (rt (a.1,wrt a.2 n)) else none) [some (.ref p),some (.str b)] aI (by rw [sizeLine_eq];omega) (λa ha u v LU N Nf hN=>?_) ?_
 ·have hn1:=hn a ha
  ext
  refine ifB (λhb=>?_) λhb=>?_
  ·ext
   rw [if_pos hb] at hN
   exact ⟨Nf,hN _ _⟩
  ·rw [hb] at hN
   have:=hN (some (.str a.1)) (some (mkT a.2))
   rw [if_neg (by decide),Option.toList_none,List.append_nil] at this
   exact this
 rw [show (ms.filterMap λa=>if PySem.Txt.startswith a.1 b=true then some (rt (a.1,wrt a.2 n)) else none)=(rtd ms n b).map rt by
  unfold rtd fU
  clear hd hl hn hq W
  induction ms with
  |nil=>rfl
  |cons a l ih =>
   rw [List.filterMap_cons,List.filter_cons]
   by_cases e:PySem.Txt.startswith a.1 b=true
   ·rw [if_pos e,if_pos e];simp only [List.map_cons,ih]
   ·rw [if_neg e,if_neg e];exact ih]
 ext
 refine Lw aI ?_
 rw [c7,Bs hd]
 exact .mk hq
def jK (C:Addr):WSp:=λts S Q=>∃ p d n ms z,ts=[.ref p,.str z]/\Wo C S p d n ms/\Q (.bl (look ms z).isSome) S
theorem yu:FnScope vv0 vv0 (aq k6):=⟨rfl,rfl,rfl,by decide +kernel,rfl,by decide +kernel,by decide +kernel⟩
theorem GU (F:!"has" "Wood.has" k6) (T:Txt K mg C L R Y D Z):!1 f fd vv0 (jK C):=by
 exists yu
 refine ⟨_,((ai (av (ci (dL w rfl) (aa 1) (ap T.gm (aa 0)) (by with_unfolding_all rfl))))),ax λv hu ts S Q h=>?_⟩
 obtain ⟨p,d,n,ms,z,rfl,⟨hw,hd⟩,hq⟩:=h
 ac_nf
 ext
 refine bZ hd rfl ?_
 rw [bL,Option.isSome_map,Bool.false_xor]
 exact .mk hq
noncomputable def kyW (a:Rt):Ky:=.cons (.s a.1) (.cons (.i a.2) .nil)
noncomputable def unW:T2.T->Ky
 |.tup [.str z,.int i]=>.cons (.s z) (.cons (.i i) .nil)
 |_=>.nil
def pf (l:List Rt):Prop:=(l.map (·.1)).Pairwise λx y=>Ky.lt (.s y) (.s x)=false
theorem Bu (ms:Ms) (n:Int):rtd ms n ""=ms.map λa=>(a.1,wrt a.2 n):=by
 unfold rtd fU
 rw [List.filter_eq_self.mpr λa _=>?_]
 rw [Tm.pX]
 refine decide_eq_true ?_
 have e:=Tm.gj a.1 0
 have:Tm.tl (PySem.Txt.slice a.1 none (some 0))=Tm.tl (Str.ofString ""):=by
  rw [show (some (0:Int))=some ((0:Nat):Int) from rfl,e];rfl
 cases h:PySem.Txt.slice a.1 none (some (((Str.ofString "").length:Nat):Int)) with
 |mk cps =>
  have h2:PySem.Txt.slice a.1 none (some 0)=⟨cps⟩:=h
  rw [h2] at this
  show (⟨cps⟩:Str)=⟨#[]⟩
  congr 1
  exact Array.toList_inj.mp this
def rD (C:Addr):WSp:=λts S Q=>∃ p d n ms,ts=[.ref p]/\Wo C S p d n ms/\ms.length<=60/\(∀ a∈ms,a.2.2<=n)/\(ms.map (·.1)).Nodup/\(∀ a∈ms,Wm.Wd a.1=true)/\∀ l:List Rt,l.Perm (ms.map λa=>(a.1,wrt a.2 n))->pf l->Q (.lst (l.map rt)) S
theorem xM:FnScope vv1 vv1 (aq kF):=⟨rfl,rfl,rfl,by decide +kernel,rfl,by decide +kernel,by decide +kernel⟩
theorem z4 (F:!"words" "Wood.words" kF) (T:Txt K mg C L R Y D Z)
  (MO:!2 f2 M9 cN (mP C)) (MP:Meth K C "begun" f2) (MQ:ao K M9 cN []):!4 f fd vv1 (rD C):=by
 exists xM
 refine ⟨_,((ai (av (aV (FU false rfl hr.m) T.sorted PyProof.Rows.boot_sorted (ae (aL (T.gf MP) MO MQ hr.m (aa 0) (ae ag af)) af))))),ax λv hu ts S Q h=>?_⟩
 obtain ⟨p,d,n,ms,rfl,W,hl,hn,hnd,hwd,hq⟩:=h
 have hw:=W.ins
 ac_nf
 ext
 refine ⟨p,d,n,ms,_,rfl,W,by omega,hn,?_⟩
 rw [Bu]
 ext
 refine FV (ls:=ms.map λa=>(a.1,wrt a.2 n)) kyW unW (.cons (.s ⟨#[]⟩) (.cons (.i 0) .nil)) rfl (λa _=>rfl) (by rw [List.length_map];omega) rfl (by decide) (λa ha=>⟨?_,rfl⟩) λl' hp hs=>?_
 ·obtain ⟨x,hx,rfl⟩:=List.mem_map.mp ha
  have:=Wm.g8 (hwd x hx)
  simp [kyW,S6.Ky.ok,S6.Ky.ok.isRow,this]
 ·refine .mk (hq l' hp ?_)
  have TQ:(l'.map (·.1)).Nodup:=(hp.map _).nodup_iff.mpr (by rw [List.map_map];exact hnd)
  unfold pf
  unfold List.Nodup at TQ
  rw [List.pairwise_map] at TQ ⊢
  refine (hs.and TQ).imp fun {x y} q=>?_
  have q1:Ky.lt (kyW y) (kyW x)=false:=q.1
  unfold kyW Ky.lt at q1
  rw [if_neg (λe=>q.2 (Ky.s.inj e).symm)] at q1
  exact q1
def jw:WSp:=λts S Q=>∃ a:Rt,ts=[rt a]/\Q (tre (ky a)) S
theorem ul {S:Sto}{Q:T->Sto->Prop}{a:Rt}(h:Q (tre (ky a)) S):jw ([rt a]++[]) S Q:=⟨a,rfl,h⟩
theorem yv:FnScope ["pair"] ["pair"] (aq kY):=⟨rfl,rfl,rfl,by decide +kernel,rfl,by decide +kernel,by decide +kernel⟩
theorem DK (F:!"rank_key" kY):!1 f fd ["pair"] jw:=by
 exists yv
 refine ⟨_,((ai (av (aY (ae (gZ (aC (aa 0) aj)) (ae (aC (aa 0) aj) af)))))),ax λv hu ts S Q h=>?_⟩
 obtain ⟨a,rfl,hq⟩:=h
 rw [nz] at hq
 ac_nf
 unfold rt
 ext
 exact .mk hq
def nE:WSp:=λts S Q=>∃ (x:T2.T) (l:List Rt) (m:Int),ts=[x,.int m]/\aN S x=some (l.map rt)/\l.length<64/\l.Nodup/\0<=m/\Q (.lst (((bst l).take m.toNat).map rt)) S
theorem yW:FnScope iz iz (aq lf):=⟨rfl,rfl,rfl,by decide +kernel,rfl,by decide +kernel,by decide +kernel⟩
theorem DL (F:!"best_of" lf) (T:Txt K mg C L R Y D Z) (N0:!1 f1 LX ["pair"] jw) (N1:Df K mg "rank_key" f1 LX ["pair"]):!4 f fd iz nE:=by
 exists yW
 refine ⟨_,((ai (av (bJ false rfl (sk false rfl N0 N1 hr.m (by rfl) T.sorted (by rfl) (ae (aa 0) af)) bH (bI (aa 1)))))),ax λv hu ts S Q h=>?_⟩
 obtain ⟨x,l,m,rfl,hv,PM,hn,hm,hq⟩:=h
 ac_nf
 ext
 refine sm kyT (ky ("",0)) hv PM rfl (by decide) (λa ha=>⟨rfl,rfl,λS' Q' q=>⟨a,rfl,q⟩⟩) λl' p hs=>?_
 rw [zW hn p hs]
 ext
 rw [sf hm]
 exact .mk hq
def mQ (C XA:Addr):aU:=λts S R=>∃ p d n ms z,ts=[.ref p,.str z]/\Wo C S p d n ms/\look ms z=none/\z.length<=1000/\PyData.strOk z=true/\R XA S
theorem DM (F:!"mark_of" "Wood.mark_of" iG) (T:Txt K mg C L R Y D Z):FnOk P w K mg base (CX1 P w) 1 f fd vv0 (aH K (mQ C Z.A)):=by
 exists pG
 refine ⟨_,((aw (aT (aS (eX w rfl) (aa 1) (ap T.gm (aa 0)) (by with_unfolding_all rfl)) (aw (bS T.x_Absent T.k_Absent rfl (by rfl) T.mg_Absent (ae (dS (aa 1)) af))) bC))),bo λv hu ts S Q h=>?_⟩
 obtain ⟨p,d,n,ms,z,rfl,⟨hw,hd⟩,hm,hz,PB,hq⟩:=h
 have hv:aQ (kt mkT ms) (Sum.inr z)=none:=by rw [bL,hm];rfl
 ac_nf
 ext
 refine bZ hd rfl ?_
 rw [hv]
 subst_eqs
 ext
 refine ⟨z,rfl,hz,PB,λe=>?_⟩
 ext
 exact ⟨Nat.le_of_ble_eq_true rfl,.mk hq⟩
def nF (C XN XT:Addr):aU:=λts S R=>∃ p d n ms z c,ts=[.ref p,.str z,.int c]/\Wo C S p d n ms/\z.length<=1000/\PyData.strOk z=true/\(Wm.Wd z=false/\R XN S\/Wm.Wd z=true/\(∃ m,look ms z=some m)/\R XT S)
theorem GV (F:!"put" "Wood.put" iR) (T:Txt K mg C L R Y D Z) (Mp:!3 f1 LX ["thing"] gw) (Mq:Df K mg "is_word" f1 LX ["thing"]):FnOk P w K mg base (CX1 P w) 4 f fd vv2 (aH K (nF C Z.N Z.T)):=by
 exists p9
 refine ⟨_,((cQ (aw (aT (bt (bg (aA Mp Mq hr.m (ae (aa 1) af)))) (aw (bS T.x_NoWord T.k_NoWord rfl (by rfl) T.mg_NoWord (ae (dS (aa 1)) af))) bC)) (bD (az (bt (bg (aA Mp Mq hr.m (ae (aa 1) af)))) (ai bf) aF) (aw (aT (aS (dL w rfl) (aa 1) (ap T.gm (aa 0)) (by with_unfolding_all rfl)) (aw (bS T.x_Twice T.k_Twice rfl (by rfl) T.mg_Twice (ae (dS (aa 1)) af))) bC))))),bo λv hu ts S Q h=>?_⟩
 obtain ⟨p,d,n,ms,z,c,rfl,⟨hw,hd⟩,hz,PB,h⟩:=h
 ac_nf
 rcases h with ⟨hm,hq⟩|⟨hm,⟨m,hl⟩,hq⟩
 ·refine cF (dA ?_)
  ext
  refine ⟨z,rfl,hz,?_⟩
  rw [hm]
  ext
  refine ⟨z,rfl,hz,PB,λe=>?_⟩
  ext
  exact ⟨Nat.le_of_ble_eq_true rfl,.mk hq⟩
 ·have hv:aQ (kt mkT ms) (Sum.inr z)=some (mkT m):=by rw [bL,hl];rfl
  refine cG (cA ?_)
  ext
  refine ⟨z,rfl,hz,?_⟩
  rw [hm]
  ext
  refine bZ hd rfl ?_
  rw [hv]
  subst_eqs
  ext
  refine ⟨z,rfl,hz,PB,λe=>?_⟩
  ext
  exact ⟨Nat.le_of_ble_eq_true rfl,.mk hq⟩
def nG (C XA:Addr):aU:=λts S R=>∃ p d n ms z c,ts=[.ref p,.str z,.int c]/\Wo C S p d n ms/\look ms z=none/\z.length<=1000/\PyData.strOk z=true/\R XA S
theorem GW (F:!"use" "Wood.use" iS) (T:Txt K mg C L R Y D Z) (MG:Df K mg "used_mark" f1 LX dW)
  (MZ:FnOk P w K mg base (CX1 P w) 1 f2 M9 vv0 (aH K (mQ C Z.A))) (L7:Meth K C "mark_of" f2) (L8:ao K M9 vv0 []):FnOk P w K mg base (CX1 P w) 3 f fd vv3 (aH K (nG C Z.A)):=by
 exists qa
 refine ⟨_,((aw (Gp (Be MG (by rfl) (gr (bn (T.gf L7) MZ L8 hr.m (aa 0) (ae (aa 1) af))))))),bo λv hu ts S Q h=>?_⟩
 obtain ⟨p,d,n,ms,z,c,rfl,W,hm,hz,PB,hq⟩:=h
 have hw:=W.ins
 ac_nf
 ext
 exact ⟨p,d,n,ms,z,rfl,W,hm,hz,PB,.mk hq⟩
def lQ (C XA:Addr):aU:=λts S R=>∃ p d n ms z,ts=[.ref p,.str z]/\Wo C S p d n ms/\look ms z=none/\z.length<=1000/\PyData.strOk z=true/\R XA S
theorem z5 (F:!"strike" "Wood.strike" iH) (T:Txt K mg C L R Y D Z)
  (MZ:FnOk P w K mg base (CX1 P w) 1 f2 M9 vv0 (aH K (mQ C Z.A))) (L7:Meth K C "mark_of" f2) (L8:ao K M9 vv0 []):FnOk P w K mg base (CX1 P w) 3 f fd vv0 (aH K (lQ C Z.A)):=by
 exists pH
 refine ⟨_,((aw (bq (bn (T.gf L7) MZ L8 hr.m (aa 0) (ae (aa 1) af))))),bo λv hu ts S Q h=>?_⟩
 obtain ⟨p,d,n,ms,z,rfl,W,hm,hz,PB,hq⟩:=h
 have hw:=W.ins
 ac_nf
 ext
 exact ⟨p,d,n,ms,z,rfl,W,hm,hz,PB,.mk hq⟩
abbrev Rw:=Str×Int×Bool
noncomputable def rw3 (a:Rw):T2.T:=.tup [.str a.1,.int a.2.1,.bl a.2.2]
def wo (b:Bool) (l:List Rt):List Rw:=l.map λa=>(a.1,a.2,b)
theorem gF (l:List Rt):(bst l).length=l.length:=(eY l).length_eq
theorem GY {S:Sto}{Q:T->Sto->Prop}{l:List Rt}{m:Int}(h1:l.length<64) (h2:l.Nodup) (h3:0<=m) (h:Q (.lst (((bst l).take m.toNat).map rt)) S):nE ([.lst (l.map rt),.int m]++[]) S Q:=⟨_,l,m,rfl,rfl,h1,h2,h3,h⟩
def nH:WSp:=λts S Q=>∃ (l:List Rt) (b:Bool),ts=[.lst (l.map rt),.bl b]/\l.length<64/\l.Nodup/\Q (.lst ((wo b (bst l)).map rw3)) S
theorem yw:FnScope ["rated","own"] ["rated","own"] (aq k7):=⟨rfl,rfl,rfl,by decide +kernel,rfl,by decide +kernel,by decide +kernel⟩
theorem DN (F:!"with_own" k7) (T:Txt K mg C L R Y D Z)
  (Rl:!4 f2 M9 iz nE) (Rm:Df K mg "best_of" f2 M9 iz):!5 f fd ["rated","own"] nH:=by
 exists yw
 refine ⟨_,((ai (av (dH false ["word","worth","own"] 2 [1] rfl (d3 rfl (aA Rl Rm hr.m (ae (aa 0) (ae (aV (bv rfl) T.len PySem.boot_len (ae (aa 0) af)) af)))) (λ_ _ _ _=>(gK (λh=>gB (n:=2) rfl rfl h) (cz (bp 0 (show List.Nodup (["word","worth","own"]:List Str) from by decide +kernel)) (cz (bp 1 (show List.Nodup (["word","worth","own"]:List Str) from by decide +kernel)) gC (λh1 h2=>cy h1 h2)) (λh1 h2=>cy h1 h2)))) (λ_ _ _ _=>d4) (λ_ _ _ _=>(aY (ae (aa 0) (ae (aa 1) (ae (aa 2) af))))))))),ax λv hu ts S Q h=>?_⟩
 obtain ⟨l,b,rfl,PM,hn,hq⟩:=h
 have hbl:=gF l
 ac_nf
 ext
 refine GY PM hn (by omega) ?_
 rw [show ((l.length:Int)).toNat=(bst l).length by rw [hbl];omega,List.take_length]
 ext
 refine iV (ls:=bst l) rt (λa=>some (rw3 (a.1,a.2,b))) [some (.bl b)] trivial (by rw [sizeLine_eq];omega) (λa ha u v LU N Nf hN=>?_) ?_
 ·unfold rt
  ext
  exact ⟨Nf,hN _ _⟩
 ·rw [show (bst l).filterMap (λa=>some (rw3 (a.1,a.2,b)))=(wo b (bst l)).map rw3 by unfold wo;rw [List.map_map,<- List.filterMap_eq_map];rfl]
  ext
  exact .mk hq
structure Ly (C L:Addr) (S:Sto) (y h e p d v:Addr) (k n:Int) (hs ms:Ms) (vs:List (Str×Bool)):Prop where
 ins:S y=some (.ins L [("house",.ref h),("own",.ref p),("veiled",.ref v)])
 wh:Wo C S h e k hs
 wp:Wo C S p d n ms
 ve:S v=some (.dK (kt T2.T.bl vs))
structure Mo (n:Int) (ms:Ms):Prop where
 len:ms.length<=60
 old:∀ a∈ms,a.2.2<=n
 nd:(ms.map (·.1)).Nodup
 wd:∀ a∈ms,Wm.Wd a.1=true
theorem g9 {S:Sto}{a b:Addr}{o:O}(h1:S a=none) (h2:S b=some o):a≠b:=λe=>by rw [e,h2] at h1;cases h1
theorem J7 {S:Sto}{x y:Addr}{o1 o2 o3:O}(hx:S x=none) (hy:put S x o1 y=none) :
  put (put (put S x o1) y o2) x o3 x=some o3/\put (put (put S x o1) y o2) x o3 y=some o2/\(∀ a o,S a=some o->put (put (put S x o1) y o2) x o3 a=some o)/\S y=none:=by
 obtain ⟨h1,h2⟩:=bU hy
 refine ⟨aI,(ay h1).trans aI,λa o e=>?_,h2⟩
 have e1:=g9 hx e
 have e2:=g9 h2 e
 rw [ay (Ne.symm e1),ay (Ne.symm e2),ay (Ne.symm e1)];exact e
def sF (C L:Addr):WSp:=λts S Q=>∃ y h,ts=[.ref y,.ref h]/\S y=some (.ins L [])/\∀ S' p d v,S' y=some (.ins L [("house",.ref h),("own",.ref p),("veiled",.ref v)])->Wo C S' p d 0 []->S' v=some (.dK [])->d≠v->S p=none->S d=none->S v=none ->
 (∀ a o,S a=some o->a≠y->S' a=some o)->Q .non S'
theorem xA:FnScope iA iA (aq kq):=⟨rfl,rfl,rfl,by decide +kernel,rfl,by decide +kernel,by decide +kernel⟩
theorem Bv (F:!"__init__" "Layers.__init__" kq) (T:Txt K mg C L R Y D Z)
  (MI:!1 f1 LX vv1 (nC C)) (QC:Mk K C f1) (MJ:ao K LX vv1 []):!3 f fd iA (sF C L):=by
 exists xA
 refine ⟨_,((ak (bE rfl T.gh (aa 0) (aa 1)) (ak (bE rfl T.go (aa 0) (mK QC MI MJ hr.m (by rfl) T.mg_Wood)) (ai (bE rfl T.gv (aa 0) t4))))),ax λv hu ts S Q hh=>?_⟩
 obtain ⟨y,h,rfl,hy,hq⟩:=hh
 ac_nf
 ext
 rw [show bz (Str.ofString "house") (T2.T.ref h) []=[(Str.ofString "house",T2.T.ref h)] from rfl]
 intro p hp
 refine ⟨p,rfl,aI,λd hd=>⟨rfl,?_⟩⟩
 obtain ⟨x1,x2,kp,hd1⟩:=J7 (o2:=.dK []) (o3:=.ins C [("marks",.ref d),("now",.int 0)]) hp hd
 have hpy:=(bU hp).1
 have hp0:=(bU hp).2
 have hdy:=(bU hd1).1
 have hd0:=(bU hd1).2
 have k1:=kp y _ aI
 have k2:∀ a o,S a=some o->a≠y->put (put (put (put S y (.ins L [("house",.ref h)])) p (.ins C [])) d (.dK [])) p (.ins C [("marks",.ref d),("now",.int 0)]) a=some o:=λa o ha hay=>kp a o ((ay hay).trans ha)
 generalize put (put (put (put S y (.ins L [("house",.ref h)])) p (.ins C [])) d (.dK [])) p (.ins C [("marks",.ref d),("now",.int 0)])=S1 at x1 x2 k1 k2 ⊢
 clear kp
 ext
 intro v hv
 have hvy:=(bU hv).1
 have hv0:=(bU hv).2
 have hvd:d≠v:=λe=>by rw [e,hv0] at x2;cases x2
 have hvp:p≠v:=λe=>by rw [e,hv0] at x1;cases x1
 ext
 refine d8 (fs:=[(Str.ofString "house",T2.T.ref h),(Str.ofString "own",T2.T.ref p)]) ((ay (Ne.symm hvy)).trans aI) rfl (by simp) ?_
 refine .mk (hq _ p d v aI ⟨?_,?_⟩ ?_ hvd hp0 hd0 ?_ λa o ha hay=>?_)
 ·rw [ay hpy,ay hvp,ay hpy];exact x1
 ·rw [ay hdy,ay hvd,ay hdy];exact x2
 ·rw [ay hvy];exact aI
 ·cases hsv:S v with
  |none=>rfl
  |some o=>rw [k2 v o hsv hvy] at hv0;cases hv0
 ·have h1:=k2 a o ha hay
  rw [ay hay,ay (λe=>by rw [e,hv0] at h1;cases h1),ay hay];exact h1
def uq (C L:Addr):WSp:=λts S Q=>∃ y h e p d v k n hs ms vs z c,ts=[.ref y,.str z,.int c]/\Ly C L S y h e p d v k n hs ms vs/\ms.length<=60/\Wm.Wd z=true/\look ms z=none/\Q .non (put S d (.dK (kt mkT (ms++[(z,c,n)]))))
theorem pN:FnScope vv2 vv2 (aq iN):=⟨rfl,rfl,rfl,by decide +kernel,rfl,by decide +kernel,by decide +kernel⟩
theorem DO (F:!"put" "Layers.put" iN) (T:Txt K mg C L R Y D Z)
  (N3:!4 f1 LX vv2 (oB C)) (Mz:Meth K C "put" f1) (MA:ao K LX vv2 []):!5 f fd vv2 (uq C L):=by
 exists pN
 refine ⟨_,((ai (aR (aL (T.gf Mz) N3 MA hr.m (ap T.go (aa 0)) (ae (aa 1) (ae (aa 2) af)))))),ax λv hu ts S Q hh=>?_⟩
 obtain ⟨y,h,e,p,d,v,k,n,hs,ms,vs,z,c,rfl,hL,hl,hz,hm,hq⟩:=hh
 have hy:=hL.ins
 have hp:=hL.wp.ins
 ac_nf
 ext
 refine ⟨p,d,n,ms,z,c,rfl,hL.wp,by omega,hz,hm,?_⟩
 ext
 exact .mk hq
def qM (C L:Addr):WSp:=λts S Q=>∃ y h e p d v k n hs ms vs z m,ts=[.ref y,.str z]/\Ly C L S y h e p d v k n hs ms vs/\look ms z=some m/\Q .non (put S d (.dK (kt mkT (dr ms z))))
theorem pD:FnScope vv0 vv0 (aq iD):=⟨rfl,rfl,rfl,by decide +kernel,rfl,by decide +kernel,by decide +kernel⟩
theorem yX (F:!"strike" "Layers.strike" iD) (T:Txt K mg C L R Y D Z)
  (Ng:!2 f1 LX vv0 (mj C)) (Mb:Meth K C "strike" f1) (Mc:ao K LX vv0 []):!3 f fd vv0 (qM C L):=by
 exists pD
 refine ⟨_,((ai (aR (aL (T.gf Mb) Ng Mc hr.m (ap T.go (aa 0)) (ae (aa 1) af))))),ax λv hu ts S Q hh=>?_⟩
 obtain ⟨y,h,e,p,d,v,k,n,hs,ms,vs,z,m,rfl,hL,hm,hq⟩:=hh
 have hy:=hL.ins
 have hp:=hL.wp.ins
 ac_nf
 ext
 refine ⟨p,d,n,ms,z,m,rfl,hL.wp,hm,?_⟩
 ext
 exact .mk hq
def ur (C L:Addr):WSp:=λts S Q=>∃ y h e p d v k n hs ms vs z,ts=[.ref y,.str z]/\Ly C L S y h e p d v k n hs ms vs/\vs.length<=60/\Wm.Wd z=true/\look vs z=none/\Q .non (put S v (.dK (kt T2.T.bl (vs++[(z,true)]))))
theorem pI:FnScope vv0 vv0 (aq iI):=⟨rfl,rfl,rfl,by decide +kernel,rfl,by decide +kernel,by decide +kernel⟩
theorem DP (F:!"hide" "Layers.hide" iI) (T:Txt K mg C L R Y D Z) (Mp:!3 f1 LX ["thing"] gw) (Mq:Df K mg "is_word" f1 LX ["thing"]):!4 f fd vv0 (ur C L):=by
 exists pI
 refine ⟨_,((ak (az (bt (bg (aA Mp Mq hr.m (ae (aa 1) af)))) (ai bf) aF) (ak (az (aS (dL w rfl) (aa 1) (ap T.gv (aa 0)) (by with_unfolding_all rfl)) (ai bf) aF) (ai (dg bx (dB (ap T.gv (aa 0)) (aa 1) (nj (eg hr)))))))),ax λv hu ts S Q hh=>?_⟩
 obtain ⟨y,h,e,p,d,v,k,n,hs,ms,vs,z,rfl,hL,hl,hz,hm,hq⟩:=hh
 have hy:=hL.ins
 have hd:=hL.ve
 have hv:aQ (kt T2.T.bl vs) (Sum.inr z)=none:=by rw [bL,hm];rfl
 have hzl:=Wm.ue hz
 ac_nf
 ext
 refine ⟨z,rfl,by omega,?_⟩
 rw [hz]
 ext
 refine bZ hd rfl ?_
 rw [hv]
 subst_eqs
 ext
 refine nr hd rfl (by rw [nB,sizeLine_eq];omega) ?_
 rw [nA,ui _ (cP.mp hm)]
 exact .mk hq
def ut (C L:Addr):WSp:=λts S Q=>∃ y h e p d v k n hs ms vs z x,ts=[.ref y,.str z]/\Ly C L S y h e p d v k n hs ms vs/\look vs z=some x/\Q .non (put S v (.dK (kt T2.T.bl (dr vs z))))
theorem pJ:FnScope vv0 vv0 (aq iJ):=⟨rfl,rfl,rfl,by decide +kernel,rfl,by decide +kernel,by decide +kernel⟩
theorem DQ (F:!"show" "Layers.show" iJ) (T:Txt K mg C L R Y D Z):!1 f fd vv0 (ut C L):=by
 exists pJ
 refine ⟨_,((ak (az (aS (eX w rfl) (aa 1) (ap T.gv (aa 0)) (by with_unfolding_all rfl)) (ai bf) aF) (ai (aR (bF PySem.F.plainAttrs_dict PySem.F.slot_dict_pop PySem.F.type_dict_pop tZ (ap T.gv (aa 0)) (ae (aa 1) af)))))),ax λv hu ts S Q hh=>?_⟩
 obtain ⟨y,h,e,p,d,v,k,n,hs,ms,vs,z,x,rfl,hL,hm,hq⟩:=hh
 have hy:=hL.ins
 have hd:=hL.ve
 have hv:aQ (kt T2.T.bl vs) (Sum.inr z)=some (.bl x):=by rw [bL,hm];rfl
 ac_nf
 ext
 refine bZ hd rfl ?_
 rw [hv]
 subst_eqs
 ext
 refine t5 hd rfl hv ?_
 rw [sD]
 ext
 exact .mk hq
def nI (C L:Addr):WSp:=λts S Q=>∃ y h e p d v k n hs ms vs z,ts=[.ref y,.str z]/\Ly C L S y h e p d v k n hs ms vs/\Q (.bl ((look vs z).isNone&&(look ms z).isNone)) S
theorem xi:FnScope vv0 vv0 (aq ke):=⟨rfl,rfl,rfl,by decide +kernel,rfl,by decide +kernel,by decide +kernel⟩
theorem DR (F:!"is_seen_of_house" "Layers.is_seen_of_house" ke) (T:Txt K mg C L R Y D Z)
  (M0:!1 f1 LX vv0 (jK C)) (M3:Meth K C "has" f1) (M4:ao K LX vv0 []):!2 f fd vv0 (nI C L):=by
 exists xi
 refine ⟨_,((ai (av (d7 (ci (eX w rfl) (aa 1) (ap T.gv (aa 0)) (by with_unfolding_all rfl)) (cU (tI (aL (T.gf M3) M0 M4 hr.m (ap T.go (aa 0)) (ae (aa 1) af)))))))),ax λv hu ts S Q hh=>?_⟩
 obtain ⟨y,h,e,p,d,v,k,n,hs,ms,vs,z,rfl,hL,hq⟩:=hh
 have hy:=hL.ins
 have hp:=hL.wp.ins
 have hd:=hL.ve
 ac_nf
 ext
 refine bZ hd rfl ?_
 rw [bL,Option.isSome_map]
 ext
 refine ifB (λhb=>?_) λhb=>?_
 ·have e1:(look vs z).isNone=true:=by cases q:look vs z with|none=>rfl|some x=>rw [q] at hb;cases hb
  rw [e1,Bool.true_and] at hq
  ext
  refine ⟨p,d,n,ms,z,rfl,hL.wp,?_⟩
  ext
  rw [show (!(look ms z).isSome)=(look ms z).isNone by cases look ms z<;>rfl]
  exact .mk hq
 ·have e1:(look vs z).isNone=false:=by cases q:look vs z with|none=>rw [q] at hb;cases hb|some x=>rfl
  rw [e1,Bool.false_and] at hq
  exact .mk hq
def ka (ms:Ms) (vs:List (Str×Bool)) (n:Int) (b:Str):List Rt:=(rtd ms n b).filter λa=>(look vs a.1).isNone
def kb (hs ms:Ms) (vs:List (Str×Bool)) (k:Int) (b:Str):List Rt:=(rtd hs k b).filter λa=>(look vs a.1).isNone&&(look ms a.1).isNone
def bR (hs ms:Ms) (vs:List (Str×Bool)) (k n:Int) (b:Str):List Rw:=wo true (bst (ka ms vs n b))++wo false (bst (kb hs ms vs k b))
theorem jL {α β:Type}(p:α->Bool) (f:α->β):∀ l:List α,(l.filterMap λa=>if p a=true then some (f a) else none)=(l.filter p).map f
 |[]=>rfl
 |a::l=>by
  have ih:=jL p f l
  rw [List.filterMap_cons,List.filter_cons]
  by_cases e:p a=true
  ·rw [if_pos e,if_pos e];simp only [List.map_cons,ih]
  ·rw [if_neg e,if_neg e];exact ih
theorem uu {S:Sto}{Q:T->Sto->Prop}{l:List Rt}{b:Bool}(h1:l.length<64) (h2:l.Nodup) (h:Q (.lst ((wo b (bst l)).map rw3)) S):nH ([.lst (l.map rt),.bl b]++[]) S Q:=⟨l,b,rfl,h1,h2,h⟩
theorem GZ {S:Sto}{Q:T->Sto->Prop}{y h e p d v:Addr}{k n:Int}{hs ms:Ms}{vs:List (Str×Bool)}{z:Str}(h1:Ly C L S y h e p d v k n hs ms vs) (h:Q (.bl ((look vs z).isNone&&(look ms z).isNone)) S):nI C L (.ref y::([.str z]++[])) S Q:=⟨_,_,_,_,_,_,_,_,_,_,_,_,rfl,h1,h⟩
def oG (C L:Addr):WSp:=λts S Q=>∃ y h e p d v k n hs ms vs b,ts=[.ref y,.str b]/\Ly C L S y h e p d v k n hs ms vs/\Mo k hs/\Mo n ms/\Q (.lst ((bR hs ms vs k n b).map rw3)) S
theorem xm:FnScope ["self","beginning","own","house"] cN (aq kh):=⟨rfl,rfl,rfl,by decide +kernel,rfl,by decide +kernel,by decide +kernel⟩
theorem G0 (F:!"all_told" "Layers.all_told" kh) (T:Txt K mg C L R Y D Z)
  (MO:!2 f1 LX cN (mP C)) (MP:Meth K C "begun" f1) (MQ:ao K LX cN [])
  (Na:!2 f2 M9 vv0 (nI C L)) (Nb:Meth K L "is_seen_of_house" f2) (Nd:ao K M9 vv0 [])
  (OM:!5 f3 Oi ["rated","own"] nH) (ON:Df K mg "with_own" f3 Oi ["rated","own"]):!6 f fd cN (oG C L):=by
 exists xm
 refine ⟨_,((ak (lL false (i:=2) ["pair","self"] 1 [0] rfl nd rfl (Or.inl rfl) (d3 rfl (aL (T.gf MP) MO MQ hr.m (ap T.go (aa 0)) (ae (aa 1) af))) (λ_ _ _ _=>(bp 0 (show List.Nodup (["pair","self"]:List Str) from by decide +kernel))) (λ_ _ _ _=>(ja (aS (eX w rfl) (aC (aa 0) aj) (ap T.gv (aa 1)) (by with_unfolding_all rfl)))) (λ_ _ _ _=>(aa 0))) (ak (lL false (i:=3) ["pair","self"] 1 [0] rfl nd rfl (Or.inl rfl) (d3 rfl (aL (T.gf MP) MO MQ hr.m (ap T.gh (aa 0)) (ae (aa 1) af))) (λ_ _ _ _=>(bp 0 (show List.Nodup (["pair","self"]:List Str) from by decide +kernel))) (λ_ _ _ _=>(ja (bg (aL (T.gl Nb) Na Nd hr.m (aa 1) (ae (aC (aa 0) aj) af))))) (λ_ _ _ _=>(aa 0))) (ai (av (aE (aX false) (aA OM ON hr.m (ae (aa 2) (ae bx af))) (aA OM ON hr.m (ae (aa 3) (ae bx af))))))))),ax λv hu ts S Q hh=>?_⟩
 obtain ⟨y,h,e,p,d,v,k,n,hs,ms,vs,b,rfl,hL,hH,hM,hq⟩:=hh
 have hy:=hL.ins
 have hp:=hL.wp.ins
 have hhh:=hL.wh.ins
 have hd:=hL.ve
 have l1:=je ms n b
 have l2:=je hs k b
 have l3:=hM.len
 have l4:=hH.len
 ac_nf
 ext
 refine ⟨p,d,n,ms,b,rfl,hL.wp,by omega,hM.old,?_⟩
 ext
 refine eT (ls:=rtd ms n b) rt (λa=>if (look vs a.1).isNone=true then some (rt a) else none) [some (.ref y)] trivial (by rw [sizeLine_eq];omega) (λa ha u LU N Nf hN=>?_) ?_
 ·have h0:=hN (some (rt a))
  ext
  refine bZ hd rfl ?_
  rw [bL,Option.isSome_map]
  refine ⟨_,rfl,?_⟩
  refine ifB (λhb=>?_) λhb=>?_
  ·have e1:(look vs a.1).isNone=true:=by cases q:look vs a.1 with|none=>rfl|some x=>rw [q] at hb;cases hb
   rw [if_pos e1] at h0
   ext
   exact ⟨Nf,h0⟩
  ·have e1:¬ (look vs a.1).isNone=true:=by cases q:look vs a.1 with|none=>rw [q] at hb;cases hb|some x=>simp
   rw [if_neg e1,Option.toList_none,List.append_nil] at h0
   exact h0
 rw [jL]
 ext
 refine ⟨h,e,k,hs,b,rfl,hL.wh,by omega,hH.old,?_⟩
 ext
 refine eT (ls:=rtd hs k b) rt (λa=>if ((look vs a.1).isNone&&(look ms a.1).isNone)=true then some (rt a) else none) [some (.ref y)] trivial (by rw [sizeLine_eq];omega) (λa ha u LU N Nf hN=>?_) ?_
 ·have h0:=hN (some (rt a))
  ext
  refine GZ hL ?_
  refine ⟨_,rfl,?_⟩
  refine ifB (λhb=>?_) λhb=>?_
  ·rw [if_pos hb] at h0
   ext
   exact ⟨Nf,h0⟩
  ·rw [if_neg (by rw [hb];decide),Option.toList_none,List.append_nil] at h0
   exact h0
 rw [jL]
 have l5:=List.length_filter_le (λa:Rt=>(look vs a.1).isNone) (rtd ms n b)
 have l6:=List.length_filter_le (λa:Rt=>(look vs a.1).isNone&&(look ms a.1).isNone) (rtd hs k b)
 ext
 refine uu (by omega) (List.filter_sublist.nodup (jv hM.nd)) ?_
 ext
 refine uu (by omega) (List.filter_sublist.nodup (jv hH.nd)) ?_
 ext
 refine jl rfl rfl ?_ ?_
 ·unfold wo
  rw [List.length_map,List.length_map,List.length_map,List.length_map,gF,gF,sizeLine_eq];omega
 rw [<- List.map_append]
 ext
 exact .mk hq
def uv (C L:Addr):WSp:=λts S Q=>∃ y h e p d v k n hs ms vs z c,ts=[.ref y,.str z,.int c]/\Ly C L S y h e p d v k n hs ms vs/\hs.length<=100/\ms.length<=100/\look vs z=none/\((∃ m,look ms z=some m/\m.2<=n/\Q .non (put S d (.dK (kt mkT (pu ms z (wrt m n+c,n))))))\/(look ms z=none/\∃ m,look hs z=some m/\m.2<=k/\Q .non (put S e (.dK (kt mkT (pu hs z (wrt m k+c,k)))))))
theorem pO:FnScope vv3 vv3 (aq iO):=⟨rfl,rfl,rfl,by decide +kernel,rfl,by decide +kernel,by decide +kernel⟩
theorem DS (F:!"use" "Layers.use" iO) (T:Txt K mg C L R Y D Z)
  (M0:!1 f1 LX vv0 (jK C)) (M3:Meth K C "has" f1) (M4:ao K LX vv0 [])
  (NC:!3 f2 M9 vv3 (oF C)) (Mf:Meth K C "use" f2) (M5:ao K M9 vv3 []):!4 f fd vv3 (uv C L):=by
 exists pO
 refine ⟨_,((ak (az (aS (dL w rfl) (aa 1) (ap T.gv (aa 0)) (by with_unfolding_all rfl)) (ai bf) aF) (ai (az (bg (aL (T.gf M3) M0 M4 hr.m (ap T.go (aa 0)) (ae (aa 1) af))) (ai (aR (aL (T.gf Mf) NC M5 hr.m (ap T.go (aa 0)) (ae (aa 1) (ae (aa 2) af))))) (ai (aR (aL (T.gf Mf) NC M5 hr.m (ap T.gh (aa 0)) (ae (aa 1) (ae (aa 2) af))))))))),ax λv hu ts S Q hh=>?_⟩
 obtain ⟨y,h,e,p,d,v,k,n,hs,ms,vs,z,c,rfl,hL,hl1,hl2,hm,hq⟩:=hh
 have hy:=hL.ins
 have hp:=hL.wp.ins
 have hh:=hL.wh.ins
 have hd:=hL.ve
 have hv:aQ (kt T2.T.bl vs) (Sum.inr z)=none:=by rw [bL,hm];rfl
 ac_nf
 ext
 refine bZ hd rfl ?_
 rw [hv]
 subst_eqs
 ext
 refine ⟨p,d,n,ms,z,rfl,hL.wp,?_⟩
 rcases hq with ⟨m,h1,h2,hq⟩|⟨h0,m,h1,h2,hq⟩
 ·rw [h1]
  simp only [Option.isSome_some,Option.isSome_none]
  ext
  refine ⟨p,d,n,ms,z,c,m,rfl,hL.wp,hl2,h1,h2,?_⟩
  exact .mk hq
 ·rw [h0]
  simp only [Option.isSome_some,Option.isSome_none]
  ext
  refine ⟨h,e,k,hs,z,c,m,rfl,hL.wh,hl1,h1,h2,?_⟩
  exact .mk hq
def sG (C L:Addr):WSp:=λts S Q=>∃ y h e p d v k n hs ms vs c,ts=[.ref y,.int c]/\Ly C L S y h e p d v k n hs ms vs/\Q .non (put S p (.ins C [("marks",.ref d),("now",.int (n+c))]))
theorem xB:FnScope vv5 vv5 (aq kr):=⟨rfl,rfl,rfl,by decide +kernel,rfl,by decide +kernel,by decide +kernel⟩
theorem Bw (F:!"fade" "Layers.fade" kr) (T:Txt K mg C L R Y D Z)
  (NQ:!1 f1 LX vv5 (nD C)) (MH:Meth K C "fade" f1) (NR:ao K LX vv5 []):!2 f fd vv5 (sG C L):=by
 exists xB
 refine ⟨_,((ai (aR (aL (T.gf MH) NQ NR hr.m (ap T.go (aa 0)) (ae (aa 1) af))))),ax λv hu ts S Q hh=>?_⟩
 obtain ⟨y,h,e,p,d,v,k,n,hs,ms,vs,c,rfl,hL,hq⟩:=hh
 have hy:=hL.ins
 have hp:=hL.wp.ins
 have hh:=hL.wh.ins
 have hd:=hL.ve
 ac_nf
 ext
 refine ⟨p,d,n,ms,c,rfl,hL.wp,?_⟩
 ext
 exact .mk hq
def sH (C L:Addr) (Z:Zs):aU:=λts S R=>∃ y h e p d v k n hs ms vs z c,ts=[.ref y,.str z,.int c]/\Ly C L S y h e p d v k n hs ms vs/\z.length<=1000/\PyData.strOk z=true/\(Wm.Wd z=false/\R Z.N S\/Wm.Wd z=true/\(∃ m,look ms z=some m)/\R Z.T S)
theorem DT (F:!"put" "Layers.put" iN) (T:Txt K mg C L R Y D Z)
  (N4:FnOk P w K mg base (CX1 P w) 4 f1 LX vv2 (aH K (nF C Z.N Z.T))) (Mz:Meth K C "put" f1) (MA:ao K LX vv2 []):FnOk P w K mg base (CX1 P w) 5 f fd vv2 (aH K (sH C L Z)):=by
 exists pN
 refine ⟨_,((aw (bq (bn (T.gf Mz) N4 MA hr.m (ap T.go (aa 0)) (ae (aa 1) (ae (aa 2) af)))))),bo λv hu ts S Q hh=>?_⟩
 obtain ⟨y,h,e,p,d,v,k,n,hs,ms,vs,z,c,rfl,hL,hz,PB,hq⟩:=hh
 have hy:=hL.ins
 have hp:=hL.wp.ins
 have hh:=hL.wh.ins
 have hd:=hL.ve
 ac_nf
 ext
 exact ⟨p,d,n,ms,z,c,rfl,hL.wp,hz,PB,hq.imp (λx=>⟨x.1,.mk x.2⟩) λx=>⟨x.1,x.2.1,.mk x.2.2⟩⟩
def qj (C L:Addr) (Z:Zs):aU:=λts S R=>∃ y h e p d v k n hs ms vs z,ts=[.ref y,.str z]/\Ly C L S y h e p d v k n hs ms vs/\z.length<=1000/\PyData.strOk z=true/\look ms z=none/\R Z.A S
theorem yY (F:!"strike" "Layers.strike" iD) (T:Txt K mg C L R Y D Z)
  (Nh:FnOk P w K mg base (CX1 P w) 3 f1 LX vv0 (aH K (lQ C Z.A))) (Mb:Meth K C "strike" f1) (Mc:ao K LX vv0 []):FnOk P w K mg base (CX1 P w) 4 f fd vv0 (aH K (qj C L Z)):=by
 exists pD
 refine ⟨_,((aw (bq (bn (T.gf Mb) Nh Mc hr.m (ap T.go (aa 0)) (ae (aa 1) af))))),bo λv hu ts S Q hh=>?_⟩
 obtain ⟨y,h,e,p,d,v,k,n,hs,ms,vs,z,rfl,hL,hz,PB,hm,hq⟩:=hh
 have hy:=hL.ins
 have hp:=hL.wp.ins
 have hh:=hL.wh.ins
 have hd:=hL.ve
 ac_nf
 ext
 exact ⟨p,d,n,ms,z,rfl,hL.wp,hm,hz,PB,.mk hq⟩
def sI (C L:Addr) (Z:Zs):aU:=λts S R=>∃ y h e p d v k n hs ms vs z,ts=[.ref y,.str z]/\Ly C L S y h e p d v k n hs ms vs/\z.length<=1000/\PyData.strOk z=true/\(Wm.Wd z=false/\R Z.N S\/Wm.Wd z=true/\(∃ m,look vs z=some m)/\R Z.T S)
theorem DU (F:!"hide" "Layers.hide" iI) (T:Txt K mg C L R Y D Z)
  (Mp:!3 f1 LX ["thing"] gw) (Mq:Df K mg "is_word" f1 LX ["thing"]):FnOk P w K mg base (CX1 P w) 4 f fd vv0 (aH K (sI C L Z)):=by
 exists pI
 refine ⟨_,((cQ (aw (aT (bt (bg (aA Mp Mq hr.m (ae (aa 1) af)))) (aw (bS T.x_NoWord T.k_NoWord rfl (by rfl) T.mg_NoWord (ae (dS (aa 1)) af))) bC)) (bD (az (bt (bg (aA Mp Mq hr.m (ae (aa 1) af)))) (ai bf) aF) (aw (aT (aS (dL w rfl) (aa 1) (ap T.gv (aa 0)) (by with_unfolding_all rfl)) (aw (bS T.x_Twice T.k_Twice rfl (by rfl) T.mg_Twice (ae (dS (aa 1)) af))) bC))))),bo λv hu ts S Q hh=>?_⟩
 obtain ⟨y,h,e,p,d,v,k,n,hs,ms,vs,z,rfl,hL,hz,PB,hq⟩:=hh
 have hy:=hL.ins
 have hp:=hL.wp.ins
 have hh:=hL.wh.ins
 have hd:=hL.ve
 ac_nf
 rcases hq with ⟨hm,hq⟩|⟨hm,⟨m,hl⟩,hq⟩
 ·refine cF (dA ?_)
  ext
  refine ⟨z,rfl,hz,?_⟩
  rw [hm]
  ext
  refine ⟨z,rfl,hz,PB,λe=>?_⟩
  ext
  exact ⟨Nat.le_of_ble_eq_true rfl,.mk hq⟩
 ·have hv:aQ (kt T2.T.bl vs) (Sum.inr z)=some (.bl m):=by rw [bL,hl];rfl
  refine cG (cA ?_)
  ext
  refine ⟨z,rfl,hz,?_⟩
  rw [hm]
  ext
  refine bZ hd rfl ?_
  rw [hv]
  subst_eqs
  ext
  refine ⟨z,rfl,hz,PB,λe=>?_⟩
  ext
  exact ⟨Nat.le_of_ble_eq_true rfl,.mk hq⟩
def sJ (C L:Addr) (Z:Zs):aU:=λts S R=>∃ y h e p d v k n hs ms vs z,ts=[.ref y,.str z]/\Ly C L S y h e p d v k n hs ms vs/\z.length<=1000/\PyData.strOk z=true/\look vs z=none/\R Z.A S
theorem DV (F:!"show" "Layers.show" iJ) (T:Txt K mg C L R Y D Z):FnOk P w K mg base (CX1 P w) 1 f fd vv0 (aH K (sJ C L Z)):=by
 exists pJ
 refine ⟨_,((aw (aT (aS (eX w rfl) (aa 1) (ap T.gv (aa 0)) (by with_unfolding_all rfl)) (aw (bS T.x_Absent T.k_Absent rfl (by rfl) T.mg_Absent (ae (dS (aa 1)) af))) bC))),bo λv hu ts S Q hh=>?_⟩
 obtain ⟨y,h,e,p,d,v,k,n,hs,ms,vs,z,rfl,hL,hz,PB,hm,hq⟩:=hh
 have hy:=hL.ins
 have hp:=hL.wp.ins
 have hh:=hL.wh.ins
 have hd:=hL.ve
 have hv:aQ (kt T2.T.bl vs) (Sum.inr z)=none:=by rw [bL,hm];rfl
 ac_nf
 ext
 refine bZ hd rfl ?_
 rw [hv]
 subst_eqs
 ext
 refine ⟨z,rfl,hz,PB,λe=>?_⟩
 ext
 exact ⟨Nat.le_of_ble_eq_true rfl,.mk hq⟩
def DW (C L:Addr) (Z:Zs):aU:=λts S R=>∃ y h e p d v k n hs ms vs z c,ts=[.ref y,.str z,.int c]/\Ly C L S y h e p d v k n hs ms vs/\z.length<=1000/\PyData.strOk z=true/\((∃ x,look vs z=some x)\/look vs z=none/\look ms z=none/\look hs z=none)/\R Z.A S
theorem DX (F:!"use" "Layers.use" iO) (T:Txt K mg C L R Y D Z)
  (M0:!1 f1 LX vv0 (jK C)) (M3:Meth K C "has" f1) (M4:ao K LX vv0 [])
  (ND:FnOk P w K mg base (CX1 P w) 3 f2 M9 vv3 (aH K (nG C Z.A))) (Mf:Meth K C "use" f2) (M5:ao K M9 vv3 []):FnOk P w K mg base (CX1 P w) 4 f fd vv3 (aH K (DW C L Z)):=by
 exists pO
 refine ⟨_,((cQ (aw (aT (aS (dL w rfl) (aa 1) (ap T.gv (aa 0)) (by with_unfolding_all rfl)) (aw (bS T.x_Absent T.k_Absent rfl (by rfl) T.mg_Absent (ae (dS (aa 1)) af))) bC)) (bD (az (aS (dL w rfl) (aa 1) (ap T.gv (aa 0)) (by with_unfolding_all rfl)) (ai bf) aF) (aw (aT (bg (aL (T.gf M3) M0 M4 hr.m (ap T.go (aa 0)) (ae (aa 1) af))) (aw (bq (bn (T.gf Mf) ND M5 hr.m (ap T.go (aa 0)) (ae (aa 1) (ae (aa 2) af))))) (aw (bq (bn (T.gf Mf) ND M5 hr.m (ap T.gh (aa 0)) (ae (aa 1) (ae (aa 2) af)))))))))),bo λv hu ts S Q hh=>?_⟩
 obtain ⟨y,h,e,p,d,v,k,n,hs,ms,vs,z,c,rfl,hL,hz,PB,hm,hq⟩:=hh
 have hy:=hL.ins
 have hp:=hL.wp.ins
 have hh:=hL.wh.ins
 have hd:=hL.ve
 ac_nf
 rcases hm with ⟨x,hm⟩|⟨hm,h0,h1⟩
 ·have hv:aQ (kt T2.T.bl vs) (Sum.inr z)=some (.bl x):=by rw [bL,hm];rfl
  refine cF (dA ?_)
  ext
  refine bZ hd rfl ?_
  rw [hv]
  subst_eqs
  ext
  refine ⟨z,rfl,hz,PB,λe=>?_⟩
  ext
  exact ⟨Nat.le_of_ble_eq_true rfl,.mk hq⟩
 ·have hv:aQ (kt T2.T.bl vs) (Sum.inr z)=none:=by rw [bL,hm];rfl
  refine cG (cA ?_)
  ext
  refine bZ hd rfl ?_
  rw [hv]
  subst_eqs
  ext
  refine ⟨p,d,n,ms,z,rfl,hL.wp,?_⟩
  rw [h0]
  simp only [Option.isSome_some,Option.isSome_none]
  ext
  exact ⟨h,e,k,hs,z,c,rfl,hL.wh,h1,hz,PB,.mk hq⟩
abbrev Pm:=List (List Key×(Int×Int))
def toT (ms:Pm):List (List Key×T2.T):=ms.map λp=>(p.1,mkT p.2)
noncomputable abbrev pk (b z:Str):List Key:=[.inr b,.inr z]
noncomputable def lkP (ms:Pm) (k:List Key):Option (Int×Int):=(ms.find? λp=>decide (p.1=k)).map (·.2)
def lkD (ms:Pm) (k:List Key) (n:Int):Int×Int:=(lkP ms k).getD (0,n)
noncomputable def ph (ms:Pm) (k:List Key) (m:Int×Int):Pm:=if (ms.any λp=>decide (p.1=k))=true then ms.map (λp=>if p.1=k then (p.1,m) else p) else ms++[(k,m)]
theorem G6 {ms:Pm}{k:List Key}:aQ (toT ms) k=(lkP ms k).map mkT:=by
 unfold aQ toT lkP
 rw [List.find?_map]
 simp only [Function.comp_def,Option.map_map]
theorem uw {ms:Pm}{k:List Key}{n:Int}:(aQ (toT ms) k).getD (.tup [.int 0,.int n])=mkT (lkD ms k n):=by
 rw [G6];unfold lkD
 cases lkP ms k<;>rfl
theorem G7 {ms:Pm}{k:List Key}{m:Int×Int}:cX (toT ms) k (mkT m)=toT (ph ms k m):=by
 unfold cX toT ph
 rw [List.any_map]
 simp only [Function.comp_def]
 split
 ·rw [List.map_map,List.map_map]
  refine List.map_congr_left λx _=>?_
  simp only [Function.comp_def]
  split<;>rfl
 ·rw [List.map_append];rfl
theorem eg {k:Nat}{A:Around}(hr:Room k A):A.units+1<cLine:=by have:=hr.units;omega
structure Wf (k:Nat) (n:Int) (ms:Pm):Prop where
 len:ms.length<=k
 old:∀ x∈ms,x.2.2<=n
theorem G8 {ms:Pm}{k:List Key}{m:Int×Int}(h:lkP ms k=some m):∃ x∈ms,x.2=m:=by
 unfold lkP at h
 obtain ⟨x,hx,rfl⟩:=Option.map_eq_some_iff.mp h
 exact ⟨x,List.mem_of_find?_eq_some hx,rfl⟩
theorem Wf.lk {c:Nat}{n:Int}{ms:Pm}(h:Wf c n ms) (k:List Key):(lkD ms k n).2<=n:=by
 unfold lkD
 cases q:lkP ms k with
 |none=>exact Int.le_refl _
 |some m =>
  obtain ⟨x,hx,rfl⟩:=G8 q
  exact h.old x hx
def chosen (ms:Pm) (n:Int) (b z:Str):Pm:=ph ms (pk b z) (wrt (lkD ms (pk b z) n) n+1,n)
noncomputable def prO (R d:Addr) (n:Int):O:=.ins R [("marks",.ref d),("now",.int n)]
def sK (R:Addr):WSp:=λts S Q=>∃ p,ts=[.ref p]/\S p=some (.ins R [])/\∀ d,S d=none->Q .non (put (put S d (.dT [])) p (prO R d 0))
theorem xN:FnScope vv1 vv1 (aq kH):=⟨rfl,rfl,rfl,by decide +kernel,rfl,by decide +kernel,by decide +kernel⟩
theorem Bx (F:!"__init__" "Pairs.__init__" kH) (T:Txt K mg C L R Y D Z):!1 f fd vv1 (sK R):=by
 exists xN
 refine ⟨_,((ak (bE rfl T.gpm (aa 0) Dp) (ai (bE rfl T.gpn (aa 0) aj)))),ax λv hu ts S Q h=>?_⟩
 obtain ⟨p,rfl,hp,hq⟩:=h
 ac_nf
 ext
 intro d hd
 have PL:p≠d:=λe=>by rw [e,hd] at hp;cases hp
 ext
 refine d8 aI rfl (Nat.le_of_ble_eq_true rfl) ?_
 rw [c7]
 exact .mk (hq d hd)
def rE (R:Addr):WSp:=λts S Q=>∃ p d n ms b z c,ts=[.ref p,.str b,.str z]/\S p=some (prO R d n)/\S d=some (.dT (toT ms))/\Wf c n ms/\c<=1000/\Q .non (put S d (.dT (toT (chosen ms n b z))))
theorem xu:FnScope ["self","before","word","mark"] dC (aq km):=⟨rfl,rfl,rfl,by decide +kernel,rfl,by decide +kernel,by decide +kernel⟩
theorem z6 (F:!"choose" "Pairs.choose" km) (T:Txt K mg C L R Y D Z) (NP:!2 f1 LX dW gH) (MG:Df K mg "used_mark" f1 LX dW) :
  !3 f fd dC (rE R):=by
 exists xu
 refine ⟨_,((ak (aD 3 nd (bF PySem.F.plainAttrs_dict PySem.F.slot_dict_get PySem.F.type_dict_get (t9 (eg hr)) (ap T.gpm (aa 0)) (ae (aY (ae (aa 1) (ae (aa 2) af))) (ae (aY (ae aj (ae (ap T.gpn (aa 0)) af))) af)))) (ai (dg (aA NP MG hr.m (ae (aa 3) (ae (ap T.gpn (aa 0)) (ae aj af)))) (dB (ap T.gpm (aa 0)) (aY (ae (aa 1) (ae (aa 2) af))) (Gq (eg hr))))))),ax λv hu ts S Q h=>?_⟩
 obtain ⟨p,d,n,ms,b,z,c,rfl,hp,hd,hw,hc,hq⟩:=h
 unfold prO at hp
 have l3:=hw.lk (pk b z)
 have MU:=hw.len
 ac_nf
 ext
 refine ub (ks:=pk b z) hd rfl ?_
 rw [uw]
 ext
 refine Gs (ks:=pk b z) hd rfl (by unfold toT;rw [List.length_map,sizeLine_eq];omega) ?_
 rw [G7]
 exact .mk hq
def sL (R:Addr):WSp:=λts S Q=>∃ p d n c,ts=[.ref p,.int c]/\S p=some (prO R d n)/\Q .non (put S p (prO R d (n+c)))
theorem xO:FnScope vv5 vv5 (aq kI):=⟨rfl,rfl,rfl,by decide +kernel,rfl,by decide +kernel,by decide +kernel⟩
theorem By (F:!"fade" "Pairs.fade" kI) (T:Txt K mg C L R Y D Z):!1 f fd vv5 (sL R):=by
 exists xO
 refine ⟨_,((ai (qD rfl T.gpn (aa 0) (aa 1)))),ax λv hu ts S Q h=>?_⟩
 obtain ⟨p,d,n,c,rfl,hp,hq⟩:=h
 unfold prO at hp
 ac_nf
 ext
 exact .mk hq
def pw (ms:Pm) (n:Int) (b z:Str):Int:=wrt (lkD ms (pk b z) n) n
def pi (R:Addr):WSp:=λts S Q=>∃ p d n ms b z c,ts=[.ref p,.str b,.str z]/\S p=some (prO R d n)/\S d=some (.dT (toT ms))/\Wf c n ms/\Q (.int (pw ms n b z)) S
theorem LJ {S:Sto}{Q:T->Sto->Prop}{p d:Addr}{n:Int}{c:Nat}{b z:Str}{ms:Pm}(h1:S p=some (prO R d n)) (h1':S d=some (.dT (toT ms))) (h2:Wf c n ms) (h:Q (.int (pw ms n b z)) S):pi R (.ref p::([.str b,.str z]++[])) S Q:=⟨p,d,n,ms,b,z,c,rfl,h1,h1',h2,h⟩
theorem xn:FnScope dC dC (aq ki):=⟨rfl,rfl,rfl,by decide +kernel,rfl,by decide +kernel,by decide +kernel⟩
theorem J8 (F:!"worth_of" "Pairs.worth_of" ki) (T:Txt K mg C L R Y D Z) (MW:!1 f1 LX dD e9) (MX:Df K mg "worth_at" f1 LX dD) :
  !2 f fd dC (pi R):=by
 exists xn
 refine ⟨_,((ai (av (aA MW MX hr.m (ae (bF PySem.F.plainAttrs_dict PySem.F.slot_dict_get PySem.F.type_dict_get (t9 (eg hr)) (ap T.gpm (aa 0)) (ae (aY (ae (aa 1) (ae (aa 2) af))) (ae (aY (ae aj (ae (ap T.gpn (aa 0)) af))) af))) (ae (ap T.gpn (aa 0)) af)))))),ax λv hu ts S Q h=>?_⟩
 obtain ⟨p,d,n,ms,b,z,c,rfl,hp,hd,hw,hq⟩:=h
 unfold prO at hp
 have l3:=hw.lk (pk b z)
 ac_nf
 ext
 refine ub (ks:=pk b z) hd rfl ?_
 rw [uw]
 ext
 exact .mk hq
noncomputable def sgn (z:Str):Bool:=decide ((z.length:Int)=1)&&!(Builtin.Str.occurrences (Str.ofString "abcdefghijklmnopqrstuvwxyz ") z 0 (Str.ofString "abcdefghijklmnopqrstuvwxyz ").length 1).isEmpty
theorem G9 {z:Str}(h:(z.length:Int)=1):∃ c,z=⟨#[c]⟩:=by
 obtain ⟨⟨l⟩⟩:=z
 have:l.length=1:=by simp [Str.length] at h;omega
 match l,this with
 |[c],_=>exact ⟨c,rfl⟩
theorem DY (c:Nat) (l:List Nat):decide (c∈l++[32])=(decide (c∈l) || decide (c=32)):=by rw [Bool.eq_iff_iff];simp
theorem DZ (c:Nat):sgn ⟨#[c]⟩=(decide ((⟨#[c]⟩:Str)=Str.ofString " ") || Sc.isL c):=by
 unfold sgn
 rw [show decide (((⟨#[c]⟩:Str).length:Int)=1)=true from rfl,Bool.true_and,StrLaws.found_one,show (Str.ofString "abcdefghijklmnopqrstuvwxyz ").cps.toList=[97,98,99,100,101,102,103,104,105,106,107,108,109,110,111,112,113,114,115,116,117,118,119,120,121,122]++[32] by decide +kernel,DY,Sc.Dw,Bool.or_comm]
 congr 1
 rw [show Str.ofString " "=⟨#[32]⟩ by decide +kernel,Bool.eq_iff_iff]
 simp
def nJ:WSp:=λts S Q=>∃ z:Str,ts=[.str z]/\z.length<=1000/\Q (.bl (sgn z)) S
theorem yZ:FnScope ["text"] ["text"] (aq lq):=⟨rfl,rfl,rfl,by decide +kernel,rfl,by decide +kernel,by decide +kernel⟩
theorem D0 (F:!"is_sign" lq) (T:Txt K mg C L R Y D Z) (NN:!1 f1 LX ["sign"] iZ) (NO:Df K mg "is_letter" f1 LX ["sign"]) :
  !2 f fd ["text"] nJ:=by
 exists yZ
 refine ⟨_,((ai (av (d7 (ci (eI rfl hr.units) (aV (bv rfl) T.len PySem.boot_len (ae (aa 0) af)) aj) (cU (n4 (ci (eI rfl hr.units) (aa 0) ag) (cU (aA NN NO hr.m (ae (aa 0) af))))))))),ax λv hu ts S Q h=>?_⟩
 obtain ⟨z,rfl,hz,hq⟩:=h
 ac_nf
 ext
 refine ifB (λhb=>?_) λhb=>?_
 ·obtain ⟨c,rfl⟩:=G9 (of_decide_eq_true (by simpa using hb))
  rw [DZ] at hq
  ext
  rw [Bool.false_xor]
  refine ifB (λTU=>?_) λTU=>?_
  ·rw [TU,Bool.true_or] at hq
   exact .mk hq
  ·rw [TU,Bool.false_or] at hq
   ext
   exact .mk hq
 ·unfold sgn at hq
  rw [Bool.false_xor] at hb
  rw [hb,Bool.false_and] at hq
  exact .mk hq
noncomputable def tyO (Y y q c:Addr) (m:Int) (x:Str):O:=.ins Y [("layers",.ref y),("many",.int m),("pairs",.ref q),("text",.str x),("chosen",.ref c)]
def sM (Y R:Addr):WSp:=λts S Q=>∃ t y m,ts=[.ref t,.ref y,.int m]/\S t=some (.ins Y [])/\∀ S' q g c,S' t=some (tyO Y y q c m "")->S' q=some (prO R g 0)->S' g=some (.dT [])->S' c=some (.lst [])->(∀ a o,S a=some o->a≠t->S' a=some o)->S q=none->S g=none->S c=none->Q .non S'
theorem xC:FnScope ix ix (aq kx):=⟨rfl,rfl,rfl,by decide +kernel,rfl,by decide +kernel,by decide +kernel⟩
theorem Bz (F:!"__init__" "Typist.__init__" kx) (T:Txt K mg C L R Y D Z)
  (Oj:!1 f1 LX vv1 (sK R)) (SJ:Mk K R f1) (Ol:ao K LX vv1 []):!3 f fd ix (sM Y R):=by
 exists xC
 refine ⟨_,((ak (bE rfl T.gul (aa 0) (aa 1)) (ak (bE rfl T.gum (aa 0) (aa 2)) (ak (bE rfl T.gup (aa 0) (mK SJ Oj Ol hr.m (by rfl) T.mg_Pairs)) (ak (bE rfl T.gut (aa 0) ag) (ai (bE rfl T.guc (aa 0) (m3 af)))))))),ax λv hu ts S Q hh=>?_⟩
 obtain ⟨t,y,m,rfl,ht,hq⟩:=hh
 ac_nf
 ext
 rw [show bz (Str.ofString "layers") (T2.T.ref y) []=[(Str.ofString "layers",T2.T.ref y)] from rfl]
 refine d8 aI rfl (Nat.le_of_ble_eq_true rfl) ?_
 rw [c7,show bz (Str.ofString "many") (T2.T.int m) [(Str.ofString "layers",T2.T.ref y)]=[(Str.ofString "layers",T2.T.ref y),(Str.ofString "many",T2.T.int m)] from rfl]
 ext
 intro q hq1
 refine ⟨q,rfl,aI,λd hd=>⟨rfl,?_⟩⟩
 obtain ⟨hqt,hq0⟩:=bU hq1
 obtain ⟨hdq,hd1⟩:=bU hd
 obtain ⟨hdt,hd0⟩:=bU hd1
 generalize hS1:put (put (put (put S t (.ins Y [("layers",.ref y),("many",.int m)])) q (.ins R [])) d (.dT [])) q (prO R d 0)=S1
 have k1:S1 t=some (.ins Y [("layers",.ref y),("many",.int m)]):=by
  rw [<- hS1,ay (Ne.symm hqt),ay (Ne.symm hdt),ay (Ne.symm hqt)];exact aI
 have k2:∀ a o,S a=some o->a≠t->S1 a=some o:=λa o ha hat=>by
  have e1:=g9 hq0 ha
  have e2:=g9 hd0 ha
  rw [<- hS1,ay (Ne.symm e1),ay (Ne.symm e2),ay (Ne.symm e1),ay hat];exact ha
 have k3:S1 q=some (prO R d 0):=by rw [<- hS1];exact aI
 have k4:S1 d=some (.dT []):=by rw [<- hS1,ay hdq];exact aI
 clear hS1
 ext
 refine d8 aI rfl (Nat.le_of_ble_eq_true rfl) ?_
 rw [c7]
 ext
 intro c hc
 obtain ⟨hct,hc0⟩:=bU hc
 have hSc:S c=none:=by
  cases z:S c with
  |none=>rfl
  |some o=>rw [k2 c o z hct] at hc0;cases hc0
 ext
 refine d8 ((ay (Ne.symm hct)).trans aI) rfl (Nat.le_of_ble_eq_true rfl) ?_
 refine .mk (hq _ q d c aI ?_ ?_ ?_ ?_ hq0 hd0 hSc)
 ·rw [ay hqt,ay (λz=>by rw [<- z,k3] at hc0;cases hc0),ay hqt];exact k3
 ·rw [ay hdt,ay (λz=>by rw [<- z,k4] at hc0;cases hc0),ay hdt];exact k4
 ·rw [ay hct];exact aI
 ·intro a o ha hat
  rw [ay hat,ay (g9 hSc ha).symm,ay hat];exact k2 a o ha hat
def vD (Y:Addr):WSp:=λts S Q=>∃ t y q c m x z,ts=[.ref t,.str z]/\S t=some (tyO Y y q c m x)/\z.length<=1000/\sgn z=true/\x.length<24/\Q .non (put S t (tyO Y y q c m (x++z)))
theorem pP:FnScope dX dX (aq iP):=⟨rfl,rfl,rfl,by decide +kernel,rfl,by decide +kernel,by decide +kernel⟩
theorem G' (F:!"key" "Typist.key" iP) (T:Txt K mg C L R Y D Z) (NV:!2 f1 LX ["text"] nJ) (NW:Df K mg "is_sign" f1 LX ["text"]) :
  !3 f fd dX (vD Y):=by
 exists pP
 refine ⟨_,((ak (az (bt (bg (aA NV NW hr.m (ae (aa 1) af)))) (ai bf) aF) (ak (az (aS o0 (aV (bv rfl) T.len PySem.boot_len (ae (ap T.gut (aa 0)) af)) (bK (n:=24) (by rfl) T.c_MOST_SIGNS)) (ai bf) aF) (ai (yP rfl T.gut (aa 0) (aa 1)))))),ax λv hu ts S Q h=>?_⟩
 obtain ⟨t,y,q,c,m,x,z,rfl,ht,hz,hs,hx,hq⟩:=h
 unfold tyO at ht
 ac_nf
 ext
 refine ⟨z,rfl,hz,?_⟩
 rw [hs]
 ext
 refine ifB (λhb=>?_) λhb=>?_
 ·exact absurd (of_decide_eq_true hb) (by omega)
 ext
 refine ⟨t,Y,_,x,rfl,ht,rfl,rfl,?_⟩
 ext
 refine ⟨z,_,rfl,by rw [sizeLine_eq];omega,ht,Nat.le_of_ble_eq_true rfl,?_⟩
 exact .mk hq
def uA (Y N:Addr):aU:=λts S R=>∃ t y q c m x z,ts=[.ref t,.str z]/\S t=some (tyO Y y q c m x)/\z.length<=1000/\PyData.strOk z=true/\x.length<=24/\(sgn z=false\/sgn z=true/\x.length=24)/\R N S
theorem Ha (F:!"key" "Typist.key" iP) (T:Txt K mg C L R Y D Z) (NV:!2 f1 LX ["text"] nJ) (NW:Df K mg "is_sign" f1 LX ["text"]) :
  FnOk P w K mg base (CX1 P w) 3 f fd dX (aH K (uA Y Z.S)):=by
 exists pP
 refine ⟨_,((cQ (aw (aT (bt (bg (aA NV NW hr.m (ae (aa 1) af)))) (aw (bS T.x_NoSign T.k_NoSign rfl (by rfl) T.mg_NoSign (ae (dS (aa 1)) af))) bC)) (bD (az (bt (bg (aA NV NW hr.m (ae (aa 1) af)))) (ai bf) aF) (aw (aT (aS o0 (aV (bv rfl) T.len PySem.boot_len (ae (ap T.gut (aa 0)) af)) (bK (n:=24) (by rfl) T.c_MOST_SIGNS)) (aw (bS T.x_NoSign T.k_NoSign rfl (by rfl) T.mg_NoSign (ae ag af))) bC))))),bo λv hu ts S Q h=>?_⟩
 obtain ⟨t,y,q,c,m,x,z,rfl,ht,hz,hok,hx,hs,hq⟩:=h
 unfold tyO at ht
 ac_nf
 rcases hs with hs|⟨hs,hx2⟩
 ·refine cF (dA ?_)
  ext
  refine ⟨z,rfl,hz,?_⟩
  rw [hs]
  ext
  refine ⟨z,rfl,hz,hok,λe=>?_⟩
  ext
  exact ⟨Nat.le_of_ble_eq_true rfl,.mk hq⟩
 ·refine cG (cA ?_)
  ext
  refine ⟨z,rfl,hz,?_⟩
  rw [hs]
  ext
  refine ifB (λhb=>?_) λhb=>?_
  ·ext
   exact ⟨by decide,.mk hq⟩
  ·exact absurd (of_decide_eq_false hb) (by omega)
def uB (Y:Addr):WSp:=λts S Q=>∃ t y q c m x,ts=[.ref t]/\S t=some (tyO Y y q c m x)/\x.length<=24/\x ≠ "" /\ Q .non (put S t (tyO Y y q c m (PySem.Txt.slice x none (some (-1)))))
theorem pK:FnScope vv1 vv1 (aq iK):=⟨rfl,rfl,rfl,by decide +kernel,rfl,by decide +kernel,by decide +kernel⟩
theorem D6 (F:!"back" "Typist.back" iK) (T:Txt K mg C L R Y D Z):!1 f fd vv1 (uB Y):=by
 exists pK
 refine ⟨_,((ak (az (aG hr (ap T.gut (aa 0)) ag) (ai bf) aF) (ai (bE rfl T.gut (aa 0) (bJ false rfl (ap T.gut (aa 0)) bH (bI (gZ aj))))))),ax λv hu ts S Q h=>?_⟩
 obtain ⟨t,y,q,c,m,x,rfl,ht,hx,PL,hq⟩:=h
 unfold tyO at ht
 ac_nf
 ext
 rw [decide_eq_false PL,Bool.false_xor]
 ext
 exact .mk hq
def sN (Y N:Addr):aU:=λts S R=>∃ t y q c m,ts=[.ref t]/\S t=some (tyO Y y q c m "")/\R N S
theorem D7 (F:!"back" "Typist.back" iK) (T:Txt K mg C L R Y D Z):FnOk P w K mg base (CX1 P w) 1 f fd vv1 (aH K (sN Y Z.S)):=by
 exists pK
 refine ⟨_,((aw (aT (aG hr (ap T.gut (aa 0)) ag) (aw (bS T.x_NoSign T.k_NoSign rfl (by rfl) T.mg_NoSign (ae ag af))) bC))),bo λv hu ts S Q h=>?_⟩
 obtain ⟨t,y,q,c,m,rfl,ht,hq⟩:=h
 unfold tyO at ht
 ac_nf
 ext
 rw [decide_eq_true rfl,Bool.false_xor]
 ext
 exact ⟨by decide,.mk hq⟩
def mR (Y:Addr):WSp:=λts S Q=>∃ t y q c m x,ts=[.ref t]/\S t=some (tyO Y y q c m x)/\Q .non (put S t (tyO Y y q c m ""))
theorem xv:FnScope vv1 vv1 (aq kn):=⟨rfl,rfl,rfl,by decide +kernel,rfl,by decide +kernel,by decide +kernel⟩
theorem BA (F:!"clear" "Typist.clear" kn) (T:Txt K mg C L R Y D Z):!1 f fd vv1 (mR Y):=by
 exists xv
 refine ⟨_,((ai (bE rfl T.gut (aa 0) ag))),ax λv hu ts S Q h=>?_⟩
 obtain ⟨t,y,q,c,m,x,rfl,ht,hq⟩:=h
 unfold tyO at ht
 ac_nf
 ext
 exact .mk hq
def sO (Y:Addr):WSp:=λts S Q=>∃ t y q c m x,ts=[.ref t]/\S t=some (tyO Y y q c m x)/\Q (.str x) S
theorem xw:FnScope vv1 vv1 (aq ko):=⟨rfl,rfl,rfl,by decide +kernel,rfl,by decide +kernel,by decide +kernel⟩
theorem BB (F:!"typed" "Typist.typed" ko) (T:Txt K mg C L R Y D Z):!1 f fd vv1 (sO Y):=by
 exists xw
 refine ⟨_,((ai (av (ap T.gut (aa 0))))),ax λv hu ts S Q h=>?_⟩
 obtain ⟨t,y,q,c,m,x,rfl,ht,hq⟩:=h
 unfold tyO at ht
 ac_nf
 ext
 exact .mk hq
def uC (Y:Addr):WSp:=λts S Q=>∃ t y q c m x ln,ts=[.ref t]/\S t=some (tyO Y y q c m x)/\S c=some (.lst (List.map T2.T.str ln))/\Q (.lst (ln.map T2.T.str)) S
theorem xD:FnScope vv1 vv1 (aq kA):=⟨rfl,rfl,rfl,by decide +kernel,rfl,by decide +kernel,by decide +kernel⟩
theorem D8 (F:!"line" "Typist.line" kA) (T:Txt K mg C L R Y D Z):!1 f fd vv1 (uC Y):=by
 exists xD
 refine ⟨_,((ai (av (om (Fl false rfl) (by rfl) T.list PyProof.Rows.boot_list (ae (ap T.guc (aa 0)) af))))),ax λv hu ts S Q h=>?_⟩
 obtain ⟨t,y,q,c,m,x,ln,rfl,ht,hc,hq⟩:=h
 unfold tyO at ht
 ac_nf
 ext
 exact .mk hq
theorem BC {α:Type}(l:List α) (a:α):atI (l++[a]) (-1)=some a:=by
 simp [atI,ixN]
 rw [if_pos (by omega),Option.bind_some,show (-1+((l.length:Int)+1)).toNat=l.length by omega]
 simp
noncomputable def lst (ln:List Str):Str:=ln.getLastD ""
def nK (Y:Addr):WSp:=λts S Q=>∃ t y q c m x ln,ts=[.ref t]/\S t=some (tyO Y y q c m x)/\S c=some (.lst (List.map T2.T.str ln))/\Q (.str (lst ln)) S
theorem xj:FnScope vv1 vv1 (aq kf):=⟨rfl,rfl,rfl,by decide +kernel,rfl,by decide +kernel,by decide +kernel⟩
theorem D9 (F:!"last_chosen" "Typist.last_chosen" kf) (T:Txt K mg C L R Y D Z):!1 f fd vv1 (nK Y):=by
 exists xj
 refine ⟨_,((ai (av (jE (rj rfl (ap T.guc (aa 0))) (aC (ap T.guc (aa 0)) (gZ aj)) ag)))),ax λv hu ts S Q h=>?_⟩
 obtain ⟨t,y,q,c,m,x,ln,rfl,ht,hc,hq⟩:=h
 unfold tyO at ht
 ac_nf
 ext
 rcases List.eq_nil_or_concat ln with rfl|⟨l0,z,rfl⟩
 ·ext
  exact .mk hq
 ·rw [List.concat_eq_append] at *
  rw [show lst (l0++[z])=z by unfold lst;simp] at hq
  rw [show (!(List.map T2.T.str (l0++[z])).isEmpty)=true by simp]
  ext
  refine va hc (t:=.str z) (by rw [List.map_append];exact BC _ _) ?_
  exact .mk hq
abbrev R4:=Str×Int×Int×Bool
noncomputable def r4 (a:R4):T2.T:=.tup [.str a.1,.int a.2.1,.int a.2.2.1,.bl a.2.2.2]
noncomputable def rk (a:R4):Ky:=.cons (.i (-a.2.1)) (.cons (ky (a.1,a.2.2.1)) .nil)
def k4 (a:R4):Ky:=.cons (.tt (!a.2.2.2)) (.cons (rk a) .nil)
noncomputable def u4:T2.T->Ky
 |.tup [.str z,.int p,.int w,.bl o]=>k4 (z,p,w,o)
 |_=>.nil
theorem uD {a b:R4}(h:k4 a=k4 b):a=b:=by
 obtain ⟨z,p,w,o⟩:=a
 obtain ⟨z',p',w',o'⟩:=b
 unfold k4 rk ky at h
 simp only [Ky.cons.injEq,Ky.tt.injEq,Ky.i.injEq,Ky.s.injEq,and_true] at h
 obtain ⟨h1,h2,h3,h4⟩:=h
 have:o=o':=by cases o<;>cases o'<;>simp_all
 have:p=p':=by omega
 have:w=w':=by omega
 subst_vars;rfl
def w9:WSp:=λts S Q=>∃ a:R4,ts=[r4 a]/\Q (tre (rk a)) S
theorem xP:FnScope ["one"] ["one"] (aq kJ):=⟨rfl,rfl,rfl,by decide +kernel,rfl,by decide +kernel,by decide +kernel⟩
theorem J9 (F:!"ranked_key" kJ) (N0:!1 f1 LX ["pair"] jw) (N1:Df K mg "rank_key" f1 LX ["pair"]):!2 f fd ["one"] w9:=by
 exists xP
 refine ⟨_,((ai (av (aY (ae (gZ (aC (aa 0) aj)) (ae (aA N0 N1 hr.m (ae (aY (ae (aC (aa 0) aj) (ae (aC (aa 0) aj) af))) af)) af)))))),ax λv hu ts S Q h=>?_⟩
 obtain ⟨a,rfl,hq⟩:=h
 ac_nf
 unfold r4
 ext
 refine ul (a:=(a.1,a.2.2.1)) ?_
 ext
 refine .mk ?_
 rw [nz]
 rw [show tre (rk a)=.tup [.int (-a.2.1),tre (ky (a.1,a.2.2.1))] from rfl,nz] at hq
 exact hq
def xa:WSp:=λts S Q=>∃ a:R4,ts=[r4 a]/\Q (tre (k4 a)) S
theorem yx:FnScope ["one"] ["one"] (aq k8):=⟨rfl,rfl,rfl,by decide +kernel,rfl,by decide +kernel,by decide +kernel⟩
theorem Ka (F:!"told_key" k8) (PN:!2 f1 LX ["one"] w9) (PP:Df K mg "ranked_key" f1 LX ["one"]):!3 f fd ["one"] xa:=by
 exists yx
 refine ⟨_,((ai (av (aY (ae (tI (aC (aa 0) aj)) (ae (aA PN PP hr.m (ae (aa 0) af)) af)))))),ax λv hu ts S Q h=>?_⟩
 obtain ⟨a,rfl,hq⟩:=h
 ac_nf
 unfold r4
 ext
 refine ⟨a,rfl,?_⟩
 ext
 refine .mk ?_
 exact hq
def srt {α:Type}(κ:α->Ky) (l:List α):List α:=Classical.epsilon λm=>m.Perm l/\m.Pairwise λa b=>Ky.lt (κ b) (κ a)=false
theorem z7 {α:Type}{κ:α->Ky}{k0:Ky}(hs:∀ a,Ky.shp k0 (κ a)=true) (hi:∀ a b,κ a=κ b->a=b):∀ {l m:List α},(l.Pairwise λa b=>Ky.lt (κ b) (κ a)=false)->(m.Pairwise λa b=>Ky.lt (κ b) (κ a)=false)->l.Nodup->l.Perm m->l=m:=by
 intro l
 induction l with
 |nil=>intro m _ _ _ p;exact (List.nil_perm.mp p).symm
 |cons a l ih =>
  intro m h1 h2 hn p
  cases m with
  |nil=>exact absurd p.length_eq (by simp)
  |cons b m =>
   rw [List.pairwise_cons] at h1 h2
   rw [List.nodup_cons] at hn
   by_cases e:a=b
   ·subst e
    rw [ih h1.2 h2.2 hn.2 (List.Perm.cons_inv p)]
   ·have ha:a∈m:=(List.mem_cons.mp (p.mem_iff.mp List.mem_cons_self)).resolve_left e
    have hb:b∈l:=(List.mem_cons.mp (p.mem_iff.mpr List.mem_cons_self)).resolve_left (Ne.symm e)
    have q1:=h1.1 b hb
    have q2:=h2.1 a ha
    rcases Ky.tri (Ky.shp_trans (Ky.qZ (hs a)) (hs b)) with q|q|q
    ·rw [q] at q2;cases q2
    ·exact absurd (hi _ _ q) e
    ·rw [q] at q1;cases q1
theorem nM {α:Type}{κ:α->Ky}{k0:Ky}(hs:∀ a,Ky.shp k0 (κ a)=true) (hi:∀ a b,κ a=κ b->a=b) {l l':List α}(hn:l.Nodup) (p:l'.Perm l) (h:l'.Pairwise λa b=>Ky.lt (κ b) (κ a)=false):l'=srt κ l:=by
 have z:=Classical.epsilon_spec (p:=λm:List α=>m.Perm l/\m.Pairwise λa b=>Ky.lt (κ b) (κ a)=false) ⟨l',p,h⟩
 exact z7 hs hi h z.2 (p.nodup_iff.mpr hn) (p.trans z.1.symm)
def rows (ps:Pm) (i:Int) (b:Str) (l:List Rw):List R4:=l.map λa=>(a.1,pw ps i b a.1,a.2.1,a.2.2)
def tld (ps:Pm) (i:Int) (b:Str) (l:List Rw) (m:Int):List R4:=(srt k4 (rows ps i b l)).take m.toNat
theorem D' {ps:Pm}{i:Int}{b:Str}{l:List Rw}(h:l.Nodup):(rows ps i b l).Nodup:=by
 unfold rows
 refine List.Pairwise.map _ (λa c PL=>?_) h
 intro e
 obtain ⟨z,w,o⟩:=a
 obtain ⟨z',w',o'⟩:=c
 simp only [Prod.mk.injEq] at e
 exact PL (by obtain ⟨e1,_,e2,e3⟩:=e;rw [e1,e2,e3])
theorem Kb {α:Type}{grd:Sto->Prop}{g:WG}{te:WE}{Q:List T2.T->Sto->Prop}(f:α->T2.T) (φ:α->T2.T) (cs:StT){ls:List α}{S:Sto}(hg:grd S) (hz:ls.length<=sizeLine)
  (step:∀ a∈ls,∀ (u v w:Option T2.T) (LU:List T2.T) (N:List T2.T->StT->Sto->Prop),LU.length<sizeLine->(∀ u' v' w',N (LU++[φ a]) (u'::v'::w'::cs) S) ->
   g (f a) (u::v::w::cs) S λMR S2=>jG MR S2 λb S3=>if b=true then te MR S3 λy S4=>LU.length<sizeLine/\N (LU++[y]) MR S4 else N LU MR S3)
  (done:Q (ls.map φ) S):cV grd g jG te Q (ls.map f) [] (none::none::none::cs) S:=by
 refine lN (λitems LU LR S'=>∃ pre O1 u v w,ls=pre++O1/\items=O1.map f/\LU=pre.map φ/\LR=u::v::w::cs/\S'=S) ⟨[],ls,none,none,none,rfl,rfl,rfl,rfl,rfl⟩ ?_ ?_
 ·rintro t ts LU LR S' N ⟨pre,O1,u,v,w,e,e2,rfl,rfl,rfl⟩ hN
  cases O1 with
  |nil=>cases e2
  |cons a r =>
   simp only [List.map_cons,List.cons.injEq] at e2
   obtain ⟨rfl,rfl⟩:=e2
   refine ⟨hg,step a (by rw [e];simp) u v w _ N ?_ λu' v' w'=>hN _ _ _ ⟨pre++[a],r,u',v',w',by rw [e];simp,rfl,by simp,rfl,rfl⟩⟩
   have h2:ls.length=pre.length+(r.length+1):=by rw [e];simp
   rw [List.length_map]
   omega
 ·rintro LU LR S' ⟨pre,O1,u,v,w,e,e2,rfl,rfl,rfl⟩
  have:O1=[]:=by cases O1 with|nil=>rfl|cons _ _=>cases e2
  subst this
  rw [List.append_nil] at e
  subst e
  exact ⟨hg,done⟩
structure Tp (C L R Y:Addr) (S:Sto) (u y q g c h e p d v:Addr) (m k n i:Int) (hs ms:Ms) (vs:List (Str×Bool)) (ps:Pm) (x:Str) (ln:List Str):Prop where
 ty:S u=some (tyO Y y q c m x)
 ly:Ly C L S y h e p d v k n hs ms vs
 pr:S q=some (prO R g i)
 pd:S g=some (.dT (toT ps))
 li:S c=some (.lst (ln.map T2.T.str))
structure Ok (k n i:Int) (hs ms:Ms) (ps:Pm):Prop where
 h:Mo k hs
 o:Mo n ms
 le:hs.length+ms.length<60
 p:Wf 1000 i ps
theorem Kc {S:Sto}{Q:T->Sto->Prop}{y h e p d v:Addr}{k n:Int}{hs ms:Ms}{vs:List (Str×Bool)}{b:Str}(hL:Ly C L S y h e p d v k n hs ms vs) (h1:Mo k hs) (h2:Mo n ms) (q:Q (.lst ((bR hs ms vs k n b).map rw3)) S):oG C L (.ref y::([.str b]++[])) S Q:=⟨y,h,e,p,d,v,k,n,hs,ms,vs,b,rfl,hL,h1,h2,q⟩
theorem sP {k n:Int}{hs ms:Ms}{vs:List (Str×Bool)}{b:Str}:(bR hs ms vs k n b).length<=ms.length+hs.length:=by
 unfold bR wo ka kb
 rw [List.length_append,List.length_map,List.length_map,gF,gF]
 have a1:=List.length_filter_le (λa:Rt=>(look vs a.1).isNone) (rtd ms n b)
 have a2:=je ms n b
 have b2:=je hs k b
 have b1:=List.length_filter_le (λa:Rt=>(look vs a.1).isNone&&(look ms a.1).isNone) (rtd hs k b)
 omega
theorem Hb {k n:Int}{hs ms:Ms}{vs:List (Str×Bool)}{b:Str}(h1:Mo k hs) (h2:Mo n ms):(bR hs ms vs k n b).Nodup:=by
 unfold bR wo ka kb
 rw [List.nodup_append]
 refine ⟨?_,?_,λx hx y hy e=>?_⟩
 ·refine List.Pairwise.map _ (λa c PL=>?_) ((eY _).nodup_iff.mpr ((jv h2.nd).filter _))
  intro e
  exact PL (Prod.ext (congrArg (λz:Rw=>z.1) e) (congrArg (λz:Rw=>z.2.1) e))
 ·refine List.Pairwise.map _ (λa c PL=>?_) ((eY _).nodup_iff.mpr ((jv h1.nd).filter _))
  intro e
  exact PL (Prod.ext (congrArg (λz:Rw=>z.1) e) (congrArg (λz:Rw=>z.2.1) e))
 ·obtain ⟨a,_,rfl⟩:=List.mem_map.mp hx
  obtain ⟨c,_,rfl⟩:=List.mem_map.mp hy
  have:=congrArg (λz:Rw=>z.2.2) e
  cases this
def jx (C L R Y:Addr):WSp:=λts S Q=>∃ u y q g c h e p d v m k n i hs ms vs ps x ln,ts=[.ref u]/\Tp C L R Y S u y q g c h e p d v m k n i hs ms vs ps x ln/\Ok k n i hs ms ps/\0<=m/\((srt k4 (rows ps i (lst ln) (bR hs ms vs k n x))).Perm (rows ps i (lst ln) (bR hs ms vs k n x))->Q (.lst ((tld ps i (lst ln) (bR hs ms vs k n x) m).map r4)) S)
theorem xE:FnScope ["self","before","rows"] vv1 (aq kB):=⟨rfl,rfl,rfl,by decide +kernel,rfl,by decide +kernel,by decide +kernel⟩
theorem Ea (F:!"told" "Typist.told" kB) (T:Txt K mg C L R Y D Z)
  (Mh:!1 f1 LX vv1 (nK Y)) (Mi:Meth K Y "last_chosen" f1) (Mj:ao K LX vv1 [])
  (N6:!6 f2 M9 cN (oG C L)) (N7:Meth K L "all_told" f2) (N8:ao K M9 cN [])
  (Om:!2 f3 Oi dC (pi R)) (On:Meth K R "worth_of" f3) (Oo:ao K Oi dC [])
  (QD:!3 f4 QF ["one"] xa) (QK:Df K mg "told_key" f4 QF ["one"]):!7 f fd vv1 (jx C L R Y):=by
 exists xE
 refine ⟨_,((ak (aD 1 nd (cf (T.gu Mi) Mh Mj hr.m (aa 0))) (ak (lL false (i:=2) vv17 3 [1,0] rfl nd rfl (Or.inl rfl) (d3 rfl (aL (T.gl N7) N6 N8 hr.m (ap T.gul (aa 0)) (ae (ap T.gut (aa 0)) af))) (λ_ _ _ _=>(gK (λh=>gB (n:=3) rfl rfl h) (cz (bp 0 (show List.Nodup (vv17:List Str) from by decide +kernel)) (cz (bp 1 (show List.Nodup (vv17:List Str) from by decide +kernel)) (cz (bp 2 (show List.Nodup (vv17:List Str) from by decide +kernel)) gC (λh1 h2=>cy h1 h2)) (λh1 h2=>cy h1 h2)) (λh1 h2=>cy h1 h2)))) (λ_ _ _ _=>d4) (λ_ _ _ _=>(aY (ae (aa 0) (ae (aL (T.gp On) Om Oo hr.m (ap T.gup (aa 4)) (ae (aa 3) (ae (aa 0) af))) (ae (aa 1) (ae (aa 2) af))))))) (ai (av (bJ false rfl (sk false rfl QD QK hr.m (by rfl) T.sorted (by rfl) (ae (aa 2) af)) bH (bI (ap T.gum (aa 0))))))))),ax λv hu ts S Q hh=>?_⟩
 obtain ⟨u,y,q,g,c,h,e,p,d,v,m,k,n,i,hs,ms,vs,ps,x,ln,rfl,tp,ok,hm,hq⟩:=hh
 have ht:=tp.ty
 have hy:=tp.ly.ins
 have hp:=tp.pr
 unfold tyO at ht
 unfold prO at hp
 ac_nf
 ext
 refine ⟨u,y,q,c,m,x,ln,rfl,tp.ty,tp.li,?_⟩
 ext
 refine Kc tp.ly ok.h ok.o ?_
 have MU:=sP (k:=k) (n:=n) (hs:=hs) (ms:=ms) (vs:=vs) (b:=x)
 have hnd:=Hb (vs:=vs) (b:=x) ok.h ok.o
 have h60:=ok.le
 generalize bR hs ms vs k n x=al at MU hnd hq ⊢
 ext
 refine Kb (ls:=al) rw3 (λa=>r4 (a.1,pw ps i (lst ln) a.1,a.2.1,a.2.2)) [some (.str (lst ln)),some (.ref u)] trivial (by rw [sizeLine_eq];omega) (λa ha _ _ _ LU N Nf hN=>?_) ?_
 ·unfold rw3
  ext
  refine LJ tp.pr tp.pd ok.p ?_
  ext
  exact ⟨Nf,hN _ _ _⟩
 ·rw [show al.map (λa=>r4 (a.1,pw ps i (lst ln) a.1,a.2.1,a.2.2))=(rows ps i (lst ln) al).map r4 by unfold rows;rw [List.map_map];rfl]
  ext
  refine sm u4 (k4 ("",0,0,true)) rfl (by unfold rows;rw [List.length_map];omega) rfl (by decide) (λa ha=>⟨rfl,rfl,λS' Q' q=>⟨a,rfl,q⟩⟩) λl' p hs=>?_
  have es:=nM (κ:=k4) (k0:=k4 ("",0,0,true)) (λ_=>rfl) (λa b=>uD) (D' hnd) p hs
  rw [es] at p ⊢
  ext
  rw [sf hm]
  exact .mk (hq p)
theorem hE {S:Sto}{a b:Addr}{o u:O}(h1:S a=some o) (h2:S b=some u) (h:o≠u):a≠b:=λe=>by rw [e,h2] at h1;exact h (Option.some.inj h1).symm
theorem di {S:Sto}{a b:Addr}{o:O}(h1:S a=some o) (h2:S b=none):a≠b:=λe=>by rw [e,h2] at h1;cases h1
structure At (S:Sto) (l:List (Addr×O)):Prop where
 nd:(l.map (·.1)).Nodup
 is:∀ x∈l,S x.1=some x.2
section
variable {S S' S0:Sto}{l l' l0 l1 l2 l3:List (Addr×O)}{a:Addr}{o o':O}
theorem At.get (h:At S l) (i:Nat) (e:l[i]?=some (a,o)):S a=some o:=h.is _ (List.mem_of_getElem? e)
theorem sQ {i:Nat}(e:l[i]?=some (a,o)):(l.set i (a,o')).map (·.1)=l.map (·.1):=by
 rw [List.map_set]
 refine List.ext_getElem? λj=>?_
 rw [List.getElem?_set]
 by_cases h:i=j
 ·subst h;rw [if_pos rfl,if_pos (by rw [List.length_map];exact (List.getElem?_eq_some_iff.mp e).1),List.getElem?_map,e];rfl
 ·rw [if_neg h]
theorem At.put (h:At S l) (i:Nat) (e:l[i]?=some (a,o)):At (T2.put S a o') (l.set i (a,o')):=by
 obtain ⟨hi,e2⟩:=List.getElem?_eq_some_iff.mp e
 refine ⟨sQ e ▸ h.nd,λx hx=>?_⟩
 obtain ⟨j,hj,ej⟩:=List.mem_iff_getElem.mp hx
 rw [List.length_set] at hj
 rw [List.getElem_set] at ej
 split at ej
 ·subst ej;exact aI
 ·rename_i hij
  have PL:x.1≠a:=λq=>by
   have h1:=(List.getElem_inj (i:=i) (j:=j) (h₀:=by rw [List.length_map];exact hi) (h₁:=by rw [List.length_map];exact hj) h.nd).mp (by rw [List.getElem_map,List.getElem_map,e2,ej,q])
   exact hij h1
  rw [ay PL]
  exact h.is x (by rw [<- ej];exact List.getElem_mem hj)
theorem At.left (h:At S (l1++l2)):At S l1:=⟨by have n:=h.nd;rw [List.map_append] at n;exact (List.nodup_append.mp n).1,λx hx=>h.is x (List.mem_append_left _ hx)⟩
structure Up (S0:Sto) (l0:List (Addr×O)) (S:Sto) (l:List (Addr×O)):Prop where
 at_:At S l
 ks:l.map (·.1)=l0.map (·.1)
 fr:∀ a,a∉l0.map (·.1)->S a=S0 a
theorem Up.refl (h:At S l):Up S l S l:=⟨h,rfl,λ_ _=>rfl⟩
theorem Up.put (h:Up S0 l0 S l) (i:Nat) (e:l[i]?=some (a,o)):Up S0 l0 (T2.put S a o') (l.set i (a,o')):=by
 refine ⟨h.at_.put i e,?_,λb hb=>?_⟩
 ·rw [<- h.ks];exact sQ e
 ·have:b≠a:=λq=>hb (by rw [<- h.ks,q];exact List.mem_map_of_mem (List.mem_of_getElem? e))
  rw [ay this];exact h.fr b hb
theorem At.up {l1':List (Addr×O)}(h:At S (l1++l2)) (u:Up S l1 S' l1'):At S' (l1'++l2):=by
 have n:=h.nd
 rw [List.map_append] at n
 refine ⟨by rw [List.map_append,u.ks];exact n,λx hx=>?_⟩
 rcases List.mem_append.mp hx with hx|hx
 ·exact u.at_.is x hx
 ·rw [u.fr x.1 λq=>(List.nodup_append.mp n).2.2 _ q _ (List.mem_map_of_mem hx) rfl]
  exact h.is x (List.mem_append_right _ hx)
end
section
variable {C:Addr}{S S':Sto}{l l':List (Addr×O)}{a b y p d v h:Addr}{o u:O}
theorem At.ne (h:At S l) (i j:Nat) (hij:i≠j) (ei:l[i]?=some (a,o)) (ej:l[j]?=some (b,u)):a≠b:=λq=>by
 obtain ⟨hi,e2⟩:=List.getElem?_eq_some_iff.mp ei
 obtain ⟨hj,e3⟩:=List.getElem?_eq_some_iff.mp ej
 exact hij ((List.getElem_inj (i:=i) (j:=j) (h₀:=by rw [List.length_map];exact hi) (h₁:=by rw [List.length_map];exact hj) h.nd).mp (by rw [List.getElem_map,List.getElem_map,e2,e3];exact q))
theorem At.pick (h:At S l) (is:List Nat) (hn:is.Nodup) (e:is.map (l[·]?)=l'.map some):At S l':=by
 induction is generalizing l' with
 |nil=>cases l' with
  |nil=>exact ⟨List.nodup_nil,λx hx=>nomatch hx⟩
  |cons _ _=>cases e
 |cons i is ih =>
  cases l' with
  |nil=>cases e
  |cons x r =>
   rw [List.map_cons,List.map_cons,List.cons.injEq] at e
   have q:=ih (List.nodup_cons.mp hn).2 e.2
   refine ⟨List.nodup_cons.mpr ⟨λhm=>?_,q.nd⟩,λz hz=>?_⟩
   ·obtain ⟨z,hz,hzx⟩:=List.mem_map.mp hm
    have Tk:some z∈is.map (l[·]?):=by rw [e.2];exact List.mem_map_of_mem hz
    obtain ⟨j,hj,ej⟩:=List.mem_map.mp Tk
    exact h.ne i j (λq=>(List.nodup_cons.mp hn).1 (by rw [q];exact hj)) (a:=x.1) (o:=x.2) (b:=z.1) (u:=z.2) e.1 ej hzx.symm
   ·rcases List.mem_cons.mp hz with rfl|hz
    ·exact h.is _ (List.mem_of_getElem? e.1)
    ·exact q.is z hz
theorem At.cons (h:At S l) (ha:S a=none):At (T2.put S a o) ((a,o)::l):=by
 refine ⟨List.nodup_cons.mpr ⟨λhm=>?_,h.nd⟩,λx hx=>?_⟩
 ·obtain ⟨x,hx,e⟩:=List.mem_map.mp hm
  exact di (h.is x hx) ha e
 ·rcases List.mem_cons.mp hx with rfl|hx
  ·exact aI
  ·exact (ay (di (h.is x hx) ha)).trans (h.is x hx)
end
theorem J5 {S:Sto}{Q:T2.T->Sto->Prop}{α:Type}{f:α->T2.T}{ls:List α}{z:α}{i:Int}(e:atI ls i=some z) (h:Q (f z) S):gIx (.lst (ls.map f)) (.int i) S Q :=
 fN (by rw [mI,e];rfl) h
theorem i6 {α:Type}(l:List α) (k:Nat):atI l (k:Int)=l[k]?:=by
 by_cases h:k<l.length
 ·simp [atI,ixN,h]
 ·simp [atI,ixN,h]
theorem LI {S:Sto}{Q:T2.T->Sto->Prop}{a:R4}(h:Q (.str a.1) S):gIx (r4 a) (.int 0) S Q:=oj (t:=.str a.1) rfl h
structure Ad where
 (h e y p d v u q g c:Addr)
structure Ab where
 (k n i:Int) (hs ms:Ms) (vs:List (Str×Bool)) (ps:Pm) (x:Str) (ln:List Str)
def woO (C d:Addr) (n:Int):O:=.ins C [("marks",.ref d),("now",.int n)]
noncomputable def lyO (L h p v:Addr):O:=.ins L [("house",.ref h),("own",.ref p),("veiled",.ref v)]
structure Cs where
 (C L R Y:Addr)
def lay (D:Cs) (A:Ad) (m:Int) (a:Ab):List (Addr×O) :=
 [(A.h,woO D.C A.e a.k),(A.e,.dK (kt mkT a.hs)),(A.y,lyO D.L A.h A.p A.v),(A.p,woO D.C A.d a.n),(A.d,.dK (kt mkT a.ms)),(A.v,.dK (kt T2.T.bl a.vs)),(A.u,tyO D.Y A.y A.q A.c m a.x),(A.q,prO D.R A.g a.i),(A.g,.dT (toT a.ps)),(A.c,.lst (a.ln.map T2.T.str))]
section
variable {D:Cs}{A:Ad}{m:Int}{a:Ab}{S S0:Sto}{l0:List (Addr×O)}
theorem At.wh (h:At S (lay D A m a)):Wo D.C S A.h A.e a.k a.hs:=⟨h.get 0 rfl,h.get 1 rfl⟩
theorem At.wo (h:At S (lay D A m a)):Wo D.C S A.p A.d a.n a.ms:=⟨h.get 3 rfl,h.get 4 rfl⟩
theorem At.ly (h:At S (lay D A m a)):Ly D.C D.L S A.y A.h A.e A.p A.d A.v a.k a.n a.hs a.ms a.vs:=⟨h.get 2 rfl,h.wh,h.wo,h.get 5 rfl⟩
theorem At.tp (h:At S (lay D A m a)):Tp D.C D.L D.R D.Y S A.u A.y A.q A.g A.c A.h A.e A.p A.d A.v m a.k a.n a.i a.hs a.ms a.vs a.ps a.x a.ln:=⟨h.get 6 rfl,h.ly,h.get 7 rfl,h.get 8 rfl,h.get 9 rfl⟩
theorem Up.hou {hs:Ms}(h:Up S0 l0 S (lay D A m a)):Up S0 l0 (T2.put S A.e (.dK (kt mkT hs))) (lay D A m { a with hs:=hs }):=h.put 1 rfl
theorem Up.own {ms:Ms}(h:Up S0 l0 S (lay D A m a)):Up S0 l0 (T2.put S A.d (.dK (kt mkT ms))) (lay D A m { a with ms:=ms }):=h.put 4 rfl
theorem Up.vei {vs:List (Str×Bool)}(h:Up S0 l0 S (lay D A m a)):Up S0 l0 (T2.put S A.v (.dK (kt T2.T.bl vs))) (lay D A m { a with vs:=vs }):=h.put 5 rfl
theorem Up.eraH {k:Int}(h:Up S0 l0 S (lay D A m a)):Up S0 l0 (T2.put S A.h (woO D.C A.e k)) (lay D A m { a with k:=k }):=h.put 0 rfl
theorem Up.eraO {n:Int}(h:Up S0 l0 S (lay D A m a)):Up S0 l0 (T2.put S A.p (woO D.C A.d n)) (lay D A m { a with n:=n }):=h.put 3 rfl
theorem Up.eraP {i:Int}(h:Up S0 l0 S (lay D A m a)):Up S0 l0 (T2.put S A.q (prO D.R A.g i)) (lay D A m { a with i:=i }):=h.put 7 rfl
theorem Up.prs {ps:Pm}(h:Up S0 l0 S (lay D A m a)):Up S0 l0 (T2.put S A.g (.dT (toT ps))) (lay D A m { a with ps:=ps }):=h.put 8 rfl
theorem Up.txt {x:Str}(h:Up S0 l0 S (lay D A m a)):Up S0 l0 (T2.put S A.u (tyO D.Y A.y A.q A.c m x)) (lay D A m { a with x:=x }):=h.put 6 rfl
theorem Up.lin {ln:List Str}(h:Up S0 l0 S (lay D A m a)):Up S0 l0 (T2.put S A.c (.lst (ln.map T2.T.str))) (lay D A m { a with ln:=ln }):=h.put 9 rfl
end
structure Okk (a:Ab):Prop where
 ok:Ok a.k a.n a.i a.hs a.ms a.ps
 vl:a.vs.length<60
 xl:a.x.length<=24
 ll:a.ln.length<=2000
def Ab.told (a:Ab) (m:Int):List R4:=tld a.ps a.i (lst a.ln) (bR a.hs a.ms a.vs a.k a.n a.x) m
def usd (ms:Ms) (n:Int) (z:Str) (c:Int):Ms:=match look ms z with
 |some m=>pu ms z (wrt m n+c,n)
 |none=>ms
theorem oI {ms:Ms}{n c:Int}{z:Str}{m:Int×Int}(h:look ms z=some m):usd ms n z c=pu ms z (wrt m n+c,n):=by unfold usd;rw [h]
def Ab.use (a:Ab) (z:Str) (c:Int):Ab:=if (look a.ms z).isSome then { a with ms:=usd a.ms a.n z c } else { a with hs:=usd a.hs a.k z c }
theorem Kd {a:Ab}{z:Str}{c:Int}{m:Int×Int}(h:look a.ms z=some m):a.use z c={ a with ms:=pu a.ms z (wrt m a.n+c,a.n) }:=by unfold Ab.use;rw [h,Option.isSome_some,if_pos rfl,oI h]
theorem Ke {a:Ab}{z:Str}{c:Int}{m:Int×Int}(h:look a.ms z=none) (h2:look a.hs z=some m):a.use z c={ a with hs:=pu a.hs z (wrt m a.k+c,a.k) }:=by unfold Ab.use;rw [h,Option.isSome_none,if_neg (by decide),oI h2]
theorem Hd {a:Ab}{z:Str}{c:Int}:(a.use z c).ps=a.ps/\(a.use z c).i=a.i/\(a.use z c).ln=a.ln/\(a.use z c).x=a.x/\(a.use z c).vs=a.vs/\(a.use z c).k=a.k/\(a.use z c).n=a.n:=by unfold Ab.use;split<;>exact ⟨rfl,rfl,rfl,rfl,rfl,rfl,rfl⟩
def Ab.tak (a:Ab) (z:Str):Ab:={ a.use z 1 with ps:=chosen a.ps a.i (lst a.ln) z,ln:=a.ln++[z],x:="" }
def Can (a:Ab) (z:Str):Prop:=look a.vs z=none/\((∃ m,look a.ms z=some m)\/look a.ms z=none/\∃ m,look a.hs z=some m)
theorem rF {ms:Ms}{n:Int}{b:Str}{r:Rt}(h:r∈rtd ms n b):∃ m,look ms r.1=some m:=by
 unfold rtd fU at h
 obtain ⟨x,hx,rfl⟩:=List.mem_map.mp h
 have hm:x.1∈ms.map (·.1):=List.mem_map_of_mem (List.mem_filter.mp hx).1
 cases q:look ms x.1 with
 |none=>exact absurd hm (As.cP.mp q)
 |some m=>exact ⟨m,rfl⟩
theorem Eb {a:Ab}{b:Str}{r:Rw}(h:r∈bR a.hs a.ms a.vs a.k a.n b):Can a r.1:=by
 unfold bR wo at h
 rcases List.mem_append.mp h with h|h
 ·obtain ⟨s,hs,rfl⟩:=List.mem_map.mp h
  have hs:=(eY _).mem_iff.mp hs
  unfold ka at hs
  obtain ⟨h1,h2⟩:=List.mem_filter.mp hs
  exact ⟨Option.isNone_iff_eq_none.mp h2,.inl (rF h1)⟩
 ·obtain ⟨s,hs,rfl⟩:=List.mem_map.mp h
  have hs:=(eY _).mem_iff.mp hs
  unfold kb at hs
  obtain ⟨h1,h2⟩:=List.mem_filter.mp hs
  simp only [Bool.and_eq_true,Option.isNone_iff_eq_none] at h2
  exact ⟨h2.1,.inr ⟨h2.2,rF h1⟩⟩
theorem rG {a:Ab}{m:Int}{r:R4}(p:(srt k4 (rows a.ps a.i (lst a.ln) (bR a.hs a.ms a.vs a.k a.n a.x))).Perm (rows a.ps a.i (lst a.ln) (bR a.hs a.ms a.vs a.k a.n a.x))) (h:r∈a.told m):Can a r.1:=by
 unfold Ab.told tld at h
 have h:=p.mem_iff.mp (List.mem_of_mem_take h)
 unfold rows at h
 obtain ⟨s,hs,rfl⟩:=List.mem_map.mp h
 exact Eb hs
def sR (D:Cs):WSp:=λts S Q=>∃ A m a i r,ts=[.ref A.u,.int i]/\At S (lay D A m a)/\Okk a/\0<=m/\0<=i/\(a.told m)[i.toNat]?=some r/\∀ S',Up S (lay D A m a) S' (lay D A m (a.tak r.1))->PyData.strOk r.1=true->Q (.str r.1) S'
theorem pL:FnScope ["self","number","told","word"] eQ (aq iL):=⟨rfl,rfl,rfl,by decide +kernel,rfl,by decide +kernel,by decide +kernel⟩
theorem BD (F:!"take" "Typist.take" iL) (T:Txt K mg C L R Y D Z)
  (Mv:!7 f1 LX vv1 (jx C L R Y)) (Mw:Meth K Y "told" f1) (Mx:ao K LX vv1 [])
  (PQ:!4 f2 M9 vv3 (uv C L)) (PU:Meth K L "use" f2){tk:Tok}(O4:ao K M9 vv3 [.int 1 tk])
  (OO:!3 f3 Oi dC (rE R)) (OP:Meth K R "choose" f3) (OQ:ao K Oi dC [])
  (Mh:!1 f4 QF vv1 (nK Y)) (Mi:Meth K Y "last_chosen" f4) (Mj:ao K QF vv1 [])
  (M6:!1 f5 Q9 vv1 (mR Y)) (M7:Meth K Y "clear" f5) (M8:ao K Q9 vv1 []):!8 f fd eQ (sR ⟨C,L,R,Y⟩):=by
 exists pL
 refine ⟨_,((ak (aD 2 nd (cf (T.gu Mw) Mv Mx hr.m (aa 0))) (ak (az (bt (dZ bd jY aj (aa 1) (aV (bv rfl) T.len PySem.boot_len (ae (aa 2) af)))) (ai bf) aF) (ak (aD 3 nd (aC (aC (aa 2) (aa 1)) aj)) (ak (aR (sA (T.gl PU) PQ O4 hr.m (ap T.gul (aa 0)) (ae (aa 3) af))) (ak (aR (aL (T.gp OP) OO OQ hr.m (ap T.gup (aa 0)) (ae (cf (T.gu Mi) Mh Mj hr.m (aa 0)) (ae (aa 3) af)))) (ak (aR (bF PySem.F.plainAttrs_list PySem.F.slot_list_append PySem.F.type_list_append qX (ap T.guc (aa 0)) (ae (aa 3) af))) (ak (aR (cf (T.gu M7) M6 M8 hr.m (aa 0))) (ai (av (aa 3))))))))))),ax λv hu ts S Q h=>?_⟩
 obtain ⟨A,m,a,i,r,rfl,hA,ok,hm,hi,hr4,hq⟩:=h
 have tp:=hA.tp
 have ht:=tp.ty
 unfold tyO at ht
 ac_nf
 ext
 refine ⟨_,_,_,_,_,_,_,_,_,_,_,_,_,_,_,_,_,_,_,_,rfl,tp,ok.ok,hm,λp=>?_⟩
 have Rn:=rG (m:=m) p (List.mem_of_getElem? hr4)
 have hil:i.toNat<(a.told m).length:=(List.getElem?_eq_some_iff.mp hr4).1
 change wgN _ (.lst ((a.told m).map r4)) _ _ _
 generalize a.told m=tl at hr4 hil ⊢
 have hat:atI tl i=some r:=by rw [<- hr4,<- i6,Int.toNat_of_nonneg hi]
 refine u9 rfl ?_
 dsimp only
 refine cu (λLR S'=>LR=[some (.ref A.u),some (.int i),some (.lst (tl.map r4)),none]/\S'=S) ?_ ?_
 ·intro X hX
  ext
  rw [decide_eq_true hi]
  ext
  rw [decide_eq_true (show i<(tl.length:Int) by omega)]
  ext
  exact hX _ _ ⟨rfl,rfl⟩
 rintro LR S' ⟨rfl,rfl⟩
 refine cu (λLR S2=>LR=[some (.ref A.u),some (.int i),some (.lst (tl.map r4)),some (.str r.1)]/\S2=S') ?_ ?_
 ·intro X hX
  ext
  exact hX _ _ ⟨rfl,rfl⟩
 rintro LR S2 ⟨rfl,rfl⟩
 have hly:=tp.ly.ins
 have h1l:=ok.ok.h.len
 have h2l:=ok.ok.o.len
 have hi1:=ok.ok.p
 refine cu (λLR S3=>LR=[some (.ref A.u),some (.int i),some (.lst (tl.map r4)),some (.str r.1)]/\Up S2 (lay ⟨C,L,R,Y⟩ A m a) S3 (lay ⟨C,L,R,Y⟩ A m (a.use r.1 1))) ?_ ?_
 ·intro X hX
  ext
  refine ⟨A.y,_,_,_,_,_,_,_,_,_,_,r.1,1,rfl,tp.ly,by omega,by omega,Rn.1,?_⟩
  rcases Rn.2 with ⟨mm,e⟩|⟨e0,mm,e⟩
  ·refine .inl ⟨mm,e,ok.ok.o.old _ (As.c5 e),?_⟩
   refine hX _ _ ⟨rfl,?_⟩
   rw [Kd e]
   exact (Up.refl hA).own
  ·refine .inr ⟨e0,mm,e,ok.ok.h.old _ (As.c5 e),?_⟩
   refine hX _ _ ⟨rfl,?_⟩
   rw [Ke e0 e]
   exact (Up.refl hA).hou
 rintro LR S3 ⟨rfl,Uu⟩
 obtain ⟨e1,e2,e3,e4,e5,e6,e7⟩:=Hd (a:=a) (z:=r.1) (c:=1)
 have tp3:=Uu.at_.tp
 have ht3:=tp3.ty
 have hp3:=tp3.pr
 have hpd3:=tp3.pd
 have hli3:=tp3.li
 rw [e1] at hpd3
 rw [e2] at hp3
 rw [e3] at hli3
 unfold tyO at ht3
 unfold prO at hp3
 ext
 refine ⟨A.u,_,_,_,_,_,_,rfl,tp3.ty,tp3.li,?_⟩
 rw [e3]
 ext
 refine ⟨A.q,A.g,a.i,a.ps,lst a.ln,r.1,1000,rfl,hp3,hpd3,hi1,by decide,?_⟩
 have U4:=Uu.prs (ps:=chosen a.ps a.i (lst a.ln) r.1)
 generalize put S3 A.g (.dT (toT (chosen a.ps a.i (lst a.ln) r.1)))=S4 at U4 ⊢
 have tp4:=U4.at_.tp
 have ht4:=tp4.ty
 have hli4:S4 A.c=some (.lst (a.ln.map T2.T.str)):=by have:=tp4.li;dsimp only at this;rw [e3] at this;exact this
 unfold tyO at ht4
 ext
 have hl4:=ok.ll
 refine qY hli4 (by rw [List.length_map,sizeLine_eq];omega) ?_
 have U5:=U4.lin (ln:=a.ln++[r.1])
 rw [show (a.ln++[r.1]).map T2.T.str=a.ln.map T2.T.str++[T2.T.str r.1] by rw [List.map_append];rfl] at U5
 generalize put S4 A.c (.lst (a.ln.map T2.T.str++[T2.T.str r.1]))=S5 at U5 ⊢
 have ht5:=U5.at_.tp.ty
 have ht5':=ht5
 unfold tyO at ht5'
 ext
 refine ⟨A.u,_,_,_,_,_,rfl,ht5,?_⟩
 have U6:=U5.txt (x:="")
 ext
 refine .mk (hq _ U6 (Wm.g8 ?_))
 rcases Rn.2 with ⟨mm,e⟩|⟨_,mm,e⟩
 ·exact ok.ok.o.wd _ (As.c5 e)
 ·exact ok.ok.h.wd _ (As.c5 e)
def sS (D:Cs) (X:Addr):aU:=λts S R=>∃ A m a i,ts=[.ref A.u,.int i]/\At S (lay D A m a)/\Okk a/\0<=m/\i.natAbs.log2<1920/\(i<0\/((a.told m).length:Int)<=i)/\R X S
theorem BE (F:!"take" "Typist.take" iL) (T:Txt K mg C L R Y D Z)
  (Mv:!7 f1 LX vv1 (jx C L R Y)) (Mw:Meth K Y "told" f1) (Mx:ao K LX vv1 []):FnOk P w K mg base (CX1 P w) 8 f fd eQ (aH K (sS ⟨C,L,R,Y⟩ Z.H)):=by
 exists pL
 refine ⟨_,((bD (aD 2 nd (cf (T.gu Mw) Mv Mx hr.m (aa 0))) (aw (aT (bt (dZ bd jY aj (aa 1) (aV (bv rfl) T.len PySem.boot_len (ae (aa 2) af)))) (aw (bS T.x_NoChoice T.k_NoChoice rfl (by rfl) T.mg_NoChoice (ae (LA (aa 1)) af))) bC)))),bo λv hu ts S Q h=>?_⟩
 obtain ⟨A,m,a,i,rfl,hA,ok,hm,hi,hr4,hq⟩:=h
 have tp:=hA.tp
 have ht:=tp.ty
 unfold tyO at ht
 ac_nf
 ext
 refine ⟨_,_,_,_,_,_,_,_,_,_,_,_,_,_,_,_,_,_,_,_,rfl,tp,ok.ok,hm,λp=>?_⟩
 change wgN _ (.lst ((a.told m).map r4)) _ _ _
 generalize a.told m=tl at hr4 ⊢
 ext
 by_cases h0:0<=i
 ·rw [decide_eq_true h0]
  ext
  rw [decide_eq_false (show ¬ i<(tl.length:Int) by omega)]
  ext
  refine ⟨i,rfl,hi,λe=>?_⟩
  ext
  exact ⟨Nat.le_of_ble_eq_true rfl,.mk hq⟩
 ·rw [decide_eq_false h0]
  ext
  refine ⟨i,rfl,hi,λe=>?_⟩
  ext
  exact ⟨Nat.le_of_ble_eq_true rfl,.mk hq⟩
def sT (D:Cs):WSp:=λts S Q=>∃ A m a c,ts=[.ref A.u,.int c]/\At S (lay D A m a)/\∀ S',Up S (lay D A m a) S' (lay D A m { a with n:=a.n+c,i:=a.i+c })->Q .non S'
theorem xF:FnScope vv5 vv5 (aq kC):=⟨rfl,rfl,rfl,by decide +kernel,rfl,by decide +kernel,by decide +kernel⟩
theorem BF (F:!"fade" "Typist.fade" kC) (T:Txt K mg C L R Y D Z)
  (O5:!2 f1 LX vv5 (sG C L)) (O6:Meth K L "fade" f1) (O7:ao K LX vv5 [])
  (PV:!1 f2 M9 vv5 (sL R)) (PX:Meth K R "fade" f2) (PY:ao K M9 vv5 []):!3 f fd vv5 (sT ⟨C,L,R,Y⟩):=by
 exists xF
 refine ⟨_,((ak (aR (aL (T.gl O6) O5 O7 hr.m (ap T.gul (aa 0)) (ae (aa 1) af))) (ai (aR (aL (T.gp PX) PV PY hr.m (ap T.gup (aa 0)) (ae (aa 1) af)))))),ax λv hu ts S Q h=>?_⟩
 obtain ⟨A,m,a,c,rfl,hA,hq⟩:=h
 have tp:=hA.tp
 have ht:=tp.ty
 have hy:=tp.ly.ins
 unfold tyO at ht
 ac_nf
 ext
 refine ⟨A.y,_,_,_,_,_,_,_,_,_,_,c,rfl,tp.ly,?_⟩
 have U1:=(Up.refl hA).eraO (n:=a.n+c)
 unfold woO at U1
 dsimp only at U1
 generalize put S A.p (.ins C [("marks",.ref A.d),("now",.int (a.n+c))])=S1 at U1 ⊢
 have tp1:=U1.at_.tp
 have ht1:=tp1.ty
 have hp1:=tp1.pr
 unfold tyO at ht1
 have hp1':=hp1
 unfold prO at hp1'
 ext
 refine ⟨A.q,A.g,a.i,c,rfl,hp1,?_⟩
 exact .mk (hq _ (U1.eraP (i:=a.i+c)))
def isF (c:Nat):Bool:=decide (48<=c)&&decide (c<=57)
theorem He (c:Nat):(!T2.ltS ⟨#[c]⟩ "0" && !T2.ltS "9" ⟨#[c]⟩)=isF c:=by
 have e1:T2.ltS ⟨#[c]⟩ (Str.ofString "0")=decide (c<48):=Wm.jr c 48
 have e2:T2.ltS (Str.ofString "9") ⟨#[c]⟩=decide (57<c):=Wm.jr 57 c
 rw [e1,e2]
 unfold isF
 rw [Bool.eq_iff_iff]
 simp only [Bool.and_eq_true,Bool.not_eq_true',decide_eq_false_iff_not,decide_eq_true_eq]
 omega
theorem Ec (c:Nat):decide (c∈[48,49,50,51,52,53,54,55,56,57])=isF c:=by
 have lo:∀ c<58,decide (c∈[48,49,50,51,52,53,54,55,56,57])=isF c:=by decide +kernel
 by_cases h:c<58
 ·exact lo c h
 ·have hi:∀ x∈[48,49,50,51,52,53,54,55,56,57],x<58:=by decide +kernel
  rw [decide_eq_false λq=>h (hi c q)]
  unfold isF
  rw [decide_eq_false (p:=c<=57) λq=>h (Nat.lt_succ_of_le q),Bool.and_false]
theorem Hf (c:Nat):(!(Builtin.Str.occurrences ("0123456789":Str) ⟨#[c]⟩ 0 ("0123456789":Str).length 1).isEmpty)=isF c:=by
 rw [PySem.StrLaws.found_one,show ("0123456789":Str).cps.toList=[48,49,50,51,52,53,54,55,56,57] by decide +kernel,Ec]
noncomputable def nbB (x:Str):Bool:=decide (1<=x.length)&&decide (x.length<=10)&&(Tm.tl x).all isF&&(decide (x="0") || !decide ((Tm.tl x)[0]?=some 48))
noncomputable def vl (x:Str):Int:=(NumText.digitsVal (Tm.tl x):Nat)
theorem rH {x:Str}(h:nbB x=true):PySem.intText? x=some (vl x):=by
 unfold nbB at h
 simp only [Bool.and_eq_true,decide_eq_true_eq,List.all_eq_true] at h
 obtain ⟨⟨⟨h1,h2⟩,h3⟩,_⟩:=h
 refine PySem.intText_digits (x:=x) (λc hc=>?_) (λe=>?_) (by omega)
 ·have:=h3 c hc
  unfold isF at this
  simp only [Bool.and_eq_true,decide_eq_true_eq] at this
  exact this
 ·rw [<- Tm.len] at h1
  rw [show Tm.tl x=[] from e] at h1
  simp at h1
noncomputable def oc (x:Str):List Nat:=Builtin.Str.occurrences x " " 0 x.length 1
def bef (x:Str) (i:Nat):Str:=Txt.slice x none (some (i:Int))
def aft (x:Str) (i:Nat):Str:=Txt.slice x (some ((i+1:Nat):Int)) none
theorem vE {x:Str}(h:oc x=[]):Txt.find x " "=-1:=by
 unfold Txt.find;rw [show Builtin.Str.occurrences x " " 0 x.length 1=[] from h]
theorem vF {x:Str}{i:Nat}{l:List Nat}(h:oc x=i::l):Txt.find x " "=i:=by
 unfold Txt.find;rw [show Builtin.Str.occurrences x " " 0 x.length 1=i::l from h]
theorem oJ {x:Str}(h:oc x=[]):Txt.partition x " "=(x,Str.empty,Str.empty):=by
 unfold Txt.partition;rw [show Builtin.Str.occurrences x " " 0 x.length 1=[] from h]
theorem jM {x:Str}{i:Nat}{l:List Nat}(h:oc x=i::l):Txt.partition x " "=(bef x i,(Str.ofString " "),aft x i):=by
 unfold Txt.partition;rw [show Builtin.Str.occurrences x " " 0 x.length 1=i::l from h]
 have e1:Builtin.Str.strSub x 0 i=bef x i:=Tm.ext (by
  unfold bef
  rw [Tm.gj]
  have:=StrLaws.strSub_toList x 0 i
  simpa [Tm.tl] using this)
 have e2:Builtin.Str.strSub x (i+(Str.ofString " ").length) x.length=aft x i:=Tm.ext (by
  unfold aft
  rw [Tm.lc]
  have:=StrLaws.strSub_toList x (i+1) x.length
  have el:x.length=x.cps.toList.length:=(Tm.len x).symm
  rw [show i+(Str.ofString " ").length=i+1 from rfl]
  show (Builtin.Str.strSub x (i+1) x.length).cps.toList=x.cps.toList.drop (i+1)
  rw [this,el]
  exact List.take_of_length_le (by rw [List.length_drop];exact Nat.le_refl _))
 show (Builtin.Str.strSub x 0 i,(Str.ofString " "),Builtin.Str.strSub x (i+(Str.ofString " ").length) x.length)=_
 rw [e1,e2]
theorem jf (x:Str) (i:Nat):(bef x i).length<=x.length:=by
 unfold bef;rw [<- Tm.len,<- Tm.len,Tm.gj,List.length_take];omega
theorem jg (x:Str) (i:Nat):(aft x i).length<=x.length:=by
 unfold aft;rw [<- Tm.len,<- Tm.len,Tm.lc,List.length_drop];omega
def Tx (z:Str):Prop:=z.length<=1000/\PyData.strOk z=true
theorem hJ (z:Str):PyData.strOk z=(Tm.tl z).all λc=>decide (c<1114112):=by unfold PyData.strOk Tm.tl;rw [Array.all_toList]
theorem cB {x y:Str}(h1:PyData.strOk x=true) (h2:PyData.strOk y=true):PyData.strOk (x++y)=true:=by rw [hJ] at *;rw [Tm.fG,List.all_append,h1,h2];rfl
theorem eZ {x:Str}{lo hi:Option Int}(h:PyData.strOk x=true):PyData.strOk (PySem.Txt.slice x lo hi)=true:=by
 rw [hJ,List.all_eq_true] at *
 intro c hc
 rw [Tm.eW] at hc
 exact h c (List.mem_of_mem_drop (List.mem_of_mem_take hc))
theorem vG (x:Str) (lo hi:Option Int):(PySem.Txt.slice x lo hi).length<=x.length:=by
 rw [<- Tm.len,Tm.eW,<- Tm.len x,List.length_take,List.length_drop]
 omega
theorem mS (x y:Str):(x++y).length=x.length+y.length:=by rw [<- Tm.len,Tm.fG,List.length_append,Tm.len,Tm.len]
theorem eS {p A C:Prop}[Decidable p] (e:¬p) (h:C):if (false ^^ decide p)=true then A else C:=by rw [decide_eq_false e];exact ifF h
theorem fV {p A C:Prop}[Decidable p] (e:p) (h:A):if (false ^^ decide p)=true then A else C:=by rw [decide_eq_true e];exact ifT h
theorem LH {U:StT}{S:Sto}{wa:WE}{R:Src->Sto->Prop}(h:wa U S λx S1=>∃ ts,aN S1 x=some ts/\R ⟨cH ts,c8 x ts⟩ S1):wiE wa U S R:=h
def mo:WSp:=λts S Q=>∃ c:Nat,ts=[.str ⟨#[c]⟩]/\Q (.bl (isF c)) S
theorem BG {S:Sto}{Q:T->Sto->Prop}{c:Nat}(h:Q (.bl (isF c)) S):mo ([.str ⟨#[c]⟩]++[]) S Q:=⟨c,rfl,h⟩
theorem x9:FnScope ["sign"] ["sign"] (aq kR):=⟨rfl,rfl,rfl,by decide +kernel,rfl,by decide +kernel,by decide +kernel⟩
theorem z8 (F:!"is_figure" kR):!1 f fd ["sign"] mo:=by
 exists x9
 refine ⟨_,((ai (av (i7 bd bd ag (aa 0) ag)))),ax λv hu ts S Q h=>?_⟩
 obtain ⟨c,rfl,hq⟩:=h
 rw [<- He] at hq
 ac_nf
 ext
 refine ifB (λhb=>?_) λhb=>?_
 ·ext
  rw [hb,Bool.true_and] at hq
  exact .mk hq
 ·rw [hb,Bool.false_and] at hq
  exact .mk hq
def nbT (x:Str):T2.T:=if nbB x then .int (vl x) else .non
def i3:WSp:=λts S Q=>∃ x:Str,ts=[.str x,.int 10]/\x.length<=1000/\Q (nbT x) S
theorem rJ {S:Sto}{Q:T->Sto->Prop}{x:Str}(h0:x.length<=1000) (h:Q (nbT x) S):i3 ([.str x,.int 10]++[]) S Q:=⟨x,rfl,h0,h⟩
theorem ya:FnScope eP eP (aq kS):=⟨rfl,rfl,rfl,by decide +kernel,rfl,by decide +kernel,by decide +kernel⟩
theorem z9 (F:!"number_of" kS) (T:Txt K mg C L R Y D Z) (Qp:!1 f1 LX ["sign"] mo) (Qq:Df K mg "is_figure" f1 LX ["sign"]) :
  !2 f fd eP i3:=by
 exists ya
 refine ⟨_,((ak (az (eF (ia (bt (dZ bd bd aj (aV (bv rfl) T.len PySem.boot_len (ae (aa 0) af)) (aa 1))) (gW (bt (bg (aV (og rfl rfl) T.all PyProof.Rows.boot_all (ae (dH false ["sign"] 1 [] rfl (m5 (aa 0)) (λ_ _ _ _=>(bp 0 (show List.Nodup (["sign"]:List Str) from by decide +kernel))) (λ_ _ _ _=>d4) (λ_ _ _ _=>(aA Qp Qq hr.m (ae (aa 0) af)))) af))))))) (ai (av jC)) aF) (ak (az (eF (uQ (aG hr (aC (aa 0) aj) ag) (tH (aS (jX rfl hr.units) (aa 0) ag)))) (ai (av jC)) aF) (ai (av (om uc (by rfl) T.int PyProof.Rows.boot_int (ae (aa 0) af))))))),ax λv hu ts S Q h=>?_⟩
 obtain ⟨x,rfl,hx,hq⟩:=h
 have bad:nbB x=false->Q .non S:=λe=>by unfold nbT at hq;rw [e] at hq;exact hq
 ac_nf
 refine cu (λLR S'=>LR=[some (.str x),some (.int 10)]/\S'=S/\1<=x.length/\x.length<=10/\(Tm.tl x).all isF=true) ?_ ?_
 ·intro X hX
  ext
  by_cases h1:(1:Int)<=x.length
  ·rw [decide_eq_true h1]
   ext
   by_cases h2:(x.length:Int)<=10
   ·rw [decide_eq_true h2]
    ext
    refine eT (ls:=Tm.tl x) (λc=>T2.T.str ⟨#[c]⟩) (λc=>some (.bl (isF c))) [] ?_ ?_ (λc hc u LU N Nf hN=>?_) ?_
    ·trivial
    ·rw [Tm.len,sizeLine_eq];omega
    ·ext
     refine BG ?_
     exact ⟨Nf,hN _⟩
    ·ext
     refine m6 (bs:=(Tm.tl x).map isF) (by rw [<- Wm.all_map,List.map_map,Wm.mM];rfl) ?_
     rw [List.all_map,show (id ∘ isF)=isF from rfl]
     cases hf:(Tm.tl x).all isF with
     |true =>
      ext
      exact hX _ _ ⟨rfl,rfl,by omega,by omega,hf⟩
     |false =>
      ext
      exact .mk (bad (by unfold nbB;rw [hf,Bool.and_false,Bool.false_and]))
   ·rw [decide_eq_false h2]
    ext
    exact .mk (bad (by unfold nbB;rw [decide_eq_false (p:=x.length<=10) (by omega),Bool.and_false,Bool.false_and,Bool.false_and]))
  ·rw [decide_eq_false h1]
   ext
   exact .mk (bad (by unfold nbB;rw [decide_eq_false (p:=1<=x.length) (by omega),Bool.false_and,Bool.false_and,Bool.false_and]))
 rintro LR S' ⟨rfl,rfl,hl1,TV,hf⟩
 have nbe:nbB x=(decide (x="0") || !decide ((Tm.tl x)[0]?=some 48)):=by
  unfold nbB;rw [decide_eq_true hl1,decide_eq_true TV,hf,Bool.true_and,Bool.true_and,Bool.true_and]
 refine cu (λLR S2=>LR=[some (.str x),some (.int 10)]/\S2=S'/\nbB x=true) ?_ ?_
 ·intro X hX
  ext
  have Ra:(Tm.tl x)[0]?=some d:=by
   have Ra:atI (Tm.tl x) 0=some d:=ed
   cases q:Tm.tl x with
   |nil=>rw [q] at Ra;simp [atI,ixN] at Ra
   |cons c r=>rw [q] at Ra;simpa [atI,ixN] using Ra
  refine ifB (λhb=>?_) λhb=>?_
  ·have hd0:(⟨#[d]⟩:Str)="0":=by simpa using hb
   have TW:d=48:=by
    have:=congrArg Tm.tl hd0
    have:[d]=[48]:=this
    simpa using this
   subst TW
   ext
   by_cases SK:x="0"
   ·rw [decide_eq_true SK]
    ext
    exact hX _ _ ⟨rfl,rfl,by rw [nbe,decide_eq_true SK,Bool.true_or]⟩
   ·rw [decide_eq_false SK]
    ext
    exact .mk (bad (by rw [nbe,decide_eq_false SK,decide_eq_true Ra];rfl))
  ·ext
   have TW:d≠48:=λe=>by
    subst e
    have:(⟨#[48]⟩:Str)="0":=by decide +kernel
    simp [this] at hb
   exact hX _ _ ⟨rfl,rfl,by rw [nbe,decide_eq_false (p:=(Tm.tl x)[0]?=some 48) (λz=>TW (by rw [Ra] at z;exact Option.some.inj z)),Bool.not_false,Bool.or_true]⟩
 rintro LR S2 ⟨rfl,rfl,hnb⟩
 ext
 refine ud (rH hnb) (by omega) ?_
 unfold nbT at hq
 rw [hnb] at hq
 exact .mk hq
noncomputable def nin (x:Str) (lo hi:Int):Bool:=nbB x&&(decide (lo<=vl x)&&decide (vl x<=hi))
def e8:WSp:=λts S Q=>∃ (x:Str) (lo hi:Int),ts=[.str x,.int lo,.int hi]/\x.length<=1000/\nin x lo hi=true/\Q (.int (vl x)) S
theorem gz {S:Sto}{Q:T->Sto->Prop}{x:Str}{lo hi:Int}(h0:x.length<=1000) (h1:nin x lo hi=true) (h:Q (.int (vl x)) S):e8 ([.str x,.int lo,.int hi]++[]) S Q:=⟨x,lo,hi,rfl,h0,h1,h⟩
theorem pE:FnScope ["text","least","most","number"] vv4 (aq iE):=⟨rfl,rfl,rfl,by decide +kernel,rfl,by decide +kernel,by decide +kernel⟩
theorem Aa (F:!"number_within" iE) (T:Txt K mg C L R Y D Z) (NS:!2 f1 LX eP i3) (NT:Df K mg "number_of" f1 LX eP) :
  !3 f fd vv4 e8:=by
 exists pE
 refine ⟨_,((ak (aD 3 nd (aA NS NT hr.m (ae (aa 0) (ae (bK (n:=10) (by rfl) T.c_ROW_FIGURES) af)))) (ak (az (eF (ia (aS wI (aa 3) jC) (gW (bt (dZ bd bd (aa 1) (aa 3) (aa 2)))))) (ai bf) aF) (ai (av (aa 3)))))),ax λv hu ts S Q h=>?_⟩
 obtain ⟨x,lo,hi,rfl,hx,hn,hq⟩:=h
 obtain ⟨hb,h12⟩:=Bool.and_eq_true_iff.mp hn
 obtain ⟨h1,h2⟩:=Bool.and_eq_true_iff.mp h12
 ac_nf
 ext
 refine rJ hx ?_
 unfold nbT
 rw [hb,if_pos rfl]
 ext
 refine ifF ?_
 ext
 rw [h1]
 ext
 rw [h2]
 ext
 exact .mk hq
def iW (X:Addr):aU:=λts S R=>∃ (x:Str) (lo hi:Int),ts=[.str x,.int lo,.int hi]/\x.length<=1000/\PyData.strOk x=true/\nin x lo hi=false/\R X S
theorem Ac (F:!"number_within" iE) (T:Txt K mg C L R Y D Z) (NS:!2 f1 LX eP i3) (NT:Df K mg "number_of" f1 LX eP) :
  FnOk P w K mg base (CX1 P w) 3 f fd vv4 (aH K (iW Z.W)):=by
 exists pE
 refine ⟨_,((bD (aD 3 nd (aA NS NT hr.m (ae (aa 0) (ae (bK (n:=10) (by rfl) T.c_ROW_FIGURES) af)))) (aw (aT (eF (ia (aS wI (aa 3) jC) (gW (bt (dZ bd bd (aa 1) (aa 3) (aa 2)))))) (aw (bS T.x_NoRow T.k_NoRow rfl (by rfl) T.mg_NoRow (ae (eO (jt (aa 0) (da d9))) af))) bC)))),bo λv hu ts S Q h=>?_⟩
 obtain ⟨x,lo,hi,rfl,hx,hxo,hn,hq⟩:=h
 ac_nf
 ext
 refine rJ hx ?_
 unfold nin at hn
 unfold nbT
 cases hb:nbB x with
 |false =>
  rw [if_neg (by decide)]
  ext
  refine ifT (ifT ?_)
  ext
  refine ⟨x,rfl,hx,hxo,?_⟩
  ext
  exact ⟨Nat.le_of_ble_eq_true rfl,.mk hq⟩
 |true =>
  rw [hb,Bool.true_and] at hn
  rw [if_pos rfl]
  ext
  refine ifF ?_
  ext
  cases h1:decide (lo<=vl x) with
  |false =>
   ext
   refine ⟨x,rfl,hx,hxo,?_⟩
   ext
   exact ⟨Nat.le_of_ble_eq_true rfl,.mk hq⟩
  |true =>
   rw [h1,Bool.true_and] at hn
   ext
   rw [hn]
   ext
   refine ⟨x,rfl,hx,hxo,?_⟩
   ext
   exact ⟨Nat.le_of_ble_eq_true rfl,.mk hq⟩
def caw (x:Str):Option (Int×Str):=match oc x with
 |[]=>none
 |i::_=>if nin (bef x i) 0 1000000000 then some (vl (bef x i),aft x i) else none
theorem pj {x:Str}(h:oc x=[]):caw x=none:=by unfold caw;rw [h]
theorem kc {x:Str}{i:Nat}{l:List Nat}(h:oc x=i::l):caw x=if nin (bef x i) 0 1000000000 then some (vl (bef x i),aft x i) else none:=by unfold caw;rw [h]
def oK:WSp:=λts S Q=>∃ x c z,ts=[.str x]/\x.length<=1000/\caw x=some (c,z)/\Q (.tup [.int c,.str z]) S
theorem pA:FnScope ["text","sides"] ["text"] (aq iB):=⟨rfl,rfl,rfl,by decide +kernel,rfl,by decide +kernel,by decide +kernel⟩
theorem Hg (F:!"count_and_word" iB) (T:Txt K mg C L R Y D Z) (LW:!3 f1 LX vv4 e8) (LS:Df K mg "number_within" f1 LX vv4) :
  !4 f fd ["text"] oK:=by
 exists pA
 refine ⟨_,((ak (aD 1 nd (bF PySem.F.plainAttrs_str PySem.F.slot_str_partition PySem.F.type_str_partition jp (aa 0) (ae ag af))) (ak (az (aG hr (aC (aa 1) aj) ag) (ai bf) aF) (ai (av (aY (ae (aA LW LS hr.m (ae (aC (aa 1) aj) (ae aj (ae (bK (n:=1000000000) (by rfl) T.c_MOST_COUNT) af)))) (ae (aC (aa 1) aj) af)))))))),ax λv hu ts S Q h=>?_⟩
 obtain ⟨x,c,z,rfl,hx,hc,hq⟩:=h
 cases ho:oc x with
 |nil=>rw [pj ho] at hc;cases hc
 |cons i l =>
  have hp:=jM ho
  have hb:=jf x i
  rw [kc ho] at hc
  cases hn:nin (bef x i) 0 1000000000 with
  |false=>rw [hn] at hc;cases hc
  |true =>
   rw [hn,if_pos rfl] at hc
   cases hc
   ac_nf
   ext
   refine jq (by decide) hx ?_
   rw [hp]
   ext
   refine eS (by decide) ?_
   ext
   refine gz (by omega) hn ?_
   ext
   exact .mk hq
def uE (X:Addr):aU:=λts S R=>∃ x,ts=[.str x]/\x.length<=1000/\PyData.strOk x=true/\caw x=none/\R X S
theorem Hh (F:!"count_and_word" iB) (T:Txt K mg C L R Y D Z) (Ma:FnOk P w K mg base (CX1 P w) 3 f1 LX vv4 (aH K (iW Z.W))) (LS:Df K mg "number_within" f1 LX vv4) :
  FnOk P w K mg base (CX1 P w) 4 f fd ["text"] (aH K (uE Z.W)):=by
 exists pA
 refine ⟨_,((bD (aD 1 nd (bF PySem.F.plainAttrs_str PySem.F.slot_str_partition PySem.F.type_str_partition jp (aa 0) (ae ag af))) (cQ (aw (aT (aG hr (aC (aa 1) aj) ag) (aw (bS T.x_NoRow T.k_NoRow rfl (by rfl) T.mg_NoRow (ae (eO (da (jt (aa 0) d9))) af))) bC)) (bD (az (aG hr (aC (aa 1) aj) ag) (ai bf) aF) (aw (jn (GG (gr (fh Ma LS hr.m (by rfl) (ae (aC (aa 1) aj) (ae aj (ae (bK (n:=1000000000) (by rfl) T.c_MOST_COUNT) af)))))))))))),bo λv hu ts S Q h=>?_⟩
 obtain ⟨x,rfl,hx,hxo,hc,hq⟩:=h
 ac_nf
 ext
 refine jq (by decide) hx ?_
 cases ho:oc x with
 |nil =>
  rw [oJ ho]
  refine cF (dA ?_)
  ext
  refine fV rfl ?_
  ext
  refine ⟨x,rfl,hx,hxo,?_⟩
  ext
  exact ⟨Nat.le_of_ble_eq_true rfl,.mk hq⟩
 |cons i l =>
  have hb:=jf x i
  rw [kc ho] at hc
  cases hn:nin (bef x i) 0 1000000000 with
  |true=>rw [hn] at hc;cases hc
  |false =>
   rw [jM ho]
   dsimp only
   refine cG (cA ?_)
   ext
   refine eS (by decide) ?_
   ext
   exact ⟨_,_,_,rfl,by omega,eZ hxo,hn,.mk hq⟩
def wl (ms:Ms) (n:Int):List Rt:=(srt Ky.s (ms.map (·.1))).map λz=>(z,wrt ((look ms z).getD (0,0)) n)
theorem Kf {l l':List Str}(hn:l.Nodup) (p:l'.Perm l) (h:l'.Pairwise λa b=>Ky.lt (.s b) (.s a)=false):l'=srt Ky.s l:=nM (k0:=.s "") (λ_=>rfl) (λa b h=>by cases h;rfl) hn p h
theorem Kg {ms:Ms}{n:Int}{l:List Rt}(nd:(ms.map (·.1)).Nodup) (p:l.Perm (ms.map λa=>(a.1,wrt a.2 n))) (r:pf l):l=wl ms n:=by
 have e:l.map (·.1)=srt Ky.s (ms.map (·.1)):=Kf nd (by have:=p.map (·.1);rw [List.map_map] at this;exact this) r
 unfold wl
 rw [<- e,List.map_map]
 refine (List.map_id l).symm.trans (List.map_congr_left λa ha=>?_)
 obtain ⟨x,hx,rfl⟩:=List.mem_map.mp (p.mem_iff.mp ha)
 show (x.1,wrt x.2 n)=(x.1,wrt ((look ms x.1).getD (0,0)) n)
 rw [Dy nd hx]
 rfl
noncomputable def lis (zs:List Str):Str:=if zs.isEmpty then "none" else PySem.Txt.join ", " zs
def mr:WSp:=λts S Q=>∃ zs:List Str,ts=[.lst (zs.map T2.T.str)]/\JoinOk ", " zs=true/\Q (.str (lis zs)) S
theorem mv {S:Sto}{Q:T->Sto->Prop}{zs:List Str}(h0:JoinOk ", " zs=true) (h:Q (.str (lis zs)) S):mr ([.lst (zs.map T2.T.str)]++[]) S Q:=⟨zs,rfl,h0,h⟩
theorem Ae:FnScope ["texts"] ["texts"] (aq lV):=⟨rfl,rfl,rfl,by decide +kernel,rfl,by decide +kernel,by decide +kernel⟩
theorem Af (F:!"listed" lV) (T:Txt K mg C L R Y D Z):!1 f fd ["texts"] mr:=by
 exists Ae
 refine ⟨_,((ai (av (jE (rj rfl (aa 0)) (bF PySem.F.plainAttrs_str PySem.F.slot_str_join PySem.F.type_str_join (Fo rfl) ag (ae (aa 0) af)) ag)))),ax λv hu ts S Q h=>?_⟩
 obtain ⟨zs,rfl,hj,hq⟩:=h
 ac_nf
 ext
 cases zs with
 |nil =>
  ext
  exact .mk hq
 |cons z zs =>
  ext
  refine ifT ?_
  ext
  refine CQ (Tm.AY _) hj ?_
  exact .mk hq
def ttx (n:Int) (z:Str) (b:Bool):Str:=Str.empty++Str.ofString (toString n)++Str.ofString " " ++ z++Str.ofString " " ++ (if b then Str.ofString "own" else Str.ofString "house")
def xb:WSp:=λts S Q=>∃ (n:Int) (z:Str) (b:Bool),ts=[.int n,.str z,.bl b]/\n.natAbs.log2<1920/\z.length<=1000/\Q (.str (ttx n z b)) S
theorem yb:FnScope ["number","word","own","layer"] j9 (aq kT):=⟨rfl,rfl,rfl,by decide +kernel,rfl,by decide +kernel,by decide +kernel⟩
theorem Kh (F:!"told_text" kT) (T:Txt K mg C L R Y D Z):!1 f fd j9 xb:=by
 exists yb
 refine ⟨_,((ak (aD 3 nd (jE (bg (aa 2)) ag ag)) (ai (av (eO (fH (aa 0) (da (fH (aa 1) (da (fH (aa 3) d9)))))))))),ax λv hu ts S Q h=>?_⟩
 obtain ⟨n,z,b,rfl,hn,hz,hq⟩:=h
 unfold ttx at hq
 ac_nf
 cases b<;>(
  ext
  refine ⟨_,.inl ⟨n,rfl,hn,rfl⟩,?_⟩
  ext
  refine ⟨_,.inr ⟨rfl,hz⟩,?_⟩
  ext
  refine ⟨_,.inr ⟨rfl,by decide⟩,?_⟩
  ext
  exact .mk hq)
theorem LK {z:Str}(h:Wm.Wd z=true):z.length<=1000:=by have:=of_decide_eq_true (Bool.and_eq_true_iff.mp h).1;omega
theorem lg {i:Int}(h0:0<=i) (h:i<=10 ^ 12):i.natAbs.log2<1920:=by
 by_cases e:i.natAbs=0
 ·rw [e];decide
 ·exact (Nat.log2_lt e).mpr (Nat.lt_of_le_of_lt (show i.natAbs<=10 ^ 12 by omega) (by decide +kernel))
theorem Hi {m:Int×Int}{n:Int}(h0:0<=m.1) (h:m.1<=10 ^ 11):(wrt m n).natAbs.log2<1920:=by
 have h1:0<=wrt m n:=Int.ediv_nonneg h0 (Int.le_of_lt (Int.pow_pos (by decide)))
 have h2:wrt m n<=m.1:=Int.ediv_le_self _ h0
 exact lg h1 (by omega)
def wtx (a:Rt):Str:=Str.empty++Str.ofString (toString a.2)++Str.ofString " " ++ a.1
def xc (C:Addr):WSp:=λts S Q=>∃ p d n ms,ts=[.ref p]/\Wo C S p d n ms/\Mo n ms/\(∀ a∈ms,0<=a.2.1/\a.2.1<=10 ^ 11)/\((wl ms n).Perm (ms.map λa=>(a.1,wrt a.2 n))->Q (.lst (((wl ms n).map wtx).map T2.T.str)) S)
theorem xQ:FnScope ["wood"] ["wood"] (aq kG):=⟨rfl,rfl,rfl,by decide +kernel,rfl,by decide +kernel,by decide +kernel⟩
theorem Ki (F:!"wood_texts" kG) (T:Txt K mg C L R Y D Z)
  (PZ:!4 f1 LX vv1 (rD C)) (P0:Meth K C "words" f1) (P1:ao K LX vv1 []):!5 f fd ["wood"] (xc C):=by
 exists xQ
 refine ⟨_,((ai (av (dH false ["word","worth"] 2 [] rfl (d3 rfl (cf (T.gf P0) PZ P1 hr.m (aa 0))) (λ_ _ _ _=>(gK (λh=>gB (n:=2) rfl rfl h) (cz (bp 0 (show List.Nodup (["word","worth"]:List Str) from by decide +kernel)) (cz (bp 1 (show List.Nodup (["word","worth"]:List Str) from by decide +kernel)) gC (λh1 h2=>cy h1 h2)) (λh1 h2=>cy h1 h2)))) (λ_ _ _ _=>d4) (λ_ _ _ _=>(eO (fH (aa 1) (da (fH (aa 0) d9))))))))),ax λv hu ts S Q h=>?_⟩
 obtain ⟨p,d,n,ms,rfl,W,hm,hb,hq⟩:=h
 have hw:=W.ins
 ac_nf
 ext
 refine ⟨p,d,n,ms,rfl,W,hm.len,hm.old,hm.nd,hm.wd,λl hl NK=>?_⟩
 have el:=Kg hm.nd hl NK
 ext
 dsimp only
 refine iV (ls:=l) rt (λa=>some (.str (wtx a))) [] ?_ (by rw [sizeLine_eq];have h1:=hl.length_eq;have:=hm.len;rw [List.length_map] at h1;omega) (λa ha u v LU N Nf hN=>?_) ?_
 ·trivial
 ·obtain ⟨x,hx,rfl⟩:=List.mem_map.mp (hl.mem_iff.mp ha)
  unfold rt
  ext
  refine ⟨_,.inl ⟨_,rfl,Hi (hb x hx).1 (hb x hx).2,rfl⟩,?_⟩
  ext
  refine ⟨_,.inr ⟨rfl,LK (hm.wd x hx)⟩,?_⟩
  ext
  exact ⟨Nf,hN _ _⟩
 ·rw [el] at hl
  rw [el,show (wl ms n).filterMap (λa=>some (T2.T.str (wtx a)))=((wl ms n).map wtx).map T2.T.str by rw [List.map_map,<- List.filterMap_eq_map];rfl]
  ext
  exact .mk (hq hl)
inductive Dd
 |puts (z:Str) (c:Int)|use (z:Str)|strike (z:Str)|fade (c:Int)|own (z:Str) (c:Int)|disown (z:Str)|hide (z:Str)|show_ (z:Str)
 |key (z:Str)|back|clear|take (i:Int)|fadeA (c:Int)
open Dd
def rf (m:Int) (a:Ab):Dd->Nat
 |puts z _=>if Wm.Wd z=false then 1 else if (look a.hs z).isSome then 2 else 0
 |own z _=>if Wm.Wd z=false then 1 else if (look a.ms z).isSome then 2 else 0
 |hide z=>if Wm.Wd z=false then 1 else if (look a.vs z).isSome then 2 else 0
 |use z|strike z=>if (look a.hs z).isSome then 0 else 3
 |disown z=>if (look a.ms z).isSome then 0 else 3
 |show_ z=>if (look a.vs z).isSome then 0 else 3
 |key z=>if sgn z=false then 4 else if a.x.length<24 then 0 else 4
 |back=>if a.x="" then 4 else 0
 |take i=>if 0<=i/\i<(a.told m).length then 0 else 5
 |_=>0
def nxt (m:Int) (a:Ab):Dd->Ab
 |puts z c=>{ a with hs:=a.hs++[(z,c,a.k)] }
 |own z c=>{ a with ms:=a.ms++[(z,c,a.n)] }
 |hide z=>{ a with vs:=a.vs++[(z,true)] }
 |use z=>{ a with hs:=usd a.hs a.k z 1 }
 |strike z=>{ a with hs:=dr a.hs z }
 |disown z=>{ a with ms:=dr a.ms z }
 |show_ z=>{ a with vs:=dr a.vs z }
 |key z=>{ a with x:=a.x++z }
 |back=>{ a with x:=PySem.Txt.slice a.x none (some (-1)) }
 |clear=>{ a with x:="" }
 |take i=>((a.told m)[i.toNat]?).elim a λr=>a.tak r.1
 |fade c=>{ a with k:=a.k+c }
 |fadeA c=>{ a with n:=a.n+c,i:=a.i+c }
noncomputable def br (x:Str):Str:=Str.empty++Str.ofString "[" ++ x++Str.ofString "]"
def anD (m:Int) (a:Ab):Dd->Str
 |take i=>((a.told m)[i.toNat]?).elim "" λr=>r.1
 |key z=>br (a.x++z)
 |back=>br (PySem.Txt.slice a.x none (some (-1)))
 |clear=>br ""
 |_=>"ok"
noncomputable def cls (Z:Zs):Nat->Addr
 |1=>Z.N
 |2=>Z.T
 |3=>Z.A
 |4=>Z.S
 |_=>Z.H
theorem if3 {p q:Prop}[Decidable p] [Decidable q] {x y z n:Nat}(h:(if p then x else if q then y else z)=n):(p/\x=n)\/(¬p/\q/\y=n)\/(¬p/\¬q/\z=n):=by
 by_cases hp:p
 ·rw [if_pos hp] at h;exact .inl ⟨hp,h⟩
 ·rw [if_neg hp] at h
  by_cases hq:q
  ·rw [if_pos hq] at h;exact .inr (.inl ⟨hp,hq,h⟩)
  ·rw [if_neg hq] at h;exact .inr (.inr ⟨hp,hq,h⟩)
theorem if2 {p:Prop}[Decidable p] {x y n:Nat}(h:(if p then x else y)=n):(p/\x=n)\/(¬p/\y=n):=by
 by_cases hp:p
 ·rw [if_pos hp] at h;exact .inl ⟨hp,h⟩
 ·rw [if_neg hp] at h;exact .inr ⟨hp,h⟩
def dE (r:Str):Str:=PySem.Txt.slice r (some 4) none
noncomputable def goD (r:Str):Option Dd:=if PySem.Txt.startswith r "own " then (if nin (dE r) 1 1000000 then some (fadeA (vl (dE r))) else none) else if nin r 1 1000000 then some (fade (vl r)) else none
def chg (n r:Str):Option Dd :=
 if n="put" then (caw r).map λp=>puts p.2 p.1
 else if n="own" then (caw r).map λp=>own p.2 p.1
 else if n="use" then some (use r)
 else if n="strike" then some (strike r)
 else if n="disown" then some (disown r)
 else if n="hide" then some (hide r)
 else if n="show" then some (show_ r)
 else if n="fade" then goD r
 else none
def wth (n r:Str):Option Dd:=if n="key" then some (key r) else if n="take" then (if nin r 0 9999999999 then some (take (vl r)) else none) else chg n r
inductive Cm
 |told|line|house|deed (d:Dd)
noncomputable def dj (r:Str):Option Cm:=if r="told" then some .told else if r="line" then some .line else if r="house" then some .house else if r="back" then some (.deed back) else if r="clear" then some (.deed clear) else none
def cmd (r:Str):Option Cm:=match oc r with
 |[]=>dj r
 |i::_=>(wth (bef r i) (aft r i)).map .deed
theorem pq {r:Str}(h:oc r=[]):cmd r=dj r:=by unfold cmd;rw [h]
theorem pt {r:Str}{i:Nat}{l:List Nat}(h:oc r=i::l):cmd r=(wth (bef r i) (aft r i)).map .deed:=by unfold cmd;rw [h]
def rfC (m:Int) (a:Ab):Cm->Nat
 |.deed d=>rf m a d
 |_=>0
def nxC (m:Int) (a:Ab):Cm->Ab
 |.deed d=>nxt m a d
 |_=>a
def anC (m:Int) (a:Ab):Cm->Str
 |.told=>lis ((a.told m).zipIdx.map λp=>ttx p.2 p.1.1 p.1.2.2.2)
 |.line=>lis a.ln
 |.house=>lis ((wl a.hs a.k).map wtx)
 |.deed d=>anD m a d
def dkO (D h y u:Addr):O:=.ins D [("house",.ref h),("layers",.ref y),("typist",.ref u)]
abbrev dl (D:Addr) (B:Cs) (A:Ad) (k:Addr) (m:Int) (a:Ab):List (Addr×O):=lay B A m a++[(k,dkO D A.h A.y A.u)]
theorem At.dk {D k:Addr}{B:Cs}{A:Ad}{m:Int}{a:Ab}{S:Sto}(h:At S (dl D B A k m a)):S k=some (dkO D A.h A.y A.u):=h.get 10 rfl
theorem ifN {p A C:Prop}[Decidable p] (hT:p->A) (hF:¬p->C):if (false ^^ decide p)=true then A else C:=by
 by_cases h:p
 ·exact fV h (hT h)
 ·exact eS h (hF h)
theorem nN (r:Str):(dE r).length<=r.length:=by
 unfold dE
 rw [show (4:Int)=((4:Nat):Int) from rfl,<- Tm.len,<- Tm.len,Tm.lc,List.length_drop];omega
def pv (D:Addr) (B:Cs):WSp:=λts S Q=>∃ A k m a,ts=[.ref k]/\At S (dl D B A k m a)/\a.x.length<=1000/\Q (.str (br a.x)) S
theorem xk:FnScope ["self","typed"] vv1 (aq kg):=⟨rfl,rfl,rfl,by decide +kernel,rfl,by decide +kernel,by decide +kernel⟩
theorem Kj (F:!"typed_answer" "Desk.typed_answer" kg) (T:Txt K mg C L R Y D Z)
  (OR:!1 f1 LX vv1 (sO Y)) (OS:Meth K Y "typed" f1) (OT:ao K LX vv1 []):!2 f fd vv1 (pv D ⟨C,L,R,Y⟩):=by
 exists xk
 refine ⟨_,((ak (aD 1 nd (cf (T.gu OS) OR OT hr.m (ap T.gdt (aa 0)))) (ai (av (eO (da (fH (aa 1) (da d9)))))))),ax λv hu ts S Q h=>?_⟩
 obtain ⟨A,k,m,a,rfl,hA,hx,hq⟩:=h
 have hk:=hA.dk
 unfold dkO at hk
 have iu:=hA.left.tp.ty
 have SL:=iu
 unfold tyO at SL
 ac_nf
 ext
 refine ⟨A.u,_,_,_,_,_,rfl,iu,?_⟩
 ext
 refine ⟨_,.inr ⟨rfl,hx⟩,?_⟩
 ext
 exact .mk hq
def xf (D:Addr) (B:Cs):WSp:=λts S Q=>∃ A k m a r d,ts=[.ref k,.str r]/\At S (dl D B A k m a)/\r.length<=1000/\goD r=some d/\∀ S',Up S (lay B A m a) S' (lay B A m (nxt m a d))->Q .non S'
theorem pQ:FnScope dY dY (aq iQ):=⟨rfl,rfl,rfl,by decide +kernel,rfl,by decide +kernel,by decide +kernel⟩
theorem Hj (F:!"go_on" "Desk.go_on" iQ) (T:Txt K mg C L R Y D Z)
  (O8:!3 f1 LX vv5 (sT ⟨C,L,R,Y⟩)) (Ni:Meth K Y "fade" f1) (O9:ao K LX vv5 [])
  (NQ:!1 f2 M9 vv5 (nD C)) (MH:Meth K C "fade" f2) (NR:ao K M9 vv5 [])
  (LW:!3 f3 Oi vv4 e8) (LS:Df K mg "number_within" f3 Oi vv4):!4 f fd dY (xf D ⟨C,L,R,Y⟩):=by
 exists pQ
 refine ⟨_,((ai (az (bg (bF PySem.F.plainAttrs_str PySem.F.slot_str_startswith PySem.F.type_str_startswith lZ (aa 1) (ae ag af))) (ai (aR (aL (T.gu Ni) O8 O9 hr.m (ap T.gdt (aa 0)) (ae (aA LW LS hr.m (ae (bJ false rfl (aa 1) (bI (aV (bv rfl) T.len PySem.boot_len (ae ag af))) bH) (ae aj (ae (bK (n:=1000000) (by rfl) T.c_MOST_TIMES) af)))) af)))) (ai (aR (aL (T.gf MH) NQ NR hr.m (ap T.gdh (aa 0)) (ae (aA LW LS hr.m (ae (aa 1) (ae aj (ae (bK (n:=1000000) (by rfl) T.c_MOST_TIMES) af)))) af))))))),ax λv hu ts S Q h=>?_⟩
 obtain ⟨A,k,m,a,r,d,rfl,hA,hr1,he,hq⟩:=h
 have hk:=hA.dk
 unfold dkO at hk
 have hL:=hA.left
 have iu:=hL.tp.ty
 unfold tyO at iu
 have iw:=hL.wh.ins
 unfold goD at he
 ac_nf
 ext
 cases hb:PySem.Txt.startswith r (Str.ofString "own ") with
 |true =>
  rw [show PySem.Txt.startswith r "own "=true from hb,if_pos rfl] at he
  cases hn:nin (dE r) 1 1000000 with
  |false=>rw [hn] at he;cases he
  |true =>
   rw [hn,if_pos rfl] at he
   cases he
   ext
   refine gz (x:=dE r) (Nat.le_trans (nN r) hr1) hn ?_
   ext
   exact ⟨A,m,a,_,rfl,hL,λS' u=>.mk (hq S' u)⟩
 |false =>
  rw [show PySem.Txt.startswith r "own "=false from hb,if_neg (by decide)] at he
  cases hn:nin r 1 1000000 with
  |false=>rw [hn] at he;cases he
  |true =>
   rw [hn,if_pos rfl] at he
   cases he
   ext
   refine gz hr1 hn ?_
   ext
   exact ⟨_,_,_,_,vl r,rfl,hL.wh,.mk (hq _ (Up.refl hL).eraH)⟩
def vI (D X:Addr) (B:Cs):aU:=λts S R=>∃ A k m a r,ts=[.ref k,.str r]/\At S (dl D B A k m a)/\Tx r/\goD r=none/\R X S
theorem Hk (F:!"go_on" "Desk.go_on" iQ) (T:Txt K mg C L R Y D Z)
  (Ni:Meth K Y "fade" f1) (MH:Meth K C "fade" f2) (Ma:FnOk P w K mg base (CX1 P w) 3 f3 Oi vv4 (aH K (iW Z.W))) (LS:Df K mg "number_within" f3 Oi vv4):FnOk P w K mg base (CX1 P w) 4 f fd dY (aH K (vI D Z.W ⟨C,L,R,Y⟩)):=by
 exists pQ
 refine ⟨_,((aw (aT (bg (bF PySem.F.plainAttrs_str PySem.F.slot_str_startswith PySem.F.type_str_startswith lZ (aa 1) (ae ag af))) (aw (bq (mh (T.gu Ni) (ap T.gdt (aa 0)) (gr (fh Ma LS hr.m (by rfl) (ae (bJ false rfl (aa 1) (bI (aV (bv rfl) T.len PySem.boot_len (ae ag af))) bH) (ae aj (ae (bK (n:=1000000) (by rfl) T.c_MOST_TIMES) af)))))))) (aw (bq (mh (T.gf MH) (ap T.gdh (aa 0)) (gr (fh Ma LS hr.m (by rfl) (ae (aa 1) (ae aj (ae (bK (n:=1000000) (by rfl) T.c_MOST_TIMES) af))))))))))),bo λv hu ts S Q h=>?_⟩
 obtain ⟨A,k,m,a,r,rfl,hA,⟨hr1,NK⟩,he,hq⟩:=h
 have hk:=hA.dk
 unfold dkO at hk
 have hL:=hA.left
 have iu:=hL.tp.ty
 unfold tyO at iu
 have iw:=hL.wh.ins
 unfold goD at he
 ac_nf
 ext
 cases hb:PySem.Txt.startswith r (Str.ofString "own ") with
 |true =>
  rw [show PySem.Txt.startswith r "own "=true from hb,if_pos rfl] at he
  cases hn:nin (dE r) 1 1000000 with
  |true=>rw [hn] at he;cases he
  |false =>
   ext
   exact ⟨dE r,_,_,rfl,Nat.le_trans (nN r) hr1,eZ NK,hn,.mk hq⟩
 |false =>
  rw [show PySem.Txt.startswith r "own "=false from hb,if_neg (by decide)] at he
  cases hn:nin r 1 1000000 with
  |true=>rw [hn] at he;cases he
  |false =>
   ext
   exact ⟨r,_,_,rfl,hr1,NK,hn,.mk hq⟩
theorem uF {r z:Str}{c:Int}(h:caw r=some (c,z)) (hr:Tx r):Tx z:=by
 cases ho:oc r with
 |nil=>rw [pj ho] at h;cases h
 |cons i l =>
  rw [kc ho] at h
  cases hn:nin (bef r i) 0 1000000000 with
  |false=>rw [hn] at h;cases h
  |true=>rw [hn,if_pos rfl] at h;cases h;exact ⟨Nat.le_trans (jg r i) hr.1,eZ hr.2⟩
def vJ (D:Addr) (B:Cs):WSp:=λts S Q=>∃ A k m a n r d,ts=[.ref k,.str n,.str r]/\At S (dl D B A k m a)/\Okk a/\0<=m/\Tx r/\chg n r=some d/\rf m a d=0/\∀ S',Up S (lay B A m a) S' (lay B A m (nxt m a d))->Q .non S'
theorem pM:FnScope ["self","name","rest","counted"] vv6 (aq iM):=⟨rfl,rfl,rfl,by decide +kernel,rfl,by decide +kernel,by decide +kernel⟩
theorem Hl (F:!"change" "Desk.change" iM) (T:Txt K mg C L R Y D Z)
  (N3:!4 f1 LX vv2 (oB C)) (Mz:Meth K C "put" f1) (MA:ao K LX vv2 [])
  (NC:!3 f2 M9 vv3 (oF C)) (Mf:Meth K C "use" f2){tk:Tok}(NU:ao K M9 vv3 [.int 1 tk])
  (Ng:!2 f3 Oi vv0 (mj C)) (Mb:Meth K C "strike" f3) (Mc:ao K Oi vv0 [])
  (P2:!5 f4 QF vv2 (uq C L)) (NE:Meth K L "put" f4) (NF:ao K QF vv2 [])
  (Ox:!3 f5 Q9 vv0 (qM C L)) (MK:Meth K L "strike" f5) (ML:ao K Q9 vv0 [])
  (Pa:!4 f6 TX vv0 (ur C L)) (Nj:Meth K L "hide" f6) (Nk:ao K TX vv0 [])
  (Pb:!1 f7 TY vv0 (ut C L)) (Nl:Meth K L "show" f7) (Nn:ao K TY vv0 [])
  (P3:!4 f8 fd8 dY (xf D ⟨C,L,R,Y⟩)) (NG:Meth K D "go_on" f8) (NH:ao K fd8 dY [])
  (Me:!4 f9 fd9 ["text"] oK) (LY:Df K mg "count_and_word" f9 fd9 ["text"]):!6 f fd vv6 (vJ D ⟨C,L,R,Y⟩):=by
 exists pM
 refine ⟨_,((ai (az (aG hr (aa 1) ag) (ak (aD 3 nd (aA Me LY hr.m (ae (aa 2) af))) (ai (aR (aL (T.gf Mz) N3 MA hr.m (ap T.gdh (aa 0)) (ae (aC (aa 3) aj) (ae (aC (aa 3) aj) af)))))) (ai (az (aG hr (aa 1) ag) (ak (aD 3 nd (aA Me LY hr.m (ae (aa 2) af))) (ai (aR (aL (T.gl NE) P2 NF hr.m (ap T.gdl (aa 0)) (ae (aC (aa 3) aj) (ae (aC (aa 3) aj) af)))))) (ai (az (aG hr (aa 1) ag) (ai (aR (sA (T.gf Mf) NC NU hr.m (ap T.gdh (aa 0)) (ae (aa 2) af)))) (ai (az (aG hr (aa 1) ag) (ai (aR (aL (T.gf Mb) Ng Mc hr.m (ap T.gdh (aa 0)) (ae (aa 2) af)))) (ai (az (aG hr (aa 1) ag) (ai (aR (aL (T.gl MK) Ox ML hr.m (ap T.gdl (aa 0)) (ae (aa 2) af)))) (ai (az (aG hr (aa 1) ag) (ai (aR (aL (T.gl Nj) Pa Nk hr.m (ap T.gdl (aa 0)) (ae (aa 2) af)))) (ai (az (aG hr (aa 1) ag) (ai (aR (aL (T.gl Nl) Pb Nn hr.m (ap T.gdl (aa 0)) (ae (aa 2) af)))) (ai (az (aG hr (aa 1) ag) (ai (aR (aL (T.gd NG) P3 NH hr.m (aa 0) (ae (aa 2) af)))) (ai bf)))))))))))))))))),ax λv hu ts S Q h=>?_⟩
 obtain ⟨A,k,m,a,n,r,d,rfl,hA,ok,hm,⟨hr1,NK⟩,he,h0,hq⟩:=h
 have hk:=hA.dk
 unfold dkO at hk
 have hL:=hA.left
 have l1:=ok.ok.h.len
 have l2:=ok.ok.o.len
 have l3:=ok.ok.le
 have l4:=ok.vl
 have iw:=hL.wh.ins
 have iy:=hL.ly.ins
 have Uu:=Up.refl hL
 unfold chg at he
 ac_nf
 ext
 refine ifN (λe=>?_) λe=>?_
 ·rw [if_pos e] at he
  obtain ⟨⟨c,z⟩,hc,rfl⟩:=Option.map_eq_some_iff.mp he
  ext
  refine ⟨r,c,z,rfl,hr1,hc,?_⟩
  ext
  rcases if3 h0 with ⟨_,e⟩|⟨_,_,e⟩|⟨h1,h2,_⟩
  iterate 2 cases e
  exact ⟨_,_,_,_,z,c,rfl,hL.wh,by omega,by simpa using h1,by simpa using h2,.mk (hq _ Uu.hou)⟩
 rw [if_neg e] at he
 ext
 refine ifN (λe=>?_) λe=>?_
 ·rw [if_pos e] at he
  obtain ⟨⟨c,z⟩,hc,rfl⟩:=Option.map_eq_some_iff.mp he
  ext
  refine ⟨r,c,z,rfl,hr1,hc,?_⟩
  ext
  rcases if3 h0 with ⟨_,e⟩|⟨_,_,e⟩|⟨h1,h2,_⟩
  iterate 2 cases e
  exact ⟨A.y,_,_,_,_,_,_,_,_,_,_,z,c,rfl,hL.ly,by omega,by simpa using h1,by simpa using h2,.mk (hq _ Uu.own)⟩
 rw [if_neg e] at he
 ext
 refine ifN (λe=>?_) λe=>?_
 ·rw [if_pos e] at he
  cases he
  ext
  rcases if2 h0 with ⟨h1,_⟩|⟨_,e⟩
  ·obtain ⟨mm,e⟩:=Option.isSome_iff_exists.mp h1
   refine ⟨_,_,_,_,r,1,mm,rfl,hL.wh,by omega,e,ok.ok.h.old _ (As.c5 e),?_⟩
   rw [<- oI e]
   exact .mk (hq _ Uu.hou)
  ·cases e
 rw [if_neg e] at he
 ext
 refine ifN (λe=>?_) λe=>?_
 ·rw [if_pos e] at he
  cases he
  ext
  rcases if2 h0 with ⟨h1,_⟩|⟨_,e⟩
  ·obtain ⟨mm,e⟩:=Option.isSome_iff_exists.mp h1
   exact ⟨_,_,_,_,r,mm,rfl,hL.wh,e,.mk (hq _ Uu.hou)⟩
  ·cases e
 rw [if_neg e] at he
 ext
 refine ifN (λe=>?_) λe=>?_
 ·rw [if_pos e] at he
  cases he
  ext
  rcases if2 h0 with ⟨h1,_⟩|⟨_,e⟩
  ·obtain ⟨mm,e⟩:=Option.isSome_iff_exists.mp h1
   exact ⟨A.y,_,_,_,_,_,_,_,_,_,_,r,mm,rfl,hL.ly,e,.mk (hq _ Uu.own)⟩
  ·cases e
 rw [if_neg e] at he
 ext
 refine ifN (λe=>?_) λe=>?_
 ·rw [if_pos e] at he
  cases he
  ext
  rcases if3 h0 with ⟨_,e⟩|⟨_,_,e⟩|⟨h1,h2,_⟩
  iterate 2 cases e
  exact ⟨A.y,_,_,_,_,_,_,_,_,_,_,r,rfl,hL.ly,by omega,by simpa using h1,by simpa using h2,.mk (hq _ Uu.vei)⟩
 rw [if_neg e] at he
 ext
 refine ifN (λe=>?_) λe=>?_
 ·rw [if_pos e] at he
  cases he
  ext
  rcases if2 h0 with ⟨h1,_⟩|⟨_,e⟩
  ·obtain ⟨mm,e⟩:=Option.isSome_iff_exists.mp h1
   exact ⟨A.y,_,_,_,_,_,_,_,_,_,_,r,mm,rfl,hL.ly,e,.mk (hq _ Uu.vei)⟩
  ·cases e
 rw [if_neg e] at he
 ext
 refine ifN (λe=>?_) λe=>?_
 ·rw [if_pos e] at he
  ext
  exact ⟨A,k,m,a,r,d,rfl,hA,hr1,he,λS' u=>.mk (hq S' u)⟩
 rw [if_neg e] at he
 cases he
def uG (D:Addr) (Z:Zs) (B:Cs):aU:=λts S R=>∃ A k m a n r,ts=[.ref k,.str n,.str r]/\At S (dl D B A k m a)/\Okk a/\0<=m/\Tx n/\Tx r/\(chg n r=none->R Z.W S)/\∀ d,chg n r=some d->rf m a d≠0/\R (cls Z (rf m a d)) S
theorem Hm (F:!"change" "Desk.change" iM) (T:Txt K mg C L R Y D Z)
  (N4:FnOk P w K mg base (CX1 P w) 4 f1 LX vv2 (aH K (nF C Z.N Z.T))) (Mz:Meth K C "put" f1) (MA:ao K LX vv2 [])
  (ND:FnOk P w K mg base (CX1 P w) 3 f2 M9 vv3 (aH K (nG C Z.A))) (Mf:Meth K C "use" f2){tk:Tok}(NU:ao K M9 vv3 [.int 1 tk])
  (Nh:FnOk P w K mg base (CX1 P w) 3 f3 Oi vv0 (aH K (lQ C Z.A))) (Mb:Meth K C "strike" f3) (Mc:ao K Oi vv0 [])
  (P4:FnOk P w K mg base (CX1 P w) 5 f4 QF vv2 (aH K (sH C L Z))) (NE:Meth K L "put" f4) (NF:ao K QF vv2 [])
  (Oy:FnOk P w K mg base (CX1 P w) 4 f5 Q9 vv0 (aH K (qj C L Z))) (MK:Meth K L "strike" f5) (ML:ao K Q9 vv0 [])
  (Pc:FnOk P w K mg base (CX1 P w) 4 f6 TX vv0 (aH K (sI C L Z))) (Nj:Meth K L "hide" f6) (Nk:ao K TX vv0 [])
  (Pd:FnOk P w K mg base (CX1 P w) 1 f7 TY vv0 (aH K (sJ C L Z))) (Nl:Meth K L "show" f7) (Nn:ao K TY vv0 [])
  (P5:FnOk P w K mg base (CX1 P w) 4 f8 fd8 dY (aH K (vI D Z.W ⟨C,L,R,Y⟩))) (NG:Meth K D "go_on" f8) (NH:ao K fd8 dY [])
  (Me:!4 f9 fd9 ["text"] oK) (NB:FnOk P w K mg base (CX1 P w) 4 f9 fd9 ["text"] (aH K (uE Z.W))) (LY:Df K mg "count_and_word" f9 fd9 ["text"]):FnOk P w K mg base (CX1 P w) 6 f fd vv6 (aH K (uG D Z ⟨C,L,R,Y⟩)):=by
 exists pM
 refine ⟨_,((aw (aT (aG hr (aa 1) ag) (cQ (aw (nu (fh NB LY hr.m (by rfl) (ae (aa 2) af)))) (bD (aD 3 nd (aA Me LY hr.m (ae (aa 2) af))) (aw (bq (bn (T.gf Mz) N4 MA hr.m (ap T.gdh (aa 0)) (ae (aC (aa 3) aj) (ae (aC (aa 3) aj) af))))))) (aw (aT (aG hr (aa 1) ag) (cQ (aw (nu (fh NB LY hr.m (by rfl) (ae (aa 2) af)))) (bD (aD 3 nd (aA Me LY hr.m (ae (aa 2) af))) (aw (bq (bn (T.gl NE) P4 NF hr.m (ap T.gdl (aa 0)) (ae (aC (aa 3) aj) (ae (aC (aa 3) aj) af))))))) (aw (aT (aG hr (aa 1) ag) (aw (bq (Bi (T.gf Mf) ND NU hr.m (ap T.gdh (aa 0)) (ae (aa 2) af)))) (aw (aT (aG hr (aa 1) ag) (aw (bq (bn (T.gf Mb) Nh Mc hr.m (ap T.gdh (aa 0)) (ae (aa 2) af)))) (aw (aT (aG hr (aa 1) ag) (aw (bq (bn (T.gl MK) Oy ML hr.m (ap T.gdl (aa 0)) (ae (aa 2) af)))) (aw (aT (aG hr (aa 1) ag) (aw (bq (bn (T.gl Nj) Pc Nk hr.m (ap T.gdl (aa 0)) (ae (aa 2) af)))) (aw (aT (aG hr (aa 1) ag) (aw (bq (bn (T.gl Nl) Pd Nn hr.m (ap T.gdl (aa 0)) (ae (aa 2) af)))) (aw (aT (aG hr (aa 1) ag) (aw (bq (bn (T.gd NG) P5 NH hr.m (aa 0) (ae (aa 2) af)))) (aw (bS T.x_NoRow T.k_NoRow rfl (by rfl) T.mg_NoRow (ae (eO (jt (aa 1) (da d9))) af)))))))))))))))))))),bo λv hu ts S Q h=>?_⟩
 obtain ⟨A,k,m,a,n,r,rfl,hA,ok,hm,⟨hn1,Sn⟩,⟨hr1,NK⟩,he⟩:=h
 have hk:=hA.dk
 unfold dkO at hk
 have hL:=hA.left
 have l1:=ok.ok.h.len
 have l2:=ok.ok.o.len
 have l3:=ok.ok.le
 have l4:=ok.vl
 have iw:=hL.wh.ins
 have iy:=hL.ly.ins
 have Uu:=Up.refl hL
 unfold chg at he
 ac_nf
 ext
 refine ifN (λe=>?_) λe=>?_
 ·rw [if_pos e] at he
  cases hc:caw r with
  |none =>
   refine cF ?_
   ext
   exact ⟨r,rfl,hr1,NK,hc,.mk (he.1 (by rw [hc];rfl))⟩
  |some p =>
   obtain ⟨c,z⟩:=p
   obtain ⟨h0,hq⟩:=he.2 _ (by rw [hc];rfl)
   obtain ⟨hz1,Tk⟩:=uF hc ⟨hr1,NK⟩
   refine cG (cA ?_)
   ext
   refine ⟨r,c,z,rfl,hr1,hc,?_⟩
   ext
   obtain ⟨j,hj⟩:∃ j,rf m a (puts z c)=j:=⟨_,rfl⟩
   rw [hj] at h0 hq
   refine ⟨_,_,_,_,z,c,rfl,hL.wh,hz1,Tk,?_⟩
   rcases if3 hj with ⟨h1,rfl⟩|⟨h1,h2,rfl⟩|⟨_,_,rfl⟩
   ·exact .inl ⟨h1,.mk hq⟩
   ·exact .inr ⟨by simpa using h1,Option.isSome_iff_exists.mp h2,.mk hq⟩
   ·exact absurd rfl h0
 rw [if_neg e] at he
 ext
 refine ifN (λe=>?_) λe=>?_
 ·rw [if_pos e] at he
  cases hc:caw r with
  |none =>
   refine cF ?_
   ext
   exact ⟨r,rfl,hr1,NK,hc,.mk (he.1 (by rw [hc];rfl))⟩
  |some p =>
   obtain ⟨c,z⟩:=p
   obtain ⟨h0,hq⟩:=he.2 _ (by rw [hc];rfl)
   obtain ⟨hz1,Tk⟩:=uF hc ⟨hr1,NK⟩
   refine cG (cA ?_)
   ext
   refine ⟨r,c,z,rfl,hr1,hc,?_⟩
   ext
   obtain ⟨j,hj⟩:∃ j,rf m a (own z c)=j:=⟨_,rfl⟩
   rw [hj] at h0 hq
   refine ⟨A.y,_,_,_,_,_,_,_,_,_,_,z,c,rfl,hL.ly,hz1,Tk,?_⟩
   rcases if3 hj with ⟨h1,rfl⟩|⟨h1,h2,rfl⟩|⟨_,_,rfl⟩
   ·exact .inl ⟨h1,.mk hq⟩
   ·exact .inr ⟨by simpa using h1,Option.isSome_iff_exists.mp h2,.mk hq⟩
   ·exact absurd rfl h0
 rw [if_neg e] at he
 ext
 refine ifN (λe=>?_) λe=>?_
 ·rw [if_pos e] at he
  obtain ⟨h0,hq⟩:=he.2 _ rfl
  obtain ⟨j,hj⟩:∃ j,rf m a (use r)=j:=⟨_,rfl⟩
  rw [hj] at h0 hq
  ext
  rcases if2 hj with ⟨_,rfl⟩|⟨h1,rfl⟩
  ·exact absurd rfl h0
  ·exact ⟨_,_,_,_,r,1,rfl,hL.wh,by simpa using h1,hr1,NK,.mk hq⟩
 rw [if_neg e] at he
 ext
 refine ifN (λe=>?_) λe=>?_
 ·rw [if_pos e] at he
  obtain ⟨h0,hq⟩:=he.2 _ rfl
  obtain ⟨j,hj⟩:∃ j,rf m a (strike r)=j:=⟨_,rfl⟩
  rw [hj] at h0 hq
  ext
  rcases if2 hj with ⟨_,rfl⟩|⟨h1,rfl⟩
  ·exact absurd rfl h0
  ·exact ⟨_,_,_,_,r,rfl,hL.wh,by simpa using h1,hr1,NK,.mk hq⟩
 rw [if_neg e] at he
 ext
 refine ifN (λe=>?_) λe=>?_
 ·rw [if_pos e] at he
  obtain ⟨h0,hq⟩:=he.2 _ rfl
  obtain ⟨j,hj⟩:∃ j,rf m a (disown r)=j:=⟨_,rfl⟩
  rw [hj] at h0 hq
  ext
  rcases if2 hj with ⟨_,rfl⟩|⟨h1,rfl⟩
  ·exact absurd rfl h0
  ·exact ⟨A.y,_,_,_,_,_,_,_,_,_,_,r,rfl,hL.ly,hr1,NK,by simpa using h1,.mk hq⟩
 rw [if_neg e] at he
 ext
 refine ifN (λe=>?_) λe=>?_
 ·rw [if_pos e] at he
  obtain ⟨h0,hq⟩:=he.2 _ rfl
  obtain ⟨j,hj⟩:∃ j,rf m a (hide r)=j:=⟨_,rfl⟩
  rw [hj] at h0 hq
  ext
  refine ⟨A.y,_,_,_,_,_,_,_,_,_,_,r,rfl,hL.ly,hr1,NK,?_⟩
  rcases if3 hj with ⟨h1,rfl⟩|⟨h1,h2,rfl⟩|⟨_,_,rfl⟩
  ·exact .inl ⟨h1,.mk hq⟩
  ·exact .inr ⟨by simpa using h1,Option.isSome_iff_exists.mp h2,.mk hq⟩
  ·exact absurd rfl h0
 rw [if_neg e] at he
 ext
 refine ifN (λe=>?_) λe=>?_
 ·rw [if_pos e] at he
  obtain ⟨h0,hq⟩:=he.2 _ rfl
  obtain ⟨j,hj⟩:∃ j,rf m a (show_ r)=j:=⟨_,rfl⟩
  rw [hj] at h0 hq
  ext
  rcases if2 hj with ⟨_,rfl⟩|⟨h1,rfl⟩
  ·exact absurd rfl h0
  ·exact ⟨A.y,_,_,_,_,_,_,_,_,_,_,r,rfl,hL.ly,hr1,NK,by simpa using h1,.mk hq⟩
 rw [if_neg e] at he
 ext
 refine ifN (λe=>?_) λe=>?_
 ·rw [if_pos e] at he
  ext
  cases hg:goD r with
  |none=>exact ⟨A,k,m,a,r,rfl,hA,⟨hr1,NK⟩,hg,.mk (he.1 hg)⟩
  |some d =>
   refine absurd ?_ (he.2 d hg).1
   unfold goD at hg
   split at hg<;>split at hg<;>first|(cases hg;rfl)|cases hg
 rw [if_neg e] at he
 ext
 refine ⟨n,rfl,hn1,Sn,?_⟩
 ext
 exact ⟨Nat.le_of_ble_eq_true rfl,.mk (he.1 rfl)⟩
theorem Hn {n r:Str}{d:Dd}(m:Int) (a:Ab) (h:chg n r=some d):anD m a d="ok":=by
 unfold chg at h
 iterate 2
  split at h
  ·obtain ⟨p,_,rfl⟩:=Option.map_eq_some_iff.mp h;rfl
 iterate 5
  split at h
  ·cases h;rfl
 split at h
 ·unfold goD at h
  split at h<;>split at h<;>first|(cases h;rfl)|cases h
 ·cases h
def vK (D:Addr) (B:Cs):WSp:=λts S Q=>∃ A k m a n r d,ts=[.ref k,.str n,.str r]/\At S (dl D B A k m a)/\Okk a/\0<=m/\Tx r/\wth n r=some d/\rf m a d=0/\∀ S',Up S (lay B A m a) S' (lay B A m (nxt m a d))->Q (.str (anD m a d)) S'
theorem pF:FnScope vv6 vv6 (aq iF):=⟨rfl,rfl,rfl,by decide +kernel,rfl,by decide +kernel,by decide +kernel⟩
theorem Ho (F:!"say_with" "Desk.say_with" iF) (T:Txt K mg C L R Y D Z)
  (P6:!3 f1 LX dX (vD Y)) (NI:Meth K Y "key" f1) (NJ:ao K LX dX [])
  (Mr:!2 f2 M9 vv1 (pv D ⟨C,L,R,Y⟩)) (Mt:Meth K D "typed_answer" f2) (Mu:ao K M9 vv1 [])
  (Pe:!8 f3 Oi eQ (sR ⟨C,L,R,Y⟩)) (MF:Meth K Y "take" f3) (Np:ao K Oi eQ [])
  (Pf:!6 f4 QF vv6 (vJ D ⟨C,L,R,Y⟩)) (Nq:Meth K D "change" f4) (Nr:ao K QF vv6 [])
  (LW:!3 f5 Q9 vv4 e8) (LS:Df K mg "number_within" f5 Q9 vv4):!9 f fd vv6 (vK D ⟨C,L,R,Y⟩):=by
 exists pF
 refine ⟨_,((ak (az (aG hr (aa 1) ag) (ak (aR (aL (T.gu NI) P6 NJ hr.m (ap T.gdt (aa 0)) (ae (aa 2) af))) (ai (av (cf (T.gd Mt) Mr Mu hr.m (aa 0))))) aF) (ak (az (aG hr (aa 1) ag) (ai (av (aL (T.gu MF) Pe Np hr.m (ap T.gdt (aa 0)) (ae (aA LW LS hr.m (ae (aa 2) (ae aj (ae (bK (n:=9999999999) (by rfl) T.c_MOST_NUMBER) af)))) af)))) aF) (ak (aR (aL (T.gd Nq) Pf Nr hr.m (aa 0) (ae (aa 1) (ae (aa 2) af)))) (ai (av ag)))))),ax λv hu ts S Q h=>?_⟩
 obtain ⟨A,k,m,a,n,r,d,rfl,hA,ok,hm,⟨hr1,NK⟩,he,h0,hq⟩:=h
 have hk:=hA.dk
 unfold dkO at hk
 have hL:=hA.left
 have l5:=ok.xl
 have iu:=hL.tp.ty
 have SL:=iu
 unfold tyO at SL
 have Uu:=Up.refl hL
 unfold wth at he
 ac_nf
 ext
 refine ifN (λe=>?_) λe=>?_
 ·rw [if_pos e] at he
  cases he
  ext
  rcases if3 h0 with ⟨_,e⟩|⟨h1,h2,_⟩|⟨_,_,e⟩
  ·cases e
  ·refine ⟨A.u,_,_,_,_,_,r,rfl,iu,hr1,by simpa using h1,h2,?_⟩
   have A2:=hA.up (Uu.txt (x:=a.x++r))
   have k2:=A2.dk
   unfold dkO at k2
   ext
   refine ⟨A,k,m,_,rfl,A2,?_,?_⟩
   ·show (a.x++r).length<=1000
    have:=of_decide_eq_true (Bool.and_eq_true_iff.mp (show sgn r=true by simpa using h1)).1
    rw [PySem.Str.length_append];omega
   ·ext
    exact .mk (hq _ Uu.txt)
  ·cases e
 rw [if_neg e] at he
 ext
 refine ifN (λe=>?_) λe=>?_
 ·rw [if_pos e] at he
  cases hn:nin r 0 9999999999 with
  |false=>rw [hn] at he;cases he
  |true =>
   rw [hn,if_pos rfl] at he
   cases he
   ext
   refine gz hr1 hn ?_
   ext
   rcases if2 h0 with ⟨⟨h1,h2⟩,_⟩|⟨_,e⟩
   ·obtain ⟨q,e⟩:∃ q,(a.told m)[(vl r).toNat]?=some q:=⟨_,List.getElem?_eq_getElem (by omega)⟩
    refine ⟨A,m,a,vl r,q,rfl,hL,ok,hm,h1,e,λS' u so=>.mk ?_⟩
    have hq:=hq S'
    rw [show nxt m a (take (vl r))=a.tak q.1 by show Option.elim _ _ _=_;rw [e];rfl,show anD m a (take (vl r))=q.1 by show Option.elim _ _ _=_;rw [e];rfl] at hq
    exact hq u
   ·cases e
 rw [if_neg e] at he
 ext
 refine ⟨A,k,m,a,n,r,d,rfl,hA,ok,hm,⟨hr1,NK⟩,he,h0,λS' u=>?_⟩
 ext
 rw [Hn m a he] at hq
 exact .mk (hq S' u)
def uH (D:Addr) (Z:Zs) (B:Cs):aU:=λts S R=>∃ A k m a n r,ts=[.ref k,.str n,.str r]/\At S (dl D B A k m a)/\Okk a/\0<=m/\Tx n/\Tx r/\(wth n r=none->R Z.W S)/\∀ d,wth n r=some d->rf m a d≠0/\R (cls Z (rf m a d)) S
theorem Hq (F:!"say_with" "Desk.say_with" iF) (T:Txt K mg C L R Y D Z)
  (P7:FnOk P w K mg base (CX1 P w) 3 f1 LX dX (aH K (uA Y Z.S))) (NI:Meth K Y "key" f1) (NJ:ao K LX dX [])
  (Ph:FnOk P w K mg base (CX1 P w) 8 f3 Oi eQ (aH K (sS ⟨C,L,R,Y⟩ Z.H))) (MF:Meth K Y "take" f3) (Np:ao K Oi eQ [])
  (Pj:FnOk P w K mg base (CX1 P w) 6 f4 QF vv6 (aH K (uG D Z ⟨C,L,R,Y⟩))) (Nq:Meth K D "change" f4) (Nr:ao K QF vv6 [])
  (LW:!3 f5 Q9 vv4 e8) (LS:Df K mg "number_within" f5 Q9 vv4) (Ma:FnOk P w K mg base (CX1 P w) 3 f5 Q9 vv4 (aH K (iW Z.W))):FnOk P w K mg base (CX1 P w) 9 f fd vv6 (aH K (uH D Z ⟨C,L,R,Y⟩)):=by
 exists pF
 refine ⟨_,((cQ (aw (aT (aG hr (aa 1) ag) (aw (bq (bn (T.gu NI) P7 NJ hr.m (ap T.gdt (aa 0)) (ae (aa 2) af)))) bC)) (bD (az (aG hr (aa 1) ag) eV aF) (cQ (aw (aT (aG hr (aa 1) ag) (aw (jn (GH (mh (T.gu MF) (ap T.gdt (aa 0)) (gr (fh Ma LS hr.m (by rfl) (ae (aa 2) (ae aj (ae (bK (n:=9999999999) (by rfl) T.c_MOST_NUMBER) af)))))) (bn (T.gu MF) Ph Np hr.m (ap T.gdt (aa 0)) (ae (aA LW LS hr.m (ae (aa 2) (ae aj (ae (bK (n:=9999999999) (by rfl) T.c_MOST_NUMBER) af)))) af))))) bC)) (bD (az (aG hr (aa 1) ag) eV aF) (aw (bq (bn (T.gd Nq) Pj Nr hr.m (aa 0) (ae (aa 1) (ae (aa 2) af)))))))))),bo λv hu ts S Q h=>?_⟩
 obtain ⟨A,k,m,a,n,r,rfl,hA,ok,hm,⟨hn1,Sn⟩,⟨hr1,NK⟩,he⟩:=h
 have hk:=hA.dk
 unfold dkO at hk
 have hL:=hA.left
 have l5:=ok.xl
 have iu:=hL.tp.ty
 have SL:=iu
 unfold tyO at SL
 have Uu:=Up.refl hL
 unfold wth at he
 ac_nf
 by_cases e:n="key"
 ·rw [if_pos e] at he
  obtain ⟨h0,hq⟩:=he.2 _ rfl
  obtain ⟨j,hj⟩:∃ j,rf m a (key r)=j:=⟨_,rfl⟩
  rw [hj] at h0 hq
  refine cF (dA ?_)
  ext
  refine fV e ?_
  ext
  refine ⟨A.u,_,_,_,_,_,r,rfl,iu,hr1,NK,l5,?_⟩
  rcases if3 hj with ⟨h1,rfl⟩|⟨_,_,rfl⟩|⟨h1,h2,rfl⟩
  ·exact ⟨.inl h1,.mk hq⟩
  ·exact absurd rfl h0
  ·exact ⟨.inr ⟨by simpa using h1,by omega⟩,.mk hq⟩
 ·rw [if_neg e] at he
  refine cG (cA ?_)
  ext
  refine eS e ?_
  ext
  dsimp only
  by_cases e2:n="take"
  ·rw [if_pos e2] at he
   refine cF (dA ?_)
   ext
   refine fV e2 ?_
   cases hn:nin r 0 9999999999 with
   |false =>
    rw [hn] at he
    refine cF ?_
    ext
    exact ⟨r,_,_,rfl,hr1,NK,hn,.mk (he.1 rfl)⟩
   |true =>
    rw [hn,if_pos rfl] at he
    obtain ⟨h0,hq⟩:=he.2 _ rfl
    obtain ⟨j,hj⟩:∃ j,rf m a (take (vl r))=j:=⟨_,rfl⟩
    rw [hj] at h0 hq
    obtain ⟨hb,h12⟩:=Bool.and_eq_true_iff.mp hn
    obtain ⟨h1,h2⟩:=Bool.and_eq_true_iff.mp h12
    have h1:=of_decide_eq_true h1
    have h2:=of_decide_eq_true h2
    refine cG ?_
    ext
    refine gz hr1 hn ?_
    ext
    rcases if2 hj with ⟨_,rfl⟩|⟨h3,rfl⟩
    ·exact absurd rfl h0
    ·exact ⟨A,m,a,vl r,rfl,hL,ok,hm,lg h1 (by omega),.inr (by omega),.mk hq⟩
  ·rw [if_neg e2] at he
   refine cG (cA ?_)
   ext
   refine eS e2 ?_
   ext
   exact ⟨A,k,m,a,n,r,rfl,hA,ok,hm,⟨hn1,Sn⟩,⟨hr1,NK⟩,λz=>.mk (he.1 z),λd hd=>⟨(he.2 d hd).1,.mk (he.2 d hd).2⟩⟩
structure Lkk (a:Ab):Prop where
 ok:Okk a
 le:a.hs.length+a.ms.length<=20
 hb:∀ x∈a.hs,0<=x.2.1/\x.2.1<=10 ^ 11
 ll:a.ln.length<=20
 lw:∀ z∈a.ln,Wm.Wd z=true
 xo:PyData.strOk a.x=true
theorem oM {z:Str}(h:Wm.Wd z=true):z.length<=24:=of_decide_eq_true (Bool.and_eq_true_iff.mp h).1
theorem sU {n:Int}(h0:0<=n) (h:n<=10 ^ 12):(Str.ofString (toString n)).length<=15:=by
 have:=Nm.J0 (n:=n.toNat) (by omega)
 unfold Nm.D at this
 rwa [Int.toNat_of_nonneg h0] at this
theorem vL:Str.empty.length=0:=rfl
theorem Ed {n:Int}{z:Str}{b:Bool}(h0:0<=n) (h:n<=10 ^ 12) (hz:z.length<=24):(ttx n z b).length<=60:=by
 have:=sU h0 h
 unfold ttx
 rw [PySem.Str.length_append,PySem.Str.length_append,PySem.Str.length_append,PySem.Str.length_append,PySem.Str.length_append,vL,show (Str.ofString " ").length=1 from rfl]
 have:(if b=true then Str.ofString "own" else Str.ofString "house").length<=5:=by cases b<;>decide
 omega
theorem Ee {p:Rt}(h0:0<=p.2) (h:p.2<=10 ^ 12) (hz:p.1.length<=24):(wtx p).length<=60:=by
 have:=sU h0 h
 unfold wtx
 rw [PySem.Str.length_append,PySem.Str.length_append,PySem.Str.length_append,vL,show (Str.ofString " ").length=1 from rfl]
 omega
theorem pz:PyData.strOk Str.empty=true:=by decide +kernel
theorem uI {n:Int}(h:0<=n):PyData.strOk (Str.ofString (toString n))=true:=by
 obtain ⟨k,rfl⟩:=Int.eq_ofNat_of_zero_le h
 rw [hJ,List.all_eq_true]
 intro c hc
 have:=Nm.JZ (n:=k) hc
 exact decide_eq_true (by omega)
theorem Hr {n:Int}{z:Str}{b:Bool}(h:0<=n) (hz:PyData.strOk z=true):PyData.strOk (ttx n z b)=true:=by
 unfold ttx
 exact cB (cB (cB (cB (cB pz (uI h)) (by decide +kernel)) hz) (by decide +kernel)) (by cases b<;>decide +kernel)
theorem Hs {p:Rt}(h:0<=p.2) (hz:PyData.strOk p.1=true):PyData.strOk (wtx p)=true:=by
 unfold wtx
 exact cB (cB (cB pz (uI h)) (by decide +kernel)) hz
theorem vM {x:Str}(h:PyData.strOk x=true):PyData.strOk (br x)=true:=by
 unfold br
 exact cB (cB (cB pz (by decide +kernel)) h) (by decide +kernel)
theorem fY {g:List Nat}{c:Nat}:∀ {ps:List (List Nat)},c∈Tm.ba g ps->c∈g\/∃ p∈ps,c∈p
 |[],h=>nomatch h
 |[p],h=>.inr ⟨p,List.mem_cons_self,h⟩
 |p::q::r,h=>by
  rcases List.mem_append.mp (show c∈(p++g)++Tm.ba g (q::r) from h) with h|h
  ·rcases List.mem_append.mp h with h|h
   ·exact .inr ⟨p,List.mem_cons_self,h⟩
   ·exact .inl h
  ·rcases fY h with h|⟨x,hx,h⟩
   ·exact .inl h
   ·exact .inr ⟨x,List.mem_cons_of_mem _ hx,h⟩
theorem nO {zs:List Str}(h:∀ z∈zs,PyData.strOk z=true):PyData.strOk (lis zs)=true:=by
 unfold lis
 cases zs with
 |nil=>decide +kernel
 |cons z zs =>
  show PyData.strOk (PySem.Txt.join ", " (z::zs))=true
  rw [hJ,Tm.C1,List.all_eq_true]
  intro c hc
  rcases fY hc with hc|⟨p,hp,hc⟩
  ·exact List.all_eq_true.mp (show ((Tm.tl ", ").all λc=>decide (c<1114112))=true by decide +kernel) c hc
  ·obtain ⟨x,hx,rfl⟩:=List.mem_map.mp hp
   have:=h x hx
   rw [hJ,List.all_eq_true] at this
   exact this c hc
def xg (D:Addr) (B:Cs):WSp:=λts S Q=>∃ A k m a r c,ts=[.ref k,.str r]/\At S (dl D B A k m a)/\Lkk a/\0<=m/\dj r=some c/\rfC m a c=0/\∀ S',Up S (lay B A m a) S' (lay B A m (nxC m a c))->(c=.told->PyData.strOk (anC m a .told)=true)->(c=.house->PyData.strOk (anC m a .house)=true)->Q (.str (anC m a c)) S'
theorem pB:FnScope vv9 vv9 (aq iC):=⟨rfl,rfl,rfl,by decide +kernel,rfl,by decide +kernel,by decide +kernel⟩
theorem Kk (F:!"say_alone" "Desk.say_alone" iC) (T:Txt K mg C L R Y D Z)
  (Mv:!7 f1 LX vv1 (jx C L R Y)) (Mw:Meth K Y "told" f1) (Mx:ao K LX vv1 [])
  (Pk:!1 f2 M9 vv1 (uC Y)) (Pl:Meth K Y "line" f2) (Pn:ao K M9 vv1 [])
  (Po:!1 f3 Oi vv1 (uB Y)) (Nt:Meth K Y "back" f3) (Nu:ao K Oi vv1 [])
  (M6:!1 f4 QF vv1 (mR Y)) (M7:Meth K Y "clear" f4) (M8:ao K QF vv1 [])
  (Mr:!2 f5 Q9 vv1 (pv D ⟨C,L,R,Y⟩)) (Mt:Meth K D "typed_answer" f5) (Mu:ao K Q9 vv1 [])
  (OU:!1 f6 TX ["texts"] mr) (OV:Df K mg "listed" f6 TX ["texts"]) (Qr:!1 f7 TY j9 xb) (Qs:Df K mg "told_text" f7 TY j9)
  (P8:!5 f8 fd8 ["wood"] (xc C)) (P9:Df K mg "wood_texts" f8 fd8 ["wood"]):!8 f fd vv9 (xg D ⟨C,L,R,Y⟩):=by
 exists pB
 refine ⟨_,((ak (az (aG hr (aa 1) ag) (ai (av (aA OU OV hr.m (ae (dH false ["number","one"] 2 [] rfl (Du rfl (by rfl) T.enumerate (cf (T.gu Mw) Mv Mx hr.m (ap T.gdt (aa 0)))) (λ_ _ _ _=>(gK (λh=>gB (n:=2) rfl rfl h) (cz (bp 0 (show List.Nodup (["number","one"]:List Str) from by decide +kernel)) (cz (bp 1 (show List.Nodup (["number","one"]:List Str) from by decide +kernel)) gC (λh1 h2=>cy h1 h2)) (λh1 h2=>cy h1 h2)))) (λ_ _ _ _=>d4) (λ_ _ _ _=>(aA Qr Qs hr.m (ae (aa 0) (ae (aC (aa 1) aj) (ae (aC (aa 1) aj) af)))))) af)))) aF) (ak (az (aG hr (aa 1) ag) (ai (av (aA OU OV hr.m (ae (cf (T.gu Pl) Pk Pn hr.m (ap T.gdt (aa 0))) af)))) aF) (ak (az (aG hr (aa 1) ag) (ai (av (aA OU OV hr.m (ae (aA P8 P9 hr.m (ae (ap T.gdh (aa 0)) af)) af)))) aF) (ak (az (aG hr (aa 1) ag) (ai (aR (cf (T.gu Nt) Po Nu hr.m (ap T.gdt (aa 0))))) (ai (az (aG hr (aa 1) ag) (ai (aR (cf (T.gu M7) M6 M8 hr.m (ap T.gdt (aa 0))))) (ai bf)))) (ai (av (cf (T.gd Mt) Mr Mu hr.m (aa 0))))))))),ax λv hu ts S Q h=>?_⟩
 obtain ⟨A,k,m,a,r,c,rfl,hA,lk,hm,he,h0,hq⟩:=h
 have ok:=lk.ok
 have hk:=hA.dk
 unfold dkO at hk
 have hL:=hA.left
 have l5:=ok.xl
 have iu:=hL.tp.ty
 have SL:=iu
 unfold tyO at SL
 have Uu:=Up.refl hL
 unfold dj at he
 ac_nf
 ext
 refine ifN (λe=>?_) λe=>?_
 ·rw [if_pos e] at he
  cases he
  ext
  refine ⟨_,_,_,_,_,_,_,_,_,_,_,_,_,_,_,_,_,_,_,_,rfl,hL.tp,ok.ok,hm,λp=>?_⟩
  have Rn:=λr (h:r∈a.told m)=>rG (m:=m) p h
  have hw:∀ r∈a.told m,r.1.length<=24:=λr h=>oM (by
   rcases (Rn r h).2 with ⟨mm,e⟩|⟨_,mm,e⟩
   ·exact ok.ok.o.wd _ (As.c5 e)
   ·exact ok.ok.h.wd _ (As.c5 e))
  have hwo:∀ r∈a.told m,PyData.strOk r.1=true:=λr h=>Wm.g8 (by
   rcases (Rn r h).2 with ⟨mm,e⟩|⟨_,mm,e⟩
   ·exact ok.ok.o.wd _ (As.c5 e)
   ·exact ok.ok.h.wd _ (As.c5 e))
  have hl:(a.told m).length<=20:=by
   have h1:=p.length_eq
   have h2:=sP (k:=a.k) (n:=a.n) (hs:=a.hs) (ms:=a.ms) (vs:=a.vs) (b:=a.x)
   have h3:=lk.le
   unfold Ab.told tld
   rw [List.length_take,h1]
   unfold rows
   rw [List.length_map]
   omega
  have hq:=hq _ Uu (λ_=>nO λz hz=>by
   obtain ⟨q,RE,rfl⟩:=List.mem_map.mp hz
   exact Hr (by omega) (hwo _ (List.fst_mem_of_mem_zipIdx RE))) nofun
  change ∃ ts,aN S (.lst ((a.told m).map r4))=some ts/\_
  unfold anC at hq
  generalize a.told m=tl at hw hl hq ⊢
  refine ⟨tl.map r4,by simp only [aN],?_⟩
  dsimp only
  rw [show cH (tl.map r4)=tl.zipIdx.map λp=>T2.T.tup [.int (p.2:Int),r4 p.1] by unfold cH;rw [List.zipIdx_map,List.map_map];rfl]
  refine iV (ls:=tl.zipIdx) (λp=>T2.T.tup [.int (p.2:Int),r4 p.1]) (λp=>some (.str (ttx p.2 p.1.1 p.1.2.2.2))) [] ?_ (by rw [sizeLine_eq,List.length_zipIdx];omega) (λq RE u v LU N Nf hN=>?_) ?_
  ·trivial
  ·have h1:=List.fst_mem_of_mem_zipIdx RE
   have h2:=List.snd_lt_of_mem_zipIdx RE
   unfold r4
   ext
   exact ⟨_,_,_,rfl,lg (by omega) (by omega),by have:=hw _ h1;omega,Nf,hN _ _⟩
  ·rw [show tl.zipIdx.filterMap (λp=>some (T2.T.str (ttx p.2 p.1.1 p.1.2.2.2)))=(tl.zipIdx.map λp=>ttx p.2 p.1.1 p.1.2.2.2).map T2.T.str by rw [List.map_map,<- List.filterMap_eq_map];rfl]
   ext
   refine mv (Tm.ni (b:=60) (λz hz=>?_) ?_) (.mk hq)
   ·obtain ⟨q,RE,rfl⟩:=List.mem_map.mp hz
    have h1:=List.fst_mem_of_mem_zipIdx RE
    have h2:=List.snd_lt_of_mem_zipIdx RE
    exact Ed (by omega) (by omega) (hw _ h1)
   ·rw [List.length_map,List.length_zipIdx,show (Str.ofString ", ").length=2 from rfl];omega
 rw [if_neg e] at he
 ext
 refine ifN (λe=>?_) λe=>?_
 ·rw [if_pos e] at he
  cases he
  ext
  refine ⟨A.u,_,_,_,_,_,a.ln,rfl,iu,hL.tp.li,?_⟩
  ext
  refine mv (Tm.ni (b:=24) (λz hz=>oM (lk.lw z hz)) ?_) (.mk (hq _ Uu nofun nofun))
  have:=lk.ll
  rw [show (Str.ofString ", ").length=2 from rfl];omega
 rw [if_neg e] at he
 ext
 refine ifN (λe=>?_) λe=>?_
 ·rw [if_pos e] at he
  cases he
  ext
  refine ⟨A.h,_,_,_,rfl,hL.wh,ok.ok.h,lk.hb,λhp=>?_⟩
  ext
  refine mv (Tm.ni (b:=60) (λz hz=>?_) ?_) (.mk (hq _ Uu nofun λ_=>nO λz hz=>by
   obtain ⟨q,RE,rfl⟩:=List.mem_map.mp hz
   obtain ⟨x,hx,rfl⟩:=List.mem_map.mp (hp.mem_iff.mp RE)
   exact Hs (Int.ediv_nonneg (lk.hb x hx).1 (Int.le_of_lt (Int.pow_pos (by decide)))) (Wm.g8 (ok.ok.h.wd x hx))))
  ·obtain ⟨q,RE,rfl⟩:=List.mem_map.mp hz
   obtain ⟨x,hx,rfl⟩:=List.mem_map.mp (hp.mem_iff.mp RE)
   obtain ⟨b0,b1⟩:=lk.hb x hx
   have h1:0<=wrt x.2 a.k:=Int.ediv_nonneg b0 (Int.le_of_lt (Int.pow_pos (by decide)))
   have h2:wrt x.2 a.k<=x.2.1:=Int.ediv_le_self _ b0
   exact Ee h1 (by show wrt x.2 a.k<=_;omega) (oM (ok.ok.h.wd x hx))
  ·have:=hp.length_eq
   have:=lk.le
   rw [List.length_map] at *
   rw [show (Str.ofString ", ").length=2 from rfl];omega
 rw [if_neg e] at he
 refine T2.tQ ?_
 dsimp only
 refine cu (λLR S'=>LR=[some (.ref k),some (.str r)]/\∃ x,x.length<=1000/\S'=T2.put S A.u (tyO Y A.y A.q A.c m x)/\nxC m a c={ a with x:=x }/\anC m a c=br x/\c≠.told/\c≠.house) ?_ ?_
 ·intro X hX
  ext
  refine ifN (λe=>?_) λe=>?_
  ·rw [if_pos e] at he
   cases he
   ext
   rcases if2 (show rf m a back=0 from h0) with ⟨_,e⟩|⟨h1,_⟩
   ·cases e
   ·exact ⟨A.u,_,_,_,_,_,rfl,iu,l5,h1,hX _ _ ⟨rfl,_,by have:=vG a.x none (some (-1));omega,rfl,rfl,rfl,nofun,nofun⟩⟩
  rw [if_neg e] at he
  ext
  refine ifN (λe=>?_) λe=>?_
  ·rw [if_pos e] at he
   cases he
   ext
   exact ⟨A.u,_,_,_,_,_,rfl,iu,hX _ _ ⟨rfl,"",by decide,rfl,rfl,rfl,nofun,nofun⟩⟩
  rw [if_neg e] at he
  cases he
 rintro LR S' ⟨rfl,x,hx,rfl,e1,e2,e3,e4⟩
 have A2:=hA.up (Uu.txt (x:=x))
 have k2:=A2.dk
 unfold dkO at k2
 ext
 refine ⟨A,k,m,_,rfl,A2,hx,?_⟩
 rw [e1,e2] at hq
 exact .mk (hq _ Uu.txt (λz=>absurd z e3) λz=>absurd z e4)
def vO (D:Addr) (Z:Zs) (B:Cs):aU:=λts S R=>∃ A k m a r,ts=[.ref k,.str r]/\At S (dl D B A k m a)/\Tx r/\(dj r=none->R Z.W S)/\∀ c,dj r=some c->rfC m a c≠0/\R (cls Z (rfC m a c)) S
theorem Kl (F:!"say_alone" "Desk.say_alone" iC) (T:Txt K mg C L R Y D Z)
  (Pp:FnOk P w K mg base (CX1 P w) 1 f3 Oi vv1 (aH K (sN Y Z.S))) (Nt:Meth K Y "back" f3) (Nu:ao K Oi vv1 []):FnOk P w K mg base (CX1 P w) 8 f fd vv9 (aH K (vO D Z ⟨C,L,R,Y⟩)):=by
 exists pB
 refine ⟨_,((bD (az (aG hr (aa 1) ag) eV aF) (bD (az (aG hr (aa 1) ag) eV aF) (bD (az (aG hr (aa 1) ag) eV aF) (aw (aT (aG hr (aa 1) ag) (aw (bq (Bf (T.gu Nt) Pp Nu hr.m (ap T.gdt (aa 0))))) (aw (aT (aG hr (aa 1) ag) bC (aw (bS T.x_NoRow T.k_NoRow rfl (by rfl) T.mg_NoRow (ae (eO (jt (aa 1) (da d9))) af))))))))))),bo λv hu ts S Q h=>?_⟩
 obtain ⟨A,k,m,a,r,rfl,hA,⟨hr1,NK⟩,he⟩:=h
 have hk:=hA.dk
 unfold dkO at hk
 have hL:=hA.left
 have iu:=hL.tp.ty
 have SL:=iu
 unfold tyO at SL
 unfold dj at he
 ac_nf
 ext
 refine ifN (λe=>?_) λe=>?_
 ·rw [if_pos e] at he;exact absurd rfl (he.2 _ rfl).1
 rw [if_neg e] at he
 ext
 refine ifN (λe=>?_) λe=>?_
 ·rw [if_pos e] at he;exact absurd rfl (he.2 _ rfl).1
 rw [if_neg e] at he
 ext
 refine ifN (λe=>?_) λe=>?_
 ·rw [if_pos e] at he;exact absurd rfl (he.2 _ rfl).1
 rw [if_neg e] at he
 ext
 refine ifN (λe=>?_) λe=>?_
 ·rw [if_pos e] at he
  obtain ⟨h0,hq⟩:=he.2 _ rfl
  obtain ⟨j,hj⟩:∃ j,rf m a back=j:=⟨_,rfl⟩
  change rf m a back≠0 at h0
  change Q (cls Z (rf m a back)) S at hq
  rw [hj] at h0 hq
  ext
  rcases if2 hj with ⟨h1,rfl⟩|⟨_,rfl⟩
  ·exact ⟨A.u,_,_,_,_,rfl,by rw [<- h1];exact iu,.mk hq⟩
  ·exact absurd rfl h0
 rw [if_neg e] at he
 ext
 refine ifN (λe=>?_) λe=>?_
 ·rw [if_pos e] at he;exact absurd rfl (he.2 _ rfl).1
 rw [if_neg e] at he
 ext
 refine ⟨r,rfl,hr1,NK,?_⟩
 ext
 exact ⟨Nat.le_of_ble_eq_true rfl,.mk (he.1 rfl)⟩
def jO (D:Addr) (B:Cs):WSp:=λts S Q=>∃ A k m a r c,ts=[.ref k,.str r]/\At S (dl D B A k m a)/\Lkk a/\0<=m/\Tx r/\cmd r=some c/\rfC m a c=0/\∀ S',Up S (lay B A m a) S' (lay B A m (nxC m a c))->(c=.told->PyData.strOk (anC m a .told)=true)->(c=.house->PyData.strOk (anC m a .house)=true)->Q (.str (anC m a c)) S'
theorem fQ {S:Sto}{Q:T->Sto->Prop}{B:Cs}{A:Ad}{k:Addr}{m:Int}{a:Ab}{r:Str}{c:Cm}(h1:At S (dl D B A k m a)) (h2:Lkk a) (h3:0<=m) (h4:Tx r) (h5:cmd r=some c) (h6:rfC m a c=0) (h:∀ S',Up S (lay B A m a) S' (lay B A m (nxC m a c))->(c=.told->PyData.strOk (anC m a .told)=true)->(c=.house->PyData.strOk (anC m a .house)=true)->Q (.str (anC m a c)) S'):jO D B (.ref k::([.str r]++[])) S Q:=⟨A,k,m,a,r,c,rfl,h1,h2,h3,h4,h5,h6,h⟩
theorem qb:FnScope ["self","row","sides"] vv9 (aq iT):=⟨rfl,rfl,rfl,by decide +kernel,rfl,by decide +kernel,by decide +kernel⟩
theorem Ht (F:!"say" "Desk.say" iT) (T:Txt K mg C L R Y D Z)
  (Op:!8 f1 LX vv9 (xg D ⟨C,L,R,Y⟩)) (MD:Meth K D "say_alone" f1) (ME:ao K LX vv9 [])
  (Oz:!9 f2 M9 vv6 (vK D ⟨C,L,R,Y⟩)) (MM:Meth K D "say_with" f2) (MN:ao K M9 vv6 []):!10 f fd vv9 (jO D ⟨C,L,R,Y⟩):=by
 exists qb
 refine ⟨_,((ak (aD 2 nd (bF PySem.F.plainAttrs_str PySem.F.slot_str_partition PySem.F.type_str_partition jp (aa 1) (ae ag af))) (ak (az (aG hr (aC (aa 2) aj) ag) (ai (av (aL (T.gd MD) Op ME hr.m (aa 0) (ae (aa 1) af)))) aF) (ai (av (aL (T.gd MM) Oz MN hr.m (aa 0) (ae (aC (aa 2) aj) (ae (aC (aa 2) aj) af)))))))),ax λv hu ts S Q h=>?_⟩
 obtain ⟨A,k,m,a,r,c,rfl,hA,lk,hm,⟨hr1,NK⟩,he,h0,hq⟩:=h
 have hk:=hA.dk
 unfold dkO at hk
 ac_nf
 ext
 refine jq (by decide) hr1 ?_
 cases ho:oc r with
 |nil =>
  rw [pq ho] at he
  rw [oJ ho]
  ext
  refine fV rfl ?_
  ext
  exact ⟨A,k,m,a,r,c,rfl,hA,lk,hm,he,h0,λS' u o1 o2=>.mk (hq S' u o1 o2)⟩
 |cons i l =>
  rw [pt ho] at he
  obtain ⟨d,hd,rfl⟩:=Option.map_eq_some_iff.mp he
  rw [jM ho]
  ext
  refine eS (by decide) ?_
  ext
  exact ⟨A,k,m,a,_,_,d,rfl,hA,lk.ok,hm,⟨Nat.le_trans (jg r i) hr1,eZ NK⟩,hd,h0,λS' u=>.mk (hq S' u nofun nofun)⟩
def nP (D:Addr) (Z:Zs) (B:Cs):aU:=λts S R=>∃ A k m a r,ts=[.ref k,.str r]/\At S (dl D B A k m a)/\Okk a/\0<=m/\Tx r/\(cmd r=none->R Z.W S)/\∀ c,cmd r=some c->rfC m a c≠0/\R (cls Z (rfC m a c)) S
theorem Hu (F:!"say" "Desk.say" iT) (T:Txt K mg C L R Y D Z)
  (Oq:FnOk P w K mg base (CX1 P w) 8 f1 LX vv9 (aH K (vO D Z ⟨C,L,R,Y⟩))) (MD:Meth K D "say_alone" f1) (ME:ao K LX vv9 [])
  (OA:FnOk P w K mg base (CX1 P w) 9 f2 M9 vv6 (aH K (uH D Z ⟨C,L,R,Y⟩))) (MM:Meth K D "say_with" f2) (MN:ao K M9 vv6 []):FnOk P w K mg base (CX1 P w) 10 f fd vv9 (aH K (nP D Z ⟨C,L,R,Y⟩)):=by
 exists qb
 refine ⟨_,((bD (aD 2 nd (bF PySem.F.plainAttrs_str PySem.F.slot_str_partition PySem.F.type_str_partition jp (aa 1) (ae ag af))) (cQ (aw (aT (aG hr (aC (aa 2) aj) ag) (aw (jn (bn (T.gd MD) Oq ME hr.m (aa 0) (ae (aa 1) af)))) bC)) (bD (az (aG hr (aC (aa 2) aj) ag) eV aF) (aw (jn (bn (T.gd MM) OA MN hr.m (aa 0) (ae (aC (aa 2) aj) (ae (aC (aa 2) aj) af))))))))),bo λv hu ts S Q h=>?_⟩
 obtain ⟨A,k,m,a,r,rfl,hA,ok,hm,⟨hr1,NK⟩,he⟩:=h
 have hk:=hA.dk
 unfold dkO at hk
 ac_nf
 ext
 refine jq (by decide) hr1 ?_
 cases ho:oc r with
 |nil =>
  rw [pq ho] at he
  rw [oJ ho]
  dsimp only
  refine cF (dA ?_)
  ext
  refine fV rfl ?_
  ext
  exact ⟨A,k,m,a,r,rfl,hA,⟨hr1,NK⟩,λz=>.mk (he.1 z),λd hd=>⟨(he.2 d hd).1,.mk (he.2 d hd).2⟩⟩
 |cons i l =>
  rw [pt ho] at he
  rw [jM ho]
  dsimp only
  refine cG (cA ?_)
  ext
  refine eS (by decide) ?_
  ext
  exact ⟨A,k,m,a,_,_,rfl,hA,ok,hm,⟨Nat.le_trans (jf r i) hr1,eZ NK⟩,⟨Nat.le_trans (jg r i) hr1,eZ NK⟩,λz=>.mk (he.1 (by rw [z];rfl)),λd hd=>⟨(he.2 (.deed d) (by rw [hd];rfl)).1,.mk (he.2 (.deed d) (by rw [hd];rfl)).2⟩⟩
section
variable {C:Addr}{S S':Sto}{l l' nw:List (Addr×O)}{p d v y t q g c:Addr}{o u:O}
theorem At.grow (h:At S l) (nd:(nw.map (·.1)).Nodup) (hn:∀ x∈nw,S x.1=none) (hv:∀ x∈nw,S' x.1=some x.2) (k:∀ a o,S a=some o->S' a=some o):At S' (nw++l):=by
 refine ⟨List.map_append ▸ List.nodup_append.mpr ⟨nd,h.nd,λa ha b hb e=>?_⟩,λx hx=>?_⟩
 ·obtain ⟨x,hx,rfl⟩:=List.mem_map.mp ha
  obtain ⟨y,hy,rfl⟩:=List.mem_map.mp hb
  exact di (h.is y hy) (hn x hx) e.symm
 ·rcases List.mem_append.mp hx with q|q
  ·exact hv x q
  ·exact k _ _ (h.is x q)
theorem At.four {a b c e:Addr}{oa ob oc oe:O}(h:At S l) (ha:S a=none) (ga:S' a=some oa) (gb:S' b=some ob) (gc:S' c=some oc) (ge:S' e=some oe) (nb:T2.put S a u b=none) (nc:T2.put S a u c=none) (ne:T2.put S a u e=none) (bc:b≠c) (be:b≠e) (ce:c≠e)
  (k:∀ x o,T2.put S a u x=some o->x≠a->S' x=some o):At S' ([(a,oa),(b,ob),(c,oc),(e,oe)]++l):=by
 obtain ⟨b1,b2⟩:=bU nb
 obtain ⟨c1,c2⟩:=bU nc
 obtain ⟨e1,e2⟩:=bU ne
 refine h.grow ?_ ?_ ?_ λx o hx=>k x o ((ay (di hx ha)).trans hx) (di hx ha)
 ·simp only [List.map_cons,List.map_nil,List.nodup_cons,List.mem_cons,List.not_mem_nil,or_false,not_or]
  exact ⟨⟨Ne.symm b1,Ne.symm c1,Ne.symm e1⟩,⟨bc,be⟩,ce,not_false,List.nodup_nil⟩
 ·intro x hx
  simp only [List.mem_cons,List.not_mem_nil,or_false] at hx
  rcases hx with rfl|rfl|rfl|rfl<;>assumption
 ·intro x hx
  simp only [List.mem_cons,List.not_mem_nil,or_false] at hx
  rcases hx with rfl|rfl|rfl|rfl<;>assumption
theorem At.wood (hA:At S l) (h1:S p=none) (h2:T2.put S p (.ins C []) d=none):At (T2.put (T2.put (T2.put S p (.ins C [])) d (.dK [])) p o) ((d,.dK [])::(p,o)::l):=((hA.cons h1).cons h2).put 1 rfl
end
def Kp (S:Sto) (k:Addr) (S':Sto):Prop:=∀ b o,S b=some o->b≠k->S' b=some o
theorem Kp.at_ {S S':Sto}{k:Addr}{o:O}(h:Kp S k S'):Kp S k (T2.put S' k o):=λb u e n=>(ay n).trans (h b u e n)
theorem Kp.new {S S':Sto}{k p:Addr}{o:O}(h:Kp S k S') (h1:S' p=none):Kp S k (T2.put S' p o):=λb u e n=>(ay (di (h b u e n) h1)).trans (h b u e n)
theorem Kp.again {S S':Sto}{k p:Addr}{o o2:O}(h:Kp S k S') (h1:S' p=none) (S2:Sto) (h2:Kp (T2.put S' p o) k S2):Kp S k (T2.put S2 p o2):=λb u e n=>by
 have nb:=di (h b u e n) h1
 rw [ay nb]
 exact h2 b u ((ay nb).trans (h b u e n)) n
theorem Kp.of {S S' S2:Sto}{k y:Addr}{o:O}(h:Kp S k S') (h1:S' y=none) (h2:∀ b u,T2.put S' y o b=some u->b≠y->S2 b=some u):Kp S k S2:=λb u e n=>by
 have nb:=di (h b u e n) h1
 exact h2 b u ((ay nb).trans (h b u e n)) nb
abbrev ab0:Ab:=⟨0,0,0,[],[],[],[],"",[]⟩
def sV (D:Addr) (B:Cs):WSp:=λts S Q=>∃ k m,ts=[.ref k,.int m]/\S k=some (.ins D [])/\∀ S' A,At S' (dl D B A k m ab0)->Kp S k S'->Q .non S'
theorem yd:FnScope ["self","many"] ["self","many"] (aq kU):=⟨rfl,rfl,rfl,by decide +kernel,rfl,by decide +kernel,by decide +kernel⟩
theorem BH (F:!"__init__" "Desk.__init__" kU) (T:Txt K mg C L R Y D Z)
  (MI:!1 f1 LX vv1 (nC C)) (QC:Mk K C f1) (MJ:ao K LX vv1 [])
  (N9:!3 f2 M9 iA (sF C L)) (RF:Mk K L f2) (Oa:ao K M9 iA [])
  (Ob:!3 f3 Oi ix (sM Y R)) (RG:Mk K Y f3) (Oc:ao K Oi ix []):!5 f fd ["self","many"] (sV D ⟨C,L,R,Y⟩):=by
 exists yd
 refine ⟨_,((ak (bE rfl T.gdh (aa 0) (mK QC MI MJ hr.m (by rfl) T.mg_Wood)) (ak (bE rfl T.gdl (aa 0) (nt RF N9 Oa hr.m (by rfl) T.mg_Layers (ae (ap T.gdh (aa 0)) af))) (ai (bE rfl T.gdt (aa 0) (nt RG Ob Oc hr.m (by rfl) T.mg_Typist (ae (ap T.gdl (aa 0)) (ae (aa 1) af)))))))),ax λv hu ts S Q h=>?_⟩
 obtain ⟨k,m,rfl,hk,hq⟩:=h
 have hA:At S [(k,.ins D [])]:=⟨by simp,by simpa using hk⟩
 have hF:Kp S k S:=λ_ _ h _=>h
 ac_nf
 ext
 intro h0 hh0
 refine ⟨h0,rfl,aI,λe0 he0=>?_⟩
 have hA:=hA.wood (o:=woO C e0 0) hh0 he0
 have hF:=hF.again (o2:=woO C e0 0) hh0 _ (Kp.new (o:=.dK []) (λ_ _ h _=>h) he0)
 unfold woO at hA hF
 generalize put (put (put S h0 _) e0 _) h0 _=S1 at hA hF ⊢
 clear hh0 he0
 refine ⟨rfl,?_⟩
 have g:=hA.get 2 rfl
 ext
 have hA:=hA.put (o':=.ins D (bz (Str.ofString "house") (.ref h0) [])) 2 rfl
 have hF:=hF.at_ (o:=.ins D (bz (Str.ofString "house") (.ref h0) []))
 generalize put S1 k _=S2 at hA hF ⊢
 clear g
 intro y0 hy0
 refine ⟨y0,h0,rfl,aI,λS3 p0 d0 v0 gy gp gv dv np nd1 nv kp=>⟨rfl,?_⟩⟩
 have hA:=hA.four hy0 gy gp.ins gp.dct gv np nd1 nv gp.ne (hE gp.ins gv (by simp)) dv kp
 have hF:=hF.of hy0 kp
 clear hy0 gy gp gv dv np nd1 nv kp
 have g:S3 k=some (.ins D [("house",.ref h0)]):=hA.get 6 rfl
 ext
 have hA:=hA.put (o':=.ins D (bz (Str.ofString "layers") (.ref y0) [("house",.ref h0)])) 6 rfl
 have hF:=hF.at_ (o:=.ins D (bz (Str.ofString "layers") (.ref y0) [("house",.ref h0)]))
 generalize put S3 k _=S4 at hA hF ⊢
 clear g
 intro t0 ht0
 refine ⟨t0,y0,m,rfl,aI,λS5 q0 g0 c0 gt gq gg gc kp nq ng nc=>⟨rfl,?_⟩⟩
 have hA:=hA.four ht0 gt gq gg gc nq ng nc (hE gq gg (by unfold prO;simp)) (hE gq gc (by unfold prO;simp)) (hE gg gc (by simp)) kp
 have hF:=hF.of ht0 kp
 clear ht0 gt gq gg gc kp nq ng nc
 have g:S5 k=some (.ins D [("house",.ref h0),("layers",.ref y0)]):=hA.get 10 rfl
 ext
 have hA:=hA.put (o':=dkO D h0 y0 t0) 10 rfl
 have hF:=hF.at_ (o:=dkO D h0 y0 t0)
 refine .mk (hq _ ⟨h0,e0,y0,p0,d0,v0,t0,q0,g0,c0⟩ (hA.pick [9,8,4,5,6,7,0,1,2,3,10] (by decide) rfl) hF)
theorem mw:∀ {ws:List Str},(∀ a∈ws,PyData.strOk a=true)->PyData.canLayAll0 (ws.map PyData.str)=true
 |[],_=>rfl
 |a::l,h=>by
  have ih:PyData.canLayAll0 (l.map PyData.str)=true:=mw λx hx=>h x (List.mem_cons_of_mem _ hx)
  simp only [List.map_cons,PyData.canLayAll0,PyData.canLay0,h a (List.mem_cons_self ..),ih,Bool.and_self]
theorem mB:∀ (ws:List Str),PyData.depthAll (ws.map PyData.str)=0
 |[]=>rfl
 |a::l=>by simp [PyData.depthAll,PyData.depth,mB l]
theorem lU:∀ (ws:List Str),bi (ws.map T2.T.str)=some (ws.map PyData.str)
 |[]=>rfl
 |a::l=>by simp only [List.map_cons,bi,cM,lU l]
theorem BI {S:Sto}{Q:T->Sto->Prop}{n:Bool}{ws:List Str}(h0:∀ a∈ws,PyData.strOk a=true) (h:Q (.bl (n ^^ ws.isEmpty)) S):gEq n (.lst (ws.map T2.T.str)) (.lst []) S Q:=by
 refine ⟨.list (ws.map .str),.list [],by show (bi _).map PyData.list=_;rw [lU];rfl,rfl,by simp only [PyData.canLay0];exact mw h0,rfl,?_,?_⟩
 ·simp only [PyData.depth,mB,PyData.depthAll];decide
 ·have:PyData.eqv (.list (ws.map .str)) (.list [])=ws.isEmpty:=by cases ws<;>simp [PyData.eqv,PyData.eqvAll]
  rw [this];exact h
def As7 (z:Str):Prop:=∀ c∈Tm.tl z,c<128
theorem As7.ok {z:Str}(h:As7 z):PyData.strOk z=true:=by
 unfold PyData.strOk
 rw [Array.all_eq_true_iff_forall_mem]
 intro c hc
 have:=h c (by simpa [Tm.tl] using hc)
 exact decide_eq_true (by omega)
theorem Hv {c:Nat}(h:c<128):PyData.strOk ⟨#[c]⟩=true:=As7.ok (z:=⟨#[c]⟩) λd hd=>by
 have:d=c:=by simpa [Tm.tl] using hd
 omega
theorem As7.app {a b:Str}(h:As7 a) (h2:As7 b):As7 (a++b):=λc hc=>by
 rw [Tm.fG] at hc
 rcases List.mem_append.mp hc with q|q
 ·exact h c q
 ·exact h2 c q
theorem As7.slice {a:Str}(h:As7 a) (lo hi:Option Int):As7 (Txt.slice a lo hi):=λc hc=>by
 rw [Tm.eW] at hc
 exact h c (List.mem_of_mem_drop (List.mem_of_mem_take hc))
theorem y1 {x:Str}{S:Sto}{Q:T2.T->Sto->Prop}(hx:As7 x) (p:Nat->Bool) (h:Q (.bl (!(Tm.tl x).all p)) S):gEq true (.lst ((Tm.tl x).filterMap λc=>if (!p c)=true then some (T2.T.str ⟨#[c]⟩) else none)) (.lst []) S Q:=by
 rw [jL (λc=>!p c) (λc=>T2.T.str ⟨#[c]⟩),show (List.map (λc=>T2.T.str ⟨#[c]⟩) ((Tm.tl x).filter λc=>!p c))=(((Tm.tl x).filter λc=>!p c).map λc=>(⟨#[c]⟩:Str)).map T2.T.str by rw [List.map_map];rfl]
 refine BI (λa ha=>?_) ?_
 ·obtain ⟨c,hc,rfl⟩:=List.mem_map.mp ha
  exact Hv (hx c (List.mem_filter.mp hc).1)
 ·rw [List.isEmpty_map]
  have:(true ^^ ((Tm.tl x).filter λc=>!p c).isEmpty)=!(Tm.tl x).all p:=by
   rw [Bool.true_xor]
   congr 1
   rw [Bool.eq_iff_iff,List.isEmpty_iff,List.filter_eq_nil_iff,List.all_eq_true]
   refine forall_congr' λc=>forall_congr' λhc=>?_
   cases p c<;>simp
  rw [this];exact h
def nQ:WSp:=λts S Q=>∃ (z:Str) (lo hi:Int),ts=[.str z,.int lo,.int hi]/\z.length<=1000/\As7 z/\Q (.bl (nin z lo hi)) S
theorem jy {S:Sto}{Q:T->Sto->Prop}{z:Str}{lo hi:Int}(h0:z.length<=1000) (h1:As7 z) (h:Q (.bl (nin z lo hi)) S):nQ ([.str z,.int lo,.int hi]++[]) S Q:=⟨z,lo,hi,rfl,h0,h1,h⟩
theorem xR:FnScope ir ir (aq kK):=⟨rfl,rfl,rfl,by decide +kernel,rfl,by decide +kernel,by decide +kernel⟩
theorem Ef (F:!"_law_number" kK) (T:Txt K mg C L R Y D Z) :
  !1 f fd ir nQ:=by
 exists xR
 refine ⟨_,((ak (az (eF (ia (bt (dZ bd bd aj (aV (bv rfl) T.len PySem.boot_len (ae (aa 0) af)) aj)) (gW (aS (jX rfl hr.units) (dH false ["_law_sign_here"] 1 [] rfl (m5 (aa 0)) (λ_ _ _ _=>(bp 0 (show List.Nodup (["_law_sign_here"]:List Str) from by decide +kernel))) (λ_ _ _ _=>(ja (aS (CG rfl) (aa 0) ag (by with_unfolding_all rfl)))) (λ_ _ _ _=>(aa 0))) (cq af))))) (ai (av bx)) aF) (ai (av (d7 (n4 (ci (eI rfl hr.units) (aa 0) ag) (cU (ci (jX rfl hr.units) (aC (aa 0) aj) ag))) (cU (i7 bd bd (aa 1) (om uc (by rfl) T.int PyProof.Rows.boot_int (ae (aa 0) af)) (aa 2)))))))),ax λv hu ts S Q h=>?_⟩
 obtain ⟨x,lo,hi,rfl,hx,TZ,hq⟩:=h
 have no:nbB x=false->Q (.bl false) S:=λe=>by unfold nin at hq;rw [e] at hq;exact hq
 unfold nbB at no
 ac_nf
 refine cu (λLR S'=>LR=[some (.str x),some (.int lo),some (.int hi)]/\S'=S/\1<=x.length/\x.length<=10/\(Tm.tl x).all isF=true) ?_ ?_
 ·intro X hX
  ext
  by_cases h1:(1:Int)<=x.length
  ·rw [decide_eq_true h1]
   ext
   by_cases h2:(x.length:Int)<=10
   ·rw [decide_eq_true h2]
    ext
    refine eT (ls:=Tm.tl x) (λc=>T2.T.str ⟨#[c]⟩) (λc=>if (!isF c)=true then some (T2.T.str ⟨#[c]⟩) else none) [] ?_ ?_ (λc hc u LU N Nf hN=>?_) ?_
    ·trivial
    ·rw [Tm.len,sizeLine_eq];omega
    ·ext
     rw [Hf,Bool.true_xor]
     cases hc2:isF c with
     |true =>
      ext
      have:=hN (some (T2.T.str ⟨#[c]⟩))
      rw [hc2,Bool.not_true,if_neg (by decide),Option.toList_none,List.append_nil] at this
      exact this
     |false =>
      ext
      have:=hN (some (T2.T.str ⟨#[c]⟩))
      rw [hc2,Bool.not_false,if_pos rfl] at this
      exact ⟨Nf,this⟩
    ·ext
     refine y1 TZ isF ?_
     cases hf:(Tm.tl x).all isF with
     |true =>
      ext
      exact hX _ _ ⟨rfl,rfl,by omega,by omega,hf⟩
     |false =>
      ext
      exact .mk (no (by rw [hf,Bool.and_false,Bool.false_and]))
   ·rw [decide_eq_false h2]
    ext
    exact .mk (no (by rw [decide_eq_false (p:=x.length<=10) (by omega),Bool.and_false,Bool.false_and,Bool.false_and]))
  ·rw [decide_eq_false h1]
   ext
   exact .mk (no (by rw [decide_eq_false (p:=1<=x.length) (by omega),Bool.false_and,Bool.false_and,Bool.false_and]))
 rintro LR S' ⟨rfl,rfl,hl1,TV,hf⟩
 have nbe:nbB x=(decide (x="0") || !decide ((Tm.tl x)[0]?=some 48)):=by
  unfold nbB;rw [decide_eq_true hl1,decide_eq_true TV,hf,Bool.true_and,Bool.true_and,Bool.true_and]
 have go:nbB x=true->gJ gLe gLe (wV 1) (wCB ou (n5 (wV 0) dq)) (wV 2) [some (T2.T.str x),some (T2.T.int lo),some (T2.T.int hi)] S' (T2.Fin Q):=λhb=>by
  unfold nin at hq
  rw [hb,Bool.true_and] at hq
  ext
  refine ud (rH hb) (by omega) ?_
  ext
  cases h1:decide (lo<=vl x) with
  |false=>rw [h1] at hq;exact ifF (.mk hq)
  |true =>
   rw [h1,Bool.true_and] at hq
   refine ifT ?_
   ext
   exact .mk hq
 ext
 by_cases SK:x="0"
 ·have hb:nbB x=true:=by rw [nbe,decide_eq_true SK];rfl
  rw [decide_eq_true SK]
  refine ifT ⟨_,rfl,ifT ?_⟩
  exact go hb
 ·rw [decide_eq_false SK]
  refine ifF ?_
  ext
  have Ra:(Tm.tl x)[0]?=some d:=by
   have Ra:atI (Tm.tl x) 0=some d:=ed
   cases q:Tm.tl x with
   |nil=>rw [q] at Ra;simp [atI,ixN] at Ra
   |cons c r=>rw [q] at Ra;simpa [atI,ixN] using Ra
  have e:(true ^^ decide ((⟨#[d]⟩:Str)="0"))=nbB x:=by
   rw [nbe,decide_eq_false SK,Bool.true_xor,Bool.false_or,Ra]
   congr 1
   rw [Bool.eq_iff_iff,decide_eq_true_eq,decide_eq_true_eq,Option.some_inj]
   constructor
   ·intro hd
    have:=congrArg Tm.tl hd
    have:[d]=[48]:=this
    simpa using this
   ·intro hd
    subst hd
    decide +kernel
  rw [show (true ^^ decide ((⟨#[d]⟩:Str)=Str.ofString "0"))=nbB x from e]
  cases hb:nbB x with
  |true=>exact ifT (go hb)
  |false=>exact ifF (.mk (no (by rw [<- hb];rfl)))
theorem vP:∀ (l:List Nat) (a:Nat),(∀ c∈l,c<=57)->l.foldl (λLU c=>LU * 10+(c - 48)) a<(a+1) * 10 ^ l.length
 |[],a,_=>by simp
 |c::l,a,h=>by
  have h1:=vP l (a * 10+(c - 48)) λd hd=>h d (List.mem_cons_of_mem _ hd)
  have h2:=h c List.mem_cons_self
  rw [List.foldl_cons,List.length_cons,Nat.pow_succ]
  refine Nat.lt_of_lt_of_le h1 ?_
  rw [Nat.mul_comm (10 ^ l.length),<- Nat.mul_assoc]
  exact Nat.mul_le_mul_right _ (by omega)
theorem Hw {x:Str}(h:nbB x=true):0<=vl x/\vl x<=9999999999:=by
 unfold nbB at h
 simp only [Bool.and_eq_true,decide_eq_true_eq,List.all_eq_true] at h
 obtain ⟨⟨⟨h1,h2⟩,h3⟩,_⟩:=h
 have:=vP (Tm.tl x) 0 λc hc=>by
  have:=h3 c hc
  unfold isF at this
  simp only [Bool.and_eq_true,decide_eq_true_eq] at this
  exact this.2
 have h4:10 ^ (Tm.tl x).length<=10 ^ 10:=Nat.pow_le_pow_right (by decide) (by rw [Tm.len];exact h2)
 unfold vl NumText.digitsVal
 omega
theorem sW (h:Str):∀ l:List Str,(false ^^ (l.map T2.T.str).any λt=>eqF t (.str h))=decide (h∈l):=λl=>by
 rw [Bool.false_xor,Bool.eq_iff_iff,List.any_eq_true,decide_eq_true_eq]
 constructor
 ·rintro ⟨t,ht,e⟩
  obtain ⟨z,hz,rfl⟩:=List.mem_map.mp ht
  have:z=h:=by simpa [eqF] using e
  exact this ▸ hz
 ·exact λhm=>⟨_,List.mem_map_of_mem hm,by simp [eqF]⟩
theorem Km (r:Str):(dj r).isSome=decide (r∈([("back":Str),"clear","told","line","house"]:List Str)):=by
 by_cases h:r∈([("back":Str),"clear","told","line","house"]:List Str)
 ·rw [decide_eq_true h]
  simp only [List.mem_cons,List.not_mem_nil,or_false] at h
  rcases h with rfl|rfl|rfl|rfl|rfl<;>decide +kernel
 ·rw [decide_eq_false h]
  simp only [List.mem_cons,List.not_mem_nil,or_false,not_or] at h
  obtain ⟨h1,h2,h3,h4,h5⟩:=h
  unfold dj
  rw [if_neg h3,if_neg h4,if_neg h5,if_neg h1,if_neg h2]
  rfl
theorem ch6 {h:Str}(x:Str) (e:h∈([("use":Str),"strike","disown","hide","show","key"]:List Str)):(wth h x).isSome=true:=by
 simp only [List.mem_cons,List.not_mem_nil,or_false] at e
 unfold wth chg
 rcases e with rfl|rfl|rfl|rfl|rfl|rfl<;>rfl
theorem chP {h:Str}(x:Str) (e:h∈([("put":Str),"own"]:List Str)):(wth h x).isSome=(caw x).isSome:=by
 simp only [List.mem_cons,List.not_mem_nil,or_false] at e
 unfold wth chg
 rcases e with rfl|rfl<;>(show (Option.map _ (caw x)).isSome=_;rw [Option.isSome_map])
theorem chN {h:Str}(x:Str) (e1:h∉([("use":Str),"strike","disown","hide","show","key"]:List Str)) (e2:h∉([("put":Str),"own"]:List Str)) (e3:¬ h="take"):(wth h x).isSome=if h="fade" then (goD x).isSome else false:=by
 simp only [List.mem_cons,List.not_mem_nil,or_false,not_or] at e1 e2
 obtain ⟨a1,a2,a3,a4,a5,a6⟩:=e1
 unfold wth chg
 rw [if_neg a6,if_neg e3,if_neg e2.1,if_neg e2.2,if_neg a1,if_neg a2,if_neg a3,if_neg a4,if_neg a5]
 split<;>rfl
theorem ifM {h:Str}{A C:Prop}(l:List Str) (hT:h∈l->A) (hF:h∉l->C):if (false ^^ (l.map T2.T.str).any λy=>eqF y (.str h))=true then A else C:=by
 rw [sW]
 by_cases e:h∈l
 ·rw [decide_eq_true e];exact ifT (hT e)
 ·rw [decide_eq_false e];exact ifF (hF e)
theorem iX {α:Type}{b:Bool}{v:α}:(if b=true then some v else none).isSome=b:=by cases b<;>rfl
def sX:WSp:=λts S Q=>∃ r:Str,ts=[.str r]/\r.length<=1000/\As7 r/\Q (.bl (cmd r).isSome) S
theorem xS:FnScope ["_law_row","_law_place","_law_head","_law_rest","_law_spot"] ["_law_row"] (aq kL):=⟨rfl,rfl,rfl,by decide +kernel,rfl,by decide +kernel,by decide +kernel⟩
theorem BJ (F:!"_law_is_row" kL) (T:Txt K mg C L R Y D Z) (Nv:!1 f1 LX ir nQ) (Nw:Df K mg "_law_number" f1 LX ir) :
  !2 f fd ["_law_row"] sX:=by
 exists xS
 refine ⟨_,((ak (aD 1 nd (bF PySem.F.plainAttrs_str PySem.F.slot_str_find PySem.F.type_str_find uj (aa 0) (ae ag af))) (ak (az (aS jY (aa 1) aj) (ai (av (ci (o5 rfl) (aa 0) (aY (ae ag (ae ag (ae ag (ae ag (ae ag af)))))) (by with_unfolding_all rfl)))) aF) (ak (aD 2 nd (bJ false rfl (aa 0) bH (bI (aa 1)))) (ak (aD 3 nd (bJ false rfl (aa 0) (bI (aE (aX false) (aa 1) aj)) bH)) (ak (az (aS (o5 rfl) (aa 2) (aY (ae ag (ae ag (ae ag (ae ag (ae ag (ae ag af))))))) (by with_unfolding_all rfl)) (ai (av bx)) aF) (ak (az (aS (o5 rfl) (aa 2) (aY (ae ag (ae ag af))) (by with_unfolding_all rfl)) (ak (aD 4 nd (bF PySem.F.plainAttrs_str PySem.F.slot_str_find PySem.F.type_str_find uj (aa 3) (ae ag af))) (ai (av (d7 (ci o0 (aa 4) aj) (cU (aA Nv Nw hr.m (ae (bJ false rfl (aa 3) bH (bI (aa 4))) (ae aj (ae (aE n9 aj aj) af))))))))) aF) (ak (az (aG hr (aa 2) ag) (ai (av (aA Nv Nw hr.m (ae (aa 3) (ae aj (ae (aE n9 aj aj) af)))))) aF) (ak (az (aS (jX rfl hr.units) (aa 2) ag) (ai (av bx)) aF) (ak (az (aG hr (bJ false rfl (aa 3) bH (bI aj)) ag) (ai (aD 3 nd (bJ false rfl (aa 3) (bI aj) bH))) aF) (ai (av (aA Nv Nw hr.m (ae (aa 3) (ae aj (ae (aE n9 aj aj) af)))))))))))))))),ax λv hu ts S Q h=>?_⟩
 obtain ⟨r,rfl,hr1,hra,hq⟩:=h
 ac_nf
 ext
 cases ho:oc r with
 |nil =>
  rw [pq ho] at hq
  rw [vE ho]
  refine ifT ?_
  ext
  rw [Km,<- sW] at hq
  exact .mk hq
 |cons i l =>
  rw [pt ho] at hq
  rw [vF ho]
  rw [Option.isSome_map] at hq
  have hx1:=Nat.le_trans (jg r i) hr1
  have TZ:As7 (aft r i):=hra.slice _ _
  refine ifF ?_
  ext
  change if (false ^^ _)=true then _ else _
  generalize hh:PySem.Txt.slice r none (some (i:Int))=h
  generalize hx:PySem.Txt.slice r (some ((i:Int)+1)) none=x
  rw [show bef r i=h from hh,show aft r i=x from hx] at hq
  rw [show aft r i=x from hx] at hx1 TZ
  clear hh hx
  refine ifM ["use","strike","disown","hide","show","key"] (λe=>?_) λe1=>?_
  ·rw [ch6 x e] at hq
   ext
   exact .mk hq
  ext
  refine ifM ["put","own"] (λe=>?_) λe2=>?_
  ·rw [chP x e] at hq
   ext
   cases Sz:oc x with
   |nil =>
    rw [pj Sz] at hq
    rw [vE Sz]
    ext
    exact ifF (.mk hq)
   |cons j l2 =>
    rw [kc Sz,iX] at hq
    rw [vF Sz]
    ext
    rw [decide_eq_true (show (0:Int)<=j by omega)]
    refine ifT ?_
    ext
    exact jy (z:=bef x j) (Nat.le_trans (jf x j) hx1) (TZ.slice _ _) (.mk hq)
  ext
  refine ifN (λe=>?_) λe3=>?_
  ·subst e
   rw [show (wth "take" x).isSome=nin x 0 (10 ^ 10) by
    show (if nin x 0 9999999999=true then some (Dd.take (vl x)) else none).isSome=_
    rw [iX]
    unfold nin
    cases hb:nbB x with
    |false=>rfl
    |true =>
     obtain ⟨b0,b1⟩:=Hw hb
     rw [decide_eq_true b1,decide_eq_true (show vl x<=10 ^ 10 by omega)]] at hq
   ext
   exact jy hx1 TZ (.mk hq)
  rw [chN x e1 e2 e3] at hq
  ext
  by_cases e4:h="fade"
  ·subst e4
   rw [if_pos rfl] at hq
   refine ifF ?_
   ext
   unfold goD at hq
   rw [Tm.pX,show ((Str.ofString "own ").length:Int)=4 from rfl] at hq
   refine ifN (λe=>?_) λe=>?_
   ·rw [decide_eq_true e,if_pos rfl,iX] at hq
    ext
    exact jy (z:=dE x) (Nat.le_trans (nN x) hx1) (TZ.slice _ _) (.mk hq)
   ·rw [decide_eq_false e,if_neg (by decide),iX] at hq
    ext
    exact jy hx1 TZ (.mk hq)
  ·rw [if_neg e4] at hq
   rw [decide_eq_false e4]
   refine ifT ?_
   ext
   exact .mk hq
def Rok (z:Str):Prop:=As7 z/\z.length<=100
noncomputable def xh (z:Str):Bool:=((Tm.tl z).all λc=>decide (c<128))&&decide (z.length<=20)
theorem Hx {z:Str}(h:xh z=true):Rok z/\z.length<=20:=by
 obtain ⟨h1,h2⟩:=Bool.and_eq_true_iff.mp h
 have h2:=of_decide_eq_true h2
 exact ⟨⟨λc hc=>of_decide_eq_true (List.all_eq_true.mp h1 c hc),by omega⟩,h2⟩
theorem uJ {l:List Str}(h:l.all xh=true){i:Int}(h0:0<=i) (h1:i<l.length):∃ z,atI (l.map T2.T.str) i=some (.str z)/\Rok z/\z.length<=20:=by
 have hi:i.toNat<l.length:=by omega
 refine ⟨l[i.toNat],?_,Hx (List.all_eq_true.mp h _ (List.getElem_mem hi))⟩
 have e:atI l i=l[i.toNat]?:=by rw [<- i6,Int.toNat_of_nonneg h0]
 rw [mI,e,List.getElem?_eq_getElem hi]
 rfl
theorem vr {S:Sto}{q:Addr}{ts:List T2.T}(e:S q=some (.lst ts)):cj S (.ref q)=some ts:=by simp only [cj];rw [e]
noncomputable def OD:List Str:=([""," ","told "," told","tolds","told 1","Told","line ","lines","house a","back 1","back ","clear ","clear 1","put","put ","put 3","put a","put  a","put 03 a","put -1 a","put 3 ","put 1000000001 a","put 1000000000 zz","own","own 3","own a 3","own 00 a","own 3  a","use","used a","strike","disown","hide","show","fade","fade ","fade 0","fade 1000001","fade own","fade own ","fade own 0","fade own 01","fade 1 ","fade  1","fade ow 1","take","take ","take 01","take -1","take 12345678901","take 1 "]:List String).map Str.ofString
def jP:WSp:=λts S Q=>∃ p o,ts=[.ref p]/\S p=some o/\bN o/\∀ z o',Rok z->bN o'->Q (.str z) (put S p o')
theorem y2:FnScope ["_law_box_here","_law_some"] cx (aq lB):=⟨rfl,rfl,rfl,by decide +kernel,rfl,by decide +kernel,by decide +kernel⟩
theorem Hy (F:!"_law_odd" lB) (T:Txt K mg C L R Y D Z) (L3:!1 f1 LX vv7 dG) (L4:Df K mg "_law_take" f1 LX vv7):!2 f fd cx jP:=by
 exists y2
 refine ⟨_,((ak (aD 1 nd (m3 (ae ag (ae ag (ae ag (ae ag (ae ag (ae ag (ae ag (ae ag (ae ag (ae ag (ae ag (ae ag af)))))))))))))) (ak (aR (bF PySem.F.plainAttrs_list PySem.F.slot_list_append PySem.F.type_list_append qX (aa 1) (ae ag af))) (ak (aD 1 nd (aE (aX false) (aa 1) (cq (ae ag (ae ag (ae ag (ae ag (ae ag (ae ag (ae ag (ae ag (ae ag af)))))))))))) (ak (aD 1 nd (aE (aX false) (aa 1) (cq (ae ag (ae ag (ae ag (ae ag (ae ag (ae ag (ae ag (ae ag af))))))))))) (ak (aD 1 nd (aE (aX false) (aa 1) (cq (ae ag (ae ag (ae ag (ae ag (ae ag (ae ag (ae ag (ae ag (ae ag (ae ag af))))))))))))) (ak (aD 1 nd (aE (aX false) (aa 1) (cq (ae ag (ae ag (ae ag (ae ag (ae ag (ae ag (ae ag (ae ag af))))))))))) (ak (aD 1 nd (aE (aX false) (aa 1) (cq (ae ag (ae ag (ae ag (ae ag af))))))) (ai (av (aC (aa 1) (aA L3 L4 hr.m (ae (aa 0) (ae aj af)))))))))))))),ax λv hu ts S Q h=>?_⟩
 obtain ⟨p,o,rfl,hp,hb,hq⟩:=h
 ac_nf
 ext
 intro q hq0
 have hqp:p≠q:=di hp hq0
 ext
 refine qY aI (by rw [sizeLine_eq];exact Nat.le_of_ble_eq_true rfl) ?_
 ext
 refine jl (vr aI) rfl (by rw [sizeLine_eq];exact Nat.le_of_ble_eq_true rfl) ?_
 rw [c7]
 generalize hS:put S q _=S1
 have hl:Le S S1:=by rw [<- hS];exact Le.put hq0
 clear hS
 iterate 4
  ext
  refine jl rfl rfl (by rw [sizeLine_eq];exact Nat.le_of_ble_eq_true rfl) ?_
 have hp1:=hl _ _ hp
 ext
 obtain ⟨z,e,hz,_⟩:=uJ (l:=OD) (by decide +kernel) hr0 hr1
 exact fN e (.le hl.put2 (hq z _ hz hbx))
theorem Hz:∀ c∈(Str.ofString " !\"#$&'()*+,-./0123456789:;<=>?@ABCDEFGHIJKLMNOPQRSTUVWXYZ[\\]^_`" ++ Str.ofString "abcdefghijklmnopqrstuvwxyz{|}~").cps.toList,c<128:=by decide +kernel
def oO:WSp:=λts S Q=>∃ p o,ts=[.ref p]/\S p=some o/\bN o/\∀ z o',As7 z->z.length=1->bN o'->Q (.str z) (put S p o')
theorem yy:FnScope ["_law_box_here","_law_some"] cx (aq la):=⟨rfl,rfl,rfl,by decide +kernel,rfl,by decide +kernel,by decide +kernel⟩
theorem HA (F:!"_law_sign" la) (T:Txt K mg C L R Y D Z) (L3:!1 f1 LX vv7 dG) (L4:Df K mg "_law_take" f1 LX vv7):!2 f fd cx oO:=by
 exists yy
 refine ⟨_,((ak (aD 1 nd ag) (ak (aD 1 nd (aE (aX false) (aa 1) ag)) (ai (av (aC (aa 1) (aA L3 L4 hr.m (ae (aa 0) (ae aj af))))))))),ax λv hu ts S Q h=>?_⟩
 obtain ⟨p,o,rfl,hp,hb,hq⟩:=h
 ac_nf
 ext
 refine m7 (by rw [sizeLine_eq];exact Nat.le_of_ble_eq_true rfl) hr0 (Int.lt_of_lt_of_le hr1 (by decide +kernel)) λd hd _=>.mk (hq _ _ (λc hc=>?_) rfl hbx)
 have hc:c=d:=by simpa using (show c∈[d] from hc)
 subst hc
 exact Hz c hd
theorem uK {S:Sto}{Q:T->Sto->Prop}{p:Addr}{o:O}(f:bN o) (h:∀ z o',As7 z->z.length=1->bN o'->Q (.str z) (put S p o')):oO ([.ref p]++[]) (put S p o) Q:=⟨p,o,rfl,aI,f,λz o' h1 h2 h3=>by rw [c7];exact h z o' h1 h2 h3⟩
theorem d5 {x y:Str}{n m:Nat}{S:Sto}{Q:T2.T->Sto->Prop}(h1:As7 x/\x.length<=n) (h2:As7 y/\y.length<=m) (h:As7 (x++y)->(x++y).length<=n+m->Q (.str (x++y)) S) (hn:n+m<=1000:=by decide):ib false (.str x) (.str y) S Q :=
 tR (by rw [sizeLine_eq];omega) (h (h1.1.app h2.1) (by rw [mS];omega))
noncomputable def BN:List Str:=(["told","line","house","back","clear","key a","key  ","take 0","take 7","take 9999999999","use ab","strike ab","put 3 ac","put 0 a b","own 12 ab","own 1000000000 b","disown b","hide a","show ab","fade 1","fade 1000000","fade own 2"]:List String).map Str.ofString
theorem yz:FnScope ["_law_box_here","_law_some","_law_row","_law_at","_law_kind"] cx (aq lb):=⟨rfl,rfl,rfl,by decide +kernel,rfl,by decide +kernel,by decide +kernel⟩
theorem Eg (F:!"_law_bent" lb) (T:Txt K mg C L R Y D Z) (L3:!1 f1 LX vv7 dG) (L4:Df K mg "_law_take" f1 LX vv7) (Ou:!2 f2 M9 cx oO) (Ov:Df K mg "_law_sign" f2 M9 cx):!3 f fd cx jP:=by
 exists yz
 refine ⟨_,((ak (aD 1 nd (cq (ae ag (ae ag (ae ag (ae ag (ae ag (ae ag (ae ag (ae ag (ae ag (ae ag af)))))))))))) (ak (aD 1 nd (aE (aX false) (aa 1) (cq (ae ag (ae ag (ae ag (ae ag (ae ag (ae ag (ae ag af)))))))))) (ak (aD 1 nd (aE (aX false) (aa 1) (cq (ae ag (ae ag (ae ag (ae ag (ae ag af)))))))) (ak (aD 2 nd (aC (aa 1) (aA L3 L4 hr.m (ae (aa 0) (ae aj af))))) (ak (aD 3 nd (aA L3 L4 hr.m (ae (aa 0) (ae (aE (aX false) (aV (bv rfl) T.len PySem.boot_len (ae (aa 2) af)) aj) af)))) (ak (aD 4 nd (aA L3 L4 hr.m (ae (aa 0) (ae aj af)))) (ak (az (aG hr (aa 4) aj) (ai (av (aa 2))) aF) (ak (az (aG hr (aa 4) aj) (ai (av (aE (aX false) (bJ false rfl (aa 2) bH (bI (aa 3))) (bJ false rfl (aa 2) (bI (aE (aX false) (aa 3) aj)) bH)))) aF) (ak (az (aG hr (aa 4) aj) (ai (av (aE (aX false) (aE (aX false) (bJ false rfl (aa 2) bH (bI (aa 3))) (aA Ou Ov hr.m (ae (aa 0) af))) (bJ false rfl (aa 2) (bI (aE (aX false) (aa 3) aj)) bH)))) aF) (ai (av (aE (aX false) (aE (aX false) (bJ false rfl (aa 2) bH (bI (aa 3))) (aC (cq (ae (aA Ou Ov hr.m (ae (aa 0) af)) (ae (aC ag (aA L3 L4 hr.m (ae (aa 0) (ae aj af)))) af))) (aE uZ (aa 4) aj))) (bJ false rfl (aa 2) (bI (aa 3)) bH)))))))))))))),ax λv hu ts S Q h=>?_⟩
 obtain ⟨p,o,rfl,hp,hb,hq⟩:=h
 ac_nf
 iterate 2
  ext
  refine jl rfl rfl (by rw [sizeLine_eq];exact Nat.le_of_ble_eq_true rfl) ?_
 ext
 obtain ⟨z,e,hz,hl⟩:=uJ (l:=BN) (by decide +kernel) hr0 hr1
 refine fN e ?_
 ext
 have sl:∀ lo hi,As7 (PySem.Txt.slice z lo hi)/\(PySem.Txt.slice z lo hi).length<=20:=λlo hi=>⟨hz.1.slice lo hi,Nat.le_trans (vG z lo hi) hl⟩
 refine ifN (λe=>?_) λk0=>?_
 ·ext
  exact .mk (hq z _ hz hbx)
 ext
 refine ifN (λe=>?_) λk1=>?_
 ·ext
  refine d5 (sl _ _) (sl _ _) λh1 h2=>.mk (hq _ _ ⟨h1,by omega⟩ hbx)
 ext
 refine ifN (λe=>?_) λk2=>?_
 ·ext
  refine uK hbx λy o2 hy hy1 TU=>?_
  refine d5 (sl _ _) ⟨hy,Nat.le_of_eq hy1⟩ λh1 h2=>?_
  ext
  refine d5 ⟨h1,h2⟩ (sl _ _) λh3 h4=>.mk (hq _ _ ⟨h3,by omega⟩ TU)
 ext
 refine uK hbx λy o2 hy hy1 TU=>?_
 obtain ⟨kd,hkd⟩:∃ kd,kd=r:=⟨_,rfl⟩
 rw [<- hkd] at hr0 hr1 k0 k1 k2 ⊢
 clear hkd
 ext
 refine m7 (by rw [sizeLine_eq];exact Nat.le_of_ble_eq_true rfl) (by assumption) (by assumption) λd hd _=>?_
 have hd7:As7 ⟨#[d]⟩:=λc hc=>by
  have hc:c=d:=by simpa using (show c∈[d] from hc)
  subst hc
  exact (show ∀ c∈(Str.ofString " 01-").cps.toList,c<128 by decide +kernel) c hd
 ext
 rcases (by omega:kd=3\/kd=4) with rfl|rfl
 ·refine fN (ts:=[T2.T.str y,.str ⟨#[d]⟩]) (t:=.str y) (show atI [T2.T.str y,.str ⟨#[d]⟩] _=_ from rfl) ?_
  refine d5 (sl _ _) ⟨hy,Nat.le_of_eq hy1⟩ λh1 h2=>?_
  ext
  refine d5 ⟨h1,h2⟩ (sl _ _) λh3 h4=>.mk (hq _ _ ⟨h3,by omega⟩ (by assumption))
 ·refine fN (ts:=[T2.T.str y,.str ⟨#[d]⟩]) (t:=.str ⟨#[d]⟩) (show atI [T2.T.str y,.str ⟨#[d]⟩] _=_ from rfl) ?_
  refine d5 (n:=20) (m:=1) (sl _ _) ⟨hd7,Nat.le_refl 1⟩ λh1 h2=>?_
  ext
  refine d5 ⟨h1,h2⟩ (sl _ _) λh3 h4=>.mk (hq _ _ ⟨h3,by omega⟩ (by assumption))
def oP (D:Addr) (B:Cs):WSp:=λts S Q=>∃ A k m a r,ts=[.ref k,.str r]/\At S (dl D B A k m a)/\Lkk a/\0<=m/\Tx r/\(∀ c,cmd r=some c->rfC m a c=0->∀ S',Up S (lay B A m a) S' (lay B A m (nxC m a c))->Q (.bl true) S') /\
 (cmd r=none->Q (.tup [.bl true,.bl false,.bl true]) S)/\∀ c,cmd r=some c->rfC m a c≠0->Q (.tup [.bl false,.bl true,.bl true]) S
theorem HB {S:Sto}{R:Addr->Sto->Prop}{B:Cs}{A:Ad}{k X:Addr}{m:Int}{a:Ab}{r:Str}(h1:At S (dl D B A k m a)) (h2:Okk a) (h3:0<=m) (h4:Tx r) (h5:cmd r=none->X=Z.W) (h6:∀ c,cmd r=some c->rfC m a c≠0/\X=cls Z (rfC m a c)) (h:R X S):nP D Z B (.ref k::([.str r]++[])) S R :=
 ⟨A,k,m,a,r,rfl,h1,h2,h3,h4,λz=>h5 z ▸ h,λc z=>⟨(h6 c z).1,(h6 c z).2 ▸ h⟩⟩
theorem Kn {i:Nat}{D:EndsT}{U:StT}{S:Sto}(h:D.nx (U.set i none) S):(asE i D).nx U S:=h
theorem Ko {S:Sto}{Q:T->Sto->Prop}(h:Q (.bl true) S):gEq false (.tup []) (.tup []) S Q:=⟨_,_,rfl,rfl,rfl,rfl,by decide,h⟩
theorem vQ {S:Sto}{Q:T->Sto->Prop}{a b c:Bool}(h:Q (.bl true) S):gEq false (.tup [.bl a,.bl b,.bl c]) (.tup [.bl a,.bl b,.bl c]) S Q:=⟨_,_,rfl,rfl,rfl,rfl,Nat.le_of_ble_eq_true rfl,by cases a<;>cases b<;>cases c<;>exact h⟩
theorem Eh {S:Sto}{Q:T->Sto->Prop}{ws:List Str}(h0:∀ a∈ws,PyData.strOk a=true) (h:Q (.bl true) S):gEq false (.lst (ws.map T2.T.str)) (.lst (ws.map T2.T.str)) S Q:=by
 have cl:(PyData.list (ws.map .str)).canLay0=true:=by simp only [PyData.canLay0];exact mw h0
 have e:du S (.lst (ws.map T2.T.str))=some (.list (ws.map .str)):=by show (bi _).map PyData.list=_;rw [lU];rfl
 refine ⟨_,_,e,e,cl,cl,?_,?_⟩
 ·simp only [PyData.depth,mB];decide
 ·rw [SeqAt.eqv_refl _ cl];exact h
theorem Kq {S:Sto}{Q:T->Sto->Prop}{a b c:Bool}(h:Q (.bl false) S):gEq false (.tup [.bl a,.bl b,.bl c]) (.tup []) S Q:=⟨_,_,rfl,rfl,rfl,rfl,Nat.le_of_ble_eq_true rfl,h⟩
structure Xa (K:PySem.W.Frag) (Z:Zs) (X:Addr) (b:Bool):Prop where
 e:PySem.W.exmOne K (.ref X) (.ref Z.E)=some true
 g:GX Z X
 w:PySem.W.kitOne K (.ref X) (.ref Z.W)=some b
 o:PySem.W.kitAny K (.ref X) (List.map Value.ref [Z.A,Z.B,Z.H,Z.S,Z.X,Z.N,Z.T])=some (!b)
 v:PySem.W.kitOne K (.ref X) (.type "ValueError")=some true
theorem Xa.row (T:Txt K mg C L R Y D Z):Xa K Z Z.W true:=⟨T.e_NoRow,.inr (.inr (.inr (.inr (.inr rfl)))),T.wW,T.oW,T.vW⟩
theorem Xa.cls (T:Txt K mg C L R Y D Z) (n:Nat):Xa K Z (cls Z n) false:=by
 unfold My.cls
 split
 ·exact ⟨T.e_NoWord,.inl rfl,T.wN,T.oN,T.vN⟩
 ·exact ⟨T.e_Twice,.inr (.inl rfl),T.wT,T.oT,T.vT⟩
 ·exact ⟨T.e_Absent,.inr (.inr (.inl rfl)),T.wA,T.oA,T.vA⟩
 ·exact ⟨T.e_NoSign,.inr (.inr (.inr (.inl rfl))),T.wS,T.oS,T.vS⟩
 ·exact ⟨T.e_NoChoice,.inr (.inr (.inr (.inr (.inl rfl)))),T.wH,T.oH,T.vH⟩
theorem xT:FnScope ["_law_desk","_law_row","_law_kinds","_law_told","e"] vv8 (aq kM):=⟨rfl,rfl,rfl,by decide +kernel,rfl,by decide +kernel,by decide +kernel⟩
theorem HC (F:!"_law_answer" kM) (T:Txt K mg C L R Y D Z)
  (MB:!10 f1 LX vv9 (jO D ⟨C,L,R,Y⟩)) (Ml:Meth K D "say" f1) (Mm:ao K LX vv9 []) (QL:FnOk P w K mg base (CX1 P w) 10 f1 LX vv9 (aH K (nP D Z ⟨C,L,R,Y⟩))):!11 f fd vv8 (oP D ⟨C,L,R,Y⟩):=by
 exists xT
 refine ⟨_,((ak (aD 2 nd (aY af)) (ak (aD 3 nd ag) (ak (Gi ⟨rfl,rfl⟩ (ai (aD 3 nd (aL (T.gd Ml) MB Mm hr.m (aa 0) (ae (aa 1) af)))) (aw (nu (bn (T.gd Ml) QL Mm hr.m (aa 0) (ae (aa 1) af)))) (JT (i:=4) rfl nd rfl rfl (by rfl) T.mg_AheadError (λ_=>(ak (aD 2 nd (aY (ae (aV (vo rfl T.gx) T.isinstance PyProof.Rows.boot_isinstance (ae (aa 4) (ae (dM (by rfl) T.mg_NoRow) af))) (ae (aV (Gm rfl T.gx) T.isinstance PyProof.Rows.boot_isinstance (ae (aa 4) (ae (aY (ae (dM (by rfl) T.mg_Absent) (ae (dM (by rfl) T.mg_Beside) (ae (dM (by rfl) T.mg_NoChoice) (ae (dM (by rfl) T.mg_NoSign) (ae (dM (by rfl) T.mg_NoText) (ae (dM (by rfl) T.mg_NoWord) (ae (dM (by rfl) T.mg_Twice) af)))))))) af))) af)))) (ai (aD 2 nd (aE GI (aa 2) (aY (ae (aV (vo rfl T.gx) T.isinstance PyProof.Rows.boot_isinstance (ae (aa 4) (ae (o9 (n:="ValueError") (by rfl) T.ValueError (by rfl)) af))) af))))))) (Gh Ga))) (ak (az (aG hr (aa 2) (aY af)) (ai (av (aV (u6 rfl) T.isinstance PyProof.Rows.boot_isinstance (ae (aa 3) (ae (o9 (n:="str") (by rfl) T.str PyProof.Rows.boot_str) af))))) aF) (ai (av (aa 2)))))))),ax λv hu ts S Q h=>?_⟩
 obtain ⟨A,k,m,a,r,rfl,hA,lk,hm,hr,h1,h2,h3⟩:=h
 have hk:=hA.dk
 unfold dkO at hk
 ac_nf
 ext
 by_cases hok:∃ c,cmd r=some c/\rfC m a c=0
 ·obtain ⟨c,hc,h0⟩:=hok
  refine Ge ?_
  ext
  refine fQ hA lk hm hr hc h0 λS' u _ _=>?_
  ext
  refine Ko ?_
  ext
  exact .mk (h1 c hc h0 S' u)
 ·obtain ⟨X,b,hX1,hX2,x,hq⟩:∃ X b,(cmd r=none->X=Z.W)/\(∀ c,cmd r=some c->rfC m a c≠0/\X=cls Z (rfC m a c))/\Xa K Z X b/\Q (.tup [.bl b,.bl (!b),.bl true]) S:=by
   cases hc:cmd r with
   |none=>exact ⟨Z.W,true,⟨λ_=>rfl,⟨λc z=>(by cases z),⟨Xa.row T,h2 hc⟩⟩⟩⟩
   |some c =>
    have h0:rfC m a c≠0:=λz=>hok ⟨c,hc,z⟩
    exact ⟨cls Z (rfC m a c),false,⟨λz=>(by cases z),⟨λd z=>by cases z;exact ⟨h0,rfl⟩,⟨Xa.cls T _,h3 c hc h0⟩⟩⟩⟩
  refine Gf ?_
  ext
  refine HB hA lk.ok hm hr hX1 hX2 ?_
  refine Gj x.e λe he=>?_
  have TN:put S e (.exk X) e=some (.exk X):=aI
  ext
  refine vp TN x.g rfl x.w ?_
  ext
  refine Gn (ys:=[Z.A,Z.B,Z.H,Z.S,Z.X,Z.N,Z.T]) TN x.g x.o ?_
  ext
  refine vp TN x.g rfl x.v ?_
  ext
  refine GJ (by rw [sizeLine_eq];exact Nat.le_of_ble_eq_true rfl) ?_
  refine Kn ?_
  ext
  refine Kq ?_
  ext
  exact .le (Le.put he) hq
theorem Up.trans {S S1 S2:Sto}{l l1 l2:List (Addr×O)}(h:Up S l S1 l1) (g:Up S1 l1 S2 l2):Up S l S2 l2:=⟨g.at_,g.ks.trans h.ks,λb hb=>(g.fr b (by rw [h.ks];exact hb)).trans (h.fr b hb)⟩
theorem Up.same {S S1:Sto}{l:List (Addr×O)}(h:Up S l S1 l) (g:At S l):S1=S:=funext λb=>by
 by_cases hb:b∈l.map (·.1)
 ·obtain ⟨x,hx,rfl⟩:=List.mem_map.mp hb
  rw [h.at_.is x hx,g.is x hx]
 ·exact h.fr b hb
theorem sY (x:Str):PySem.Txt.slice (x++Str.ofString "a") none (some (-1))=x:=Tm.ext (by
 have hl:(x++Str.ofString "a").length=x.length+1:=by rw [mS];rfl
 rw [Tm.eW,hl,Tm.fG,<- Tm.len,HT.sIx_none,List.drop_zero,Nat.sub_zero,show HT.sIx ((Tm.tl x).length+1) ((Tm.tl x).length+1) (some (-1))=(Tm.tl x).length by
  show (if (-1:Int)<0 then ((-1:Int)+(((Tm.tl x).length+1:Nat):Int)).toNat else min (-1:Int).toNat ((Tm.tl x).length+1))=_
  rw [if_pos (by decide)];omega]
 exact List.take_left)
theorem HD (x:Str):¬ x++Str.ofString "a"="":=λe=>by
 have:=congrArg (λz:Str=>z.length) e
 rw [show (x++Str.ofString "a").length=x.length+1 by rw [mS];rfl] at this
 exact absurd this (Nat.succ_ne_zero _)
theorem HE:cmd "told"=some .told:=by kernel_rfl
theorem HF:cmd "line"=some .line:=by kernel_rfl
theorem Ei:cmd "house"=some .house:=by kernel_rfl
theorem Kr:cmd "key a"=some (.deed (key "a")):=by kernel_rfl
theorem HG:cmd "back"=some (.deed back):=by kernel_rfl
def lks (m:Int) (a:Ab):List Str:=[anC m a .told,anC m a .line,anC m a .house,br (a.x++Str.ofString "a"),br a.x]
def sZ (D:Addr) (B:Cs):WSp:=λts S Q=>∃ A k m a,ts=[.ref k]/\At S (dl D B A k m a)/\Lkk a/\0<=m/\a.x.length<24/\Lkk { a with x:=a.x++Str.ofString "a" }/\((∀ z∈lks m a,PyData.strOk z=true)->Q (.lst ((lks m a).map T2.T.str)) S)
theorem ye:FnScope ["_law_desk","_law_told"] ["_law_desk"] (aq kW):=⟨rfl,rfl,rfl,by decide +kernel,rfl,by decide +kernel,by decide +kernel⟩
theorem BK (F:!"_law_looks" kW) (T:Txt K mg C L R Y D Z)
  (MB:!10 f1 LX vv9 (jO D ⟨C,L,R,Y⟩)) (Ml:Meth K D "say" f1) (Mm:ao K LX vv9 []):!11 f fd ["_law_desk"] (sZ D ⟨C,L,R,Y⟩):=by
 exists ye
 refine ⟨_,((ak (aD 1 nd (cq (ae (aL (T.gd Ml) MB Mm hr.m (aa 0) (ae ag af)) (ae (aL (T.gd Ml) MB Mm hr.m (aa 0) (ae ag af)) (ae (aL (T.gd Ml) MB Mm hr.m (aa 0) (ae ag af)) (ae (aL (T.gd Ml) MB Mm hr.m (aa 0) (ae ag af)) (ae (aL (T.gd Ml) MB Mm hr.m (aa 0) (ae ag af)) af))))))) (ai (av (aa 1))))),ax λv hu ts S Q h=>?_⟩
 obtain ⟨A,k,m,a,rfl,hA,lk,hm,hx,lk2,hq⟩:=h
 have hk:=hA.dk
 unfold dkO at hk
 ac_nf
 ext
 refine fQ hA lk hm ⟨by decide,by decide +kernel⟩ HE rfl λS1 u1 o1 _=>?_
 have e1:S1=S:=u1.same hA.left
 subst e1
 ext
 refine fQ hA lk hm ⟨by decide,by decide +kernel⟩ HF rfl λS2 u2 _ _=>?_
 have e2:S2=S1:=u2.same hA.left
 subst e2
 ext
 refine fQ hA lk hm ⟨by decide,by decide +kernel⟩ Ei rfl λS3 u3 _ o3=>?_
 have e3:S3=S2:=u3.same hA.left
 subst e3
 ext
 refine fQ hA lk hm ⟨by decide,by decide +kernel⟩ Kr ?_ λS4 u4 _ _=>?_
 ·show (if sgn "a"=false then 4 else if a.x.length<24 then 0 else 4)=0
  rw [if_neg (by decide +kernel),if_pos hx]
 have A4:=hA.up u4
 have k4:=A4.dk
 unfold dkO at k4
 ext
 refine fQ A4 lk2 hm ⟨by decide,by decide +kernel⟩ HG ?_ λS5 u5 _ _=>?_
 ·show (if a.x++Str.ofString "a"="" then 4 else 0)=0
  rw [if_neg (HD _)]
 have ea:nxC m (nxC m a (.deed (key (Str.ofString "a")))) (.deed back)=a:=by
  show ({ a with x:=PySem.Txt.slice (a.x++Str.ofString "a") none (some (-1)) }:Ab)=a
  rw [sY]
 rw [ea] at u5
 have e5:S5=S3:=(u4.trans u5).same hA.left
 subst e5
 have eb:anC m (nxC m a (.deed (key (Str.ofString "a")))) (.deed back)=br a.x:=by
  show br (PySem.Txt.slice (a.x++Str.ofString "a") none (some (-1)))=br a.x
  rw [sY]
 rw [eb]
 ext
 refine .mk (hq λz hz=>?_)
 unfold lks at hz
 simp only [List.mem_cons,List.not_mem_nil,or_false] at hz
 rcases hz with rfl|rfl|rfl|rfl|rfl
 ·exact o1 rfl
 ·exact nO λz hz=>Wm.g8 (lk.lw z hz)
 ·exact o3 rfl
 ·exact vM lk2.xo
 ·exact vM lk.xo
def tf (D:Addr) (B:Cs):WSp:=λts S Q=>∃ A k m a r,ts=[.ref k,.str r]/\At S (dl D B A k m a)/\Lkk a/\0<=m/\a.x.length<24/\Lkk { a with x:=a.x++Str.ofString "a" }/\Rok r/\∀ S',Q (.bl true) S'
theorem xp:FnScope ["_law_desk","_law_row","_law_ahead","_law_answer_here"] vv8 (aq kj):=⟨rfl,rfl,rfl,by decide +kernel,rfl,by decide +kernel,by decide +kernel⟩
theorem BL (F:!"_law_row_right" kj) (T:Txt K mg C L R Y D Z)
  (Od:!11 f1 LX ["_law_desk"] (sZ D ⟨C,L,R,Y⟩)) (Oe:Df K mg "_law_looks" f1 LX ["_law_desk"])
  (Nx:!11 f2 M9 vv8 (oP D ⟨C,L,R,Y⟩)) (Ny:Df K mg "_law_answer" f2 M9 vv8)
  (Pq:!2 f3 Oi ["_law_row"] sX) (Pr:Df K mg "_law_is_row" f3 Oi ["_law_row"]):!12 f fd vv8 (tf D ⟨C,L,R,Y⟩):=by
 exists xp
 refine ⟨_,((ak (aD 2 nd (aA Od Oe hr.m (ae (aa 0) af))) (ak (aD 3 nd (aA Nx Ny hr.m (ae (aa 0) (ae (aa 1) af)))) (ak (az (bg (aA Pq Pr hr.m (ae (aa 1) af))) (ai (av (n4 (ci J4 (aa 3) bx) (cU (ci (eI rfl hr.units) (aa 3) (aY (ae bx (ae bx (ae bx af))))))))) aF) (ai (av (d7 (ci (eI rfl hr.units) (aa 3) (aY (ae bx (ae bx (ae bx af))))) (cU (ci (eI rfl hr.units) (aA Od Oe hr.m (ae (aa 0) af)) (aa 2)))))))))),ax λv hu ts S Q h=>?_⟩
 obtain ⟨A,k,m,a,r,rfl,hA,lk,hm,hx,lk2,⟨hr7,hrl⟩,hq⟩:=h
 have hr:Tx r:=⟨by omega,hr7.ok⟩
 ac_nf
 ext
 refine ⟨A,k,m,a,rfl,hA,lk,hm,hx,lk2,λhl=>?_⟩
 ext
 refine ⟨A,k,m,a,r,rfl,hA,lk,hm,hr,λc hc h0 S' u=>?_,λhc=>?_,λc hc h0=>?_⟩
 ·ext
  refine ⟨r,rfl,by omega,hr7,?_⟩
  rw [hc]
  ext
  refine ifT ?_
  ext
  refine vC ?_
  ext
  exact .mk (hq _)
 ·ext
  refine ⟨r,rfl,by omega,hr7,?_⟩
  rw [hc]
  ext
  refine ifF ?_
  ext
  refine vQ ?_
  ext
  refine ⟨A,k,m,a,rfl,hA,lk,hm,hx,lk2,λ_=>?_⟩
  ext
  exact Eh hl (.mk (hq _))
 ·ext
  refine ⟨r,rfl,by omega,hr7,?_⟩
  rw [hc]
  ext
  refine ifT ?_
  ext
  refine GK ?_
  ext
  refine vQ ?_
  ext
  exact .mk (hq _)
noncomputable def moB (n:Int) (ms:Ms):Bool:=decide (ms.length<=10)&&ms.all (λa=>decide (a.2.2<=n))&&decide (ms.map (·.1)).Nodup&&ms.all λa=>Wm.Wd a.1
theorem vR {n:Int}{ms:Ms}(h:moB n ms=true):Mo n ms/\ms.length<=10:=by
 simp only [moB,Bool.and_eq_true,decide_eq_true_eq,List.all_eq_true] at h
 obtain ⟨⟨⟨h1,h2⟩,h3⟩,h4⟩:=h
 exact ⟨⟨by omega,h2,h3,h4⟩,h1⟩
noncomputable def lkB (a:Ab):Bool:=moB a.k a.hs&&moB a.n a.ms&&(decide (a.ps.length<=10)&&a.ps.all λx=>decide (x.2.2<=a.i))&&decide (a.vs.length<=10)&&decide (a.x.length<=24)&&decide (a.ln.length<=10)&&(a.hs.all λx=>decide (0<=x.2.1)&&decide (x.2.1<=10 ^ 11))&&(a.ln.all λz=>Wm.Wd z)&&PyData.strOk a.x
theorem db {a:Ab}(h:lkB a=true):Lkk a:=by
 simp only [lkB,Bool.and_eq_true,decide_eq_true_eq,List.all_eq_true] at h
 obtain ⟨⟨⟨⟨⟨⟨⟨⟨h1,h2⟩,h3,h4⟩,h5⟩,h6⟩,h7⟩,h8⟩,h9⟩,h10⟩:=h
 obtain ⟨m1,l1⟩:=vR h1
 obtain ⟨m2,l2⟩:=vR h2
 exact ⟨⟨⟨m1,m2,by omega,⟨by omega,h4⟩⟩,by omega,h6,by omega⟩,by omega,h8,by omega,h9,h10⟩
abbrev s0:Ab:=ab0
abbrev s1:Ab:={ ab0 with hs:=[("ab",5,0)] }
abbrev s2:Ab:={ ab0 with hs:=[("ab",5,0),("a b",2,0)] }
abbrev s3:Ab:={ s2 with ms:=[("ab",1,0)] }
abbrev s4:Ab:={ s2 with ms:=[("ab",1,0),("b",4,0)] }
abbrev s5:Ab:={ s4 with vs:=[("b",true)] }
abbrev s6:Ab:=⟨0,0,0,[("ab",5,0),("a b",2,0)],[("ab",2,0),("b",4,0)],[("b",true)],[(pk "" "ab",(1,0))],"",["ab"]⟩
abbrev s7:Ab:={ s6 with x:="a" }
theorem lk0:Lkk s0:=db (by decide +kernel)
theorem lk1:Lkk s1:=db (by decide +kernel)
theorem lk2:Lkk s2:=db (by decide +kernel)
theorem lk3:Lkk s3:=db (by decide +kernel)
theorem lk4:Lkk s4:=db (by decide +kernel)
theorem lk5:Lkk s5:=db (by decide +kernel)
theorem lk6:Lkk s6:=db (by decide +kernel)
theorem lk7:Lkk s7:=db (by decide +kernel)
theorem lk8:Lkk { s7 with x:=s7.x++Str.ofString "a" }:=db (by decide +kernel)
abbrev q1:R4:=("ab",0,1,true)
abbrev q2:R4:=("a b",0,2,false)
theorem Ks {m:Int}(h:1<=m):∃ l,s5.told m=q1::l:=by
 have e:rows s5.ps s5.i (lst s5.ln) (bR s5.hs s5.ms s5.vs s5.k s5.n s5.x)=[q1,q2]:=by decide +kernel
 unfold Ab.told tld
 rw [e,<- nM (κ:=k4) (k0:=k4 ("",0,0,true)) (λa=>rfl) (λa b=>uD) (l:=[q1,q2]) (l':=[q1,q2]) (by decide +kernel) (List.Perm.refl _) (by decide +kernel)]
 obtain ⟨n,hn⟩:∃ n,m.toNat=n+1:=⟨m.toNat - 1,by omega⟩
 rw [hn]
 exact ⟨_,rfl⟩
noncomputable def R7:List Str:=(["put 5 ab","put 2 a b","own 1 ab","own 4 b","hide b","take 0","key a"]:List String).map Str.ofString
theorem dz0:cmd "put 5 ab"=some (.deed (puts "ab" 5)):=by kernel_rfl
theorem dz1:cmd "put 2 a b"=some (.deed (puts "a b" 2)):=by kernel_rfl
theorem dz2:cmd "own 1 ab"=some (.deed (own "ab" 1)):=by kernel_rfl
theorem dz3:cmd "own 4 b"=some (.deed (own "b" 4)):=by kernel_rfl
theorem dz4:cmd "hide b"=some (.deed (hide "b")):=by kernel_rfl
theorem dz5:cmd "take 0"=some (.deed (take 0)):=by kernel_rfl
theorem dz6:cmd "key a"=some (.deed (key "a")):=by kernel_rfl
theorem fz0 (m:Int):rfC m s0 (.deed (puts "ab" 5))=0:=by show (if Wm.Wd "ab"=false then 1 else if (look s0.hs "ab").isSome then 2 else 0)=0;decide +kernel
theorem nz0 (m:Int):nxC m s0 (.deed (puts "ab" 5))=s1:=by rfl
theorem fz1 (m:Int):rfC m s1 (.deed (puts "a b" 2))=0:=by show (if Wm.Wd "a b"=false then 1 else if (look s1.hs "a b").isSome then 2 else 0)=0;decide +kernel
theorem nz1 (m:Int):nxC m s1 (.deed (puts "a b" 2))=s2:=by rfl
theorem fz2 (m:Int):rfC m s2 (.deed (own "ab" 1))=0:=by show (if Wm.Wd "ab"=false then 1 else if (look s2.ms "ab").isSome then 2 else 0)=0;decide +kernel
theorem nz2 (m:Int):nxC m s2 (.deed (own "ab" 1))=s3:=by rfl
theorem fz3 (m:Int):rfC m s3 (.deed (own "b" 4))=0:=by show (if Wm.Wd "b"=false then 1 else if (look s3.ms "b").isSome then 2 else 0)=0;decide +kernel
theorem nz3 (m:Int):nxC m s3 (.deed (own "b" 4))=s4:=by rfl
theorem fz4 (m:Int):rfC m s4 (.deed (hide "b"))=0:=by show (if Wm.Wd "b"=false then 1 else if (look s4.vs "b").isSome then 2 else 0)=0;decide +kernel
theorem nz4 (m:Int):nxC m s4 (.deed (hide "b"))=s5:=by rfl
theorem fz6 (m:Int):rfC m s6 (.deed (key "a"))=0:=by show (if sgn "a"=false then 4 else if s6.x.length<24 then 0 else 4)=0;decide +kernel
theorem nz6 (m:Int):nxC m s6 (.deed (key "a"))=s7:=by show ({ s6 with x:=s6.x++Str.ofString "a" }:Ab)=s7;rw [show s6.x++Str.ofString "a"="a" by decide +kernel]
theorem LL:s5.tak "ab"=s6:=by kernel_rfl
def Ok7 (ls:List Str) (a:Ab):Prop:=(ls=R7.drop 0/\a=s0)\/(ls=R7.drop 1/\a=s1)\/(ls=R7.drop 2/\a=s2)\/(ls=R7.drop 3/\a=s3)\/(ls=R7.drop 4/\a=s4)\/(ls=R7.drop 5/\a=s5)\/(ls=R7.drop 6/\a=s6)\/(ls=R7.drop 7/\a=s7)
theorem Kt {m:Int}{a:Ab}{z:Str}{ls:List Str}(hm:1<=m) (h:Ok7 (z::ls) a):∃ c,cmd z=some c/\rfC m a c=0/\Lkk a/\Tx z/\Ok7 ls (nxC m a c):=by
 rcases h with ⟨e,rfl⟩|⟨e,rfl⟩|⟨e,rfl⟩|⟨e,rfl⟩|⟨e,rfl⟩|⟨e,rfl⟩|⟨e,rfl⟩|⟨e,rfl⟩
 ·obtain ⟨rfl,rfl⟩:z="put 5 ab" /\ ls=R7.drop 1:=⟨(List.cons.inj e).1,(List.cons.inj e).2⟩
  exact ⟨_,dz0,fz0 m,lk0,⟨by decide,by decide +kernel⟩,by rw [nz0 m];exact .inr (.inl ⟨rfl,rfl⟩)⟩
 ·obtain ⟨rfl,rfl⟩:z="put 2 a b" /\ ls=R7.drop 2:=⟨(List.cons.inj e).1,(List.cons.inj e).2⟩
  exact ⟨_,dz1,fz1 m,lk1,⟨by decide,by decide +kernel⟩,by rw [nz1 m];exact .inr (.inr (.inl ⟨rfl,rfl⟩))⟩
 ·obtain ⟨rfl,rfl⟩:z="own 1 ab" /\ ls=R7.drop 3:=⟨(List.cons.inj e).1,(List.cons.inj e).2⟩
  exact ⟨_,dz2,fz2 m,lk2,⟨by decide,by decide +kernel⟩,by rw [nz2 m];exact .inr (.inr (.inr (.inl ⟨rfl,rfl⟩)))⟩
 ·obtain ⟨rfl,rfl⟩:z="own 4 b" /\ ls=R7.drop 4:=⟨(List.cons.inj e).1,(List.cons.inj e).2⟩
  exact ⟨_,dz3,fz3 m,lk3,⟨by decide,by decide +kernel⟩,by rw [nz3 m];exact .inr (.inr (.inr (.inr (.inl ⟨rfl,rfl⟩))))⟩
 ·obtain ⟨rfl,rfl⟩:z="hide b" /\ ls=R7.drop 5:=⟨(List.cons.inj e).1,(List.cons.inj e).2⟩
  exact ⟨_,dz4,fz4 m,lk4,⟨by decide,by decide +kernel⟩,by rw [nz4 m];exact .inr (.inr (.inr (.inr (.inr (.inl ⟨rfl,rfl⟩)))))⟩
 ·obtain ⟨rfl,rfl⟩:z="take 0" /\ ls=R7.drop 6:=⟨(List.cons.inj e).1,(List.cons.inj e).2⟩
  obtain ⟨l,hl⟩:=Ks hm
  refine ⟨_,dz5,?_,lk5,⟨by decide,by decide +kernel⟩,?_⟩
  ·show (if (0:Int)<=0/\(0:Int)<(s5.told m).length then 0 else 5)=0
   rw [hl,if_pos ⟨Int.le_refl 0,by simp only [List.length_cons];omega⟩]
  ·rw [show nxC m s5 (.deed (take 0))=s6 by
    show ((s5.told m)[(0:Int).toNat]?).elim s5 (λr=>s5.tak r.1)=s6
    rw [hl]
    exact LL]
   exact .inr (.inr (.inr (.inr (.inr (.inr (.inl ⟨rfl,rfl⟩))))))
 ·obtain ⟨rfl,rfl⟩:z="key a" /\ ls=R7.drop 7:=⟨(List.cons.inj e).1,(List.cons.inj e).2⟩
  exact ⟨_,dz6,fz6 m,lk6,⟨by decide,by decide +kernel⟩,by rw [nz6 m];exact .inr (.inr (.inr (.inr (.inr (.inr (.inr (⟨rfl,rfl⟩)))))))⟩
 ·cases e
theorem At.snoc {S:Sto}{l:List (Addr×O)}{a:Addr}{o:O}(h:At S l) (e:S a=some o) (hn:∀ x∈l,x.2≠o):At S (l++[(a,o)]):=by
 refine ⟨?_,λx hx=>?_⟩
 ·rw [List.map_append,List.nodup_append]
  refine ⟨h.nd,by simp,λb hb c hc=>?_⟩
  obtain ⟨x,hx,rfl⟩:=List.mem_map.mp hb
  have hc:c=a:=by simpa using hc
  rw [hc]
  exact hE (h.is x hx) e (hn x hx)
 ·rcases List.mem_append.mp hx with hx|hx
  ·exact h.is x hx
  ·have:x=(a,o):=by simpa using hx
   rw [this];exact e
theorem HH {B:Cs}{A:Ad}{k q:Addr}{m:Int}{o:O}{S:Sto}(h:At S (dl D B A k m ab0)) (hb:bN o) (e:S q=some o):At S (lay B A m ab0++[(k,dkO D A.h A.y A.u),(q,o)]):=by
 obtain ⟨a,b,c,d,rfl⟩:=hb
 have:=h.snoc e λx hx=>by
  simp only [dl,lay,List.cons_append,List.nil_append,List.mem_cons,List.not_mem_nil,or_false] at hx
  rcases hx with rfl|rfl|rfl|rfl|rfl|rfl|rfl|rfl|rfl|rfl|rfl<;>(intro z;cases z)
 rw [List.append_assoc] at this
 exact this
theorem oQ {B:Cs}{A:Ad}{k:Addr}{m:Int}{a:Ab}{l:List (Addr×O)}{S:Sto}(h:At S (lay B A m a++((k,dkO D A.h A.y A.u)::l))):At S (dl D B A k m a):=by
 refine At.left (l2:=l) ?_
 rw [List.append_assoc];exact h
theorem Ej {a:Ab}(h:Ok7 [] a):a=s7:=by
 rcases h with ⟨e,_⟩|⟨e,_⟩|⟨e,_⟩|⟨e,_⟩|⟨e,_⟩|⟨e,_⟩|⟨e,_⟩|⟨_,e⟩<;>first|exact e|cases e
def hU:WSp:=λts S Q=>∃ ns:List Int,ts=[.scr ns]/\ns.length<=63/\∀ S',Q (.bl true) S'
theorem HI:FnScope ["_law_script","_law_k","_law_box_here","_law_desk","_law_row"] ["_law_script"] (aq fI):=⟨rfl,rfl,rfl,by decide +kernel,rfl,by decide +kernel,by decide +kernel⟩
theorem HJ (F:!"law" fI) (T:Txt K mg C L R Y D Z)
  (OB:!5 f1 LX ["self","many"] (sV D ⟨C,L,R,Y⟩)) (T0:Mk K D f1) (OC:ao K LX ["self","many"] [])
  (QM:!2 f2 M9 dU (jB)) (QN:Df K mg "_law_box" f2 M9 dU)
  (L3:!1 f3 Oi vv7 (dG)) (L4:Df K mg "_law_take" f3 Oi vv7)
  (Nx:!11 f4 QF vv8 (oP D ⟨C,L,R,Y⟩)) (Ny:Df K mg "_law_answer" f4 QF vv8)
  (QP:!2 f5 Q9 cx (jP)) (QQ:Df K mg "_law_odd" f5 Q9 cx)
  (Qu:!3 f6 TX cx (jP)) (Qv:Df K mg "_law_bent" f6 TX cx)
  (Os:!12 f7 TY vv8 (tf D ⟨C,L,R,Y⟩)) (Ot:Df K mg "_law_row_right" f7 TY vv8):!13 f fd ["_law_script"] hU:=by
 exists HI
 refine ⟨_,((ak (u0 PassesOwn.never rfl (zB (by rfl) T.range (aE (aX false) aj (aV (IE rfl) T.min PyProof.Rows.boot_min (ae aj (ae (aV (bv rfl) T.len PySem.boot_len (ae (aa 0) af)) af))))) (bp 1 nd) (ak (aD 2 nd (aA QM QN hr.m (ae (aa 0) (ae (aa 1) af)))) (ak (aD 3 nd (nt T0 OB OC hr.m (by rfl) T.mg_Desk (ae (aE (aX false) aj (aA L3 L4 hr.m (ae (aa 2) (ae aj af)))) af))) (ak (u0 PassesOwn.never rfl (d3 rfl (cq (ae ag (ae ag (ae ag (ae ag (ae ag (ae ag (ae ag af))))))))) (bp 4 nd) (ai (az (aS Bo (aA Nx Ny hr.m (ae (aa 3) (ae (aa 4) af))) bx) (ai (av bx)) aF))) (ak (aD 4 nd (jE (aG hr (aA L3 L4 hr.m (ae (aa 2) (ae aj af))) aj) (aA QP QQ hr.m (ae (aa 2) af)) (aA Qu Qv hr.m (ae (aa 2) af)))) (ai (az (bt (bg (aA Os Ot hr.m (ae (aa 3) (ae (aa 4) af))))) (ai (av bx)) aF))))))) (ai (av bx)))),ax λv hu ts S Q h=>?_⟩
 obtain ⟨ns,rfl,SB,hq⟩:=h
 ac_nf
 ext
 dsimp only
 refine yL (λj LR S'=>∃ u1 u2 u3 u4,LR=[some (.scr ns),u1,u2,u3,u4]) ⟨_,_,_,_,rfl⟩ ?_ ?_
 ·rintro j LR S' N hj ⟨u1,u2,u3,u4,rfl⟩ hN
  refine ⟨trivial,?_⟩
  ext
  intro k hk0
  obtain ⟨m,hm⟩:∃ m,m=1+r:=⟨_,rfl⟩
  rw [<- hm]
  have m0:1<=m:=by omega
  refine ⟨k,m,rfl,aI,λS1 A hA hF=>?_⟩
  have hkq:q≠k:=λe=>by rw [<- e,aI] at hk0;cases hk0
  have hq1:S1 q=some o':=hF q o' ((ay hkq).trans aI) hkq
  have hA:=HH hA hbx hq1
  clear hF hk0 hkq hq1 hq0
  refine ⟨rfl,?_⟩
  ext
  dsimp only
  refine CI (ls:=R7) (f:=T2.T.str) (λls LR S2=>∃ a u4,LR=[some (.scr ns),some (.int (0+(j:Int))),some (.ref q),some (.ref k),u4]/\At S2 (lay ⟨C,L,R,Y⟩ A m a++[(k,dkO D A.h A.y A.u),(q,o')])/\Ok7 ls a) ⟨_,_,rfl,hA,.inl ⟨rfl,rfl⟩⟩ ?_ ?_
  ·clear hA
   rintro z ls LR S2 N2 ⟨a,u4,rfl,hA,h7⟩ hN2
   refine ⟨trivial,?_⟩
   obtain ⟨c,hc,h0,lk,tz,h8⟩:=Kt m0 h7
   ext
   refine ⟨A,k,m,a,z,rfl,oQ hA,lk,by omega,tz,λc' Sl h0' S3 u=>?_,λe=>?_,λc' Sl h0'=>?_⟩
   ·rw [hc] at Sl;cases Sl
    ext
    refine vC ?_
    ext
    refine ifF ?_
    ext
    exact hN2 _ _ ⟨_,_,rfl,hA.up u,h8⟩
   ·rw [hc] at e;cases e
   ·rw [hc] at Sl;cases Sl;exact absurd h0 h0'
  rintro LR S2 ⟨a,u4,rfl,hA,h7⟩
  refine ⟨trivial,?_⟩
  obtain rfl:=Ej h7
  have TU:S2 q=some o':=hA.get 11 rfl
  ext
  have hA:=hA.put (o':=o') 11 rfl
  refine ifN (λe=>?_) λe=>?_
  ·ext
   refine ⟨q,_,rfl,aI,hbx,λz o3 hz hb3=>?_⟩
   have hA:=hA.put (o':=o3) 11 rfl
   ext
   refine ⟨A,k,m,s7,z,rfl,oQ (l:=[(q,o3)]) hA,lk7,by omega,by decide +kernel,lk8,hz,λS5=>?_⟩
   ext
   exact hN _ _ ⟨_,_,_,_,rfl⟩
  ·ext
   refine ⟨q,_,rfl,aI,hbx,λz o3 hz hb3=>?_⟩
   have hA:=hA.put (o':=o3) 11 rfl
   ext
   refine ⟨A,k,m,s7,z,rfl,oQ (l:=[(q,o3)]) hA,lk7,by omega,by decide +kernel,lk8,hz,λS5=>?_⟩
   ext
   exact hN _ _ ⟨_,_,_,_,rfl⟩
 rintro LR S' ⟨u1,u2,u3,u4,rfl⟩
 refine ⟨trivial,?_⟩
 ext
 exact .mk (hq _)
theorem Ag {K:PySem.W.Frag}{H:Hp}{a:Addr}{ns:List Int}{E:XK}(h:ns.length<=63) (hO:jT H) (hS:SqL K H a (ns.map V.int)):lSp K hU [.ref a] H (λv _=>v=.bl true) E:=by
 refine ⟨λ_=>none,[.scr ns],λt _=>t=.bl true,?_,.cons (.scr ?_) .nil,⟨ns,rfl,h,λ_=>rfl⟩,?_⟩
 ·intro b o e;cases e
 rotate_left
 ·intro v H' t S' _ _ r e
  subst e;cases r;rfl
 rcases hS with (e|⟨o,e⟩)|e
 ·rcases hO a with z|⟨ob,xs,z⟩
  ·rw [e] at z;cases z
  ·rw [e] at z;cases z
 ·exact .inl ⟨rfl,o,e⟩
 ·exact .inr (.inr e)
end
end My
namespace My
open PySem L2 T2
section
variable {K:W.Frag}{h:Heap}{mg:Str->Option Value}{x q:Str}{st:Stmt}{f C:Addr}
theorem ln0 {P:List Value->Prop}(h:P []) (us:List Value) (e:us.length=0):P us:=by
 rcases us with _|⟨_,_⟩<;>first|(cases e;done)|exact h
theorem ln1 {P:List Value->Prop}(h:∀ a,P [a]) (us:List Value) (e:us.length=1):P us:=by
 rcases us with _|⟨_,_|⟨_,_⟩⟩<;>first|(cases e;done)|exact h _
theorem ln2 {P:List Value->Prop}(h:∀ a b,P [a,b]) (us:List Value) (e:us.length=2):P us:=by
 rcases us with _|⟨_,_|⟨_,_|⟨_,_⟩⟩⟩<;>first|(cases e;done)|exact h _ _
theorem ln3 {P:List Value->Prop}(h:∀ a b c,P [a,b,c]) (us:List Value) (e:us.length=3):P us:=by
 rcases us with _|⟨_,_|⟨_,_|⟨_,_|⟨_,_⟩⟩⟩⟩<;>first|(cases e;done)|exact h _ _ _
theorem ln4 {P:List Value->Prop}(h:∀ a b c d,P [a,b,c,d]) (us:List Value) (e:us.length=4):P us:=by
 rcases us with _|⟨_,_|⟨_,_|⟨_,_|⟨_,_|⟨_,_⟩⟩⟩⟩⟩<;>first|(cases e;done)|exact h _ _ _ _
theorem Dn.mk (d:Dn K x st f) (X:K.In h) (G:h.Ns mainGlobals mg) (ps:List Str) (hb:∀ (kV doc pm:Value) (an:Option Addr) (cdv ct:Value) (us:List Value),us.length=ps.length->bindArgs (W.fnOf x x (ck st) (bG st) (aq st) .none kV doc pm an cdv ct) ⟨us,[]⟩=pure (ps.zip us):=by
  first|exact λ_ _ _ _ _ _=>My.ln1 λ_=>rfl|exact λ_ _ _ _ _ _=>My.ln2 λ_ _=>rfl|exact λ_ _ _ _ _ _=>My.ln3 λ_ _ _=>rfl|exact λ_ _ _ _ _ _=>My.ln4 λ_ _ _ _=>rfl|exact λ_ _ _ _ _ _=>My.ln0 rfl):∃ fd,Fun K x x st f fd/\Df K mg x f fd ps:=by
 obtain ⟨a,oc,od,kV,dc,pm,an,cd,ct,sl,l,c,k⟩:=d
 have F:=tD l c k
 exact ⟨_,F,W.mg_of X G a,k,F.binds hb⟩
theorem Mn.mk (d:Mn K C x q st f) (ps:List Str) (hb:∀ (kV doc pm:Value) (an:Option Addr) (cdv ct:Value) (us:List Value),us.length=ps.length->bindArgs (W.fnOf x q (ck st) (bG st) (aq st) .none kV doc pm an cdv ct) ⟨us,[]⟩=pure (ps.zip us):=by
  first|exact λ_ _ _ _ _ _=>My.ln1 λ_=>rfl|exact λ_ _ _ _ _ _=>My.ln2 λ_ _=>rfl|exact λ_ _ _ _ _ _=>My.ln3 λ_ _ _=>rfl|exact λ_ _ _ _ _ _=>My.ln4 λ_ _ _ _=>rfl|exact λ_ _ _ _ _ _=>My.ln0 rfl):∃ fd,FunD K x q st f fd/\Meth K C x f/\ao K fd ps []:=by
 obtain ⟨a,i,oc,od,kV,dc,pm,an,cd,ct,sl,l,c,k⟩:=d
 exact ⟨_,⟨⟨_,_,_,_,_,_,_,_,_,_,rfl,l,c⟩⟩,⟨a,i,k⟩,.all (hb _ _ _ _ _ _)⟩
theorem Md.mk {i:Int}(d:Md K C x q st i f) (ps:List Str) (hb:∀ (e:Addr) (tk:Tok) (n:Nat) (oc:Value) (od:Option Addr) (sl:Array (Option Value)) (kV doc pm:Value) (an:Option Addr) (cdv ct:Value),K.lookup e=some ⟨oc,od,.seq #[.int i tk] n,sl⟩->ao K (W.fnOf x q (ck st) (bG st) (aq st) (.ref e) kV doc pm an cdv ct) ps []/\ao K (W.fnOf x q (ck st) (bG st) (aq st) (.ref e) kV doc pm an cdv ct) ps [.int i tk]:=by
  intro _ _ _ _ _ _ _ _ _ _ _ _ e;constructor<;>intro s us X h<;>rcases us with _|⟨_,_|⟨_,_|⟨_,_|⟨_,_⟩⟩⟩⟩<;>first|(cases h;done)|exact BindsTo.of_defaults rfl (X _ _ e) rfl rfl rfl):∃ fd tk,FunD K x q st f fd/\Meth K C x f/\ao K fd ps []/\ao K fd ps [.int i tk]:=by
 obtain ⟨a,j,e,tk,n,oc',od',sl',⟨oc,od,kV,dc,pm,an,cd,ct,sl,l,c,k⟩,g⟩:=d
 obtain ⟨b1,b2⟩:=hb _ _ _ _ _ _ kV dc pm an cd ct g
 exact ⟨_,tk,⟨⟨_,_,_,_,_,_,_,_,_,_,rfl,l,c⟩⟩,⟨a,j,k⟩,b1,b2⟩
theorem hid {G:Prop}(h:∀ P:Prop,(G->P)->P):G:=h G id
theorem Cn.cl (c:Cn K x C):Cls K C:=⟨c.2.1,c.2.2.1,c.2.2.2.1,c.2.2.2.2.1⟩
theorem Cn.mk (c:Cn K x C) (m:Meth K C "__init__" f):Mk K C f:=⟨c.2.2.2.2.2.1,m.at_,m.fn,c.2.2.2.2.2.2⟩
end
set_option hygiene false in
local macro_rules|`(‹$f:ident›)=>`($f (P:=l.prog) (w:=w) (mg:=mg) (base:=base))
theorem HK {l:W.OpenLaw}{w:World}{K:W.Frag}{h:Heap}{mg:Str->Option Value}{fa:Addr}(X:K.In h) (G:h.Ns mainGlobals mg) (hfa:mg "law"=some (.ref fa)) (hF:Fx K) :
  ∃ fd:FuncData,(∀ (s:Shared) (v:Value),BindsTo s fd ⟨[v],[]⟩ [("_law_script",v)])/\∀ base:Heap,K.In base->base.Ns mainGlobals mg->FnOk l.prog w K mg base CX0 13 fa fd ["_law_script"] (lSp K hU):=by
 refine hid λP hP=>hF P ?_
 intro fr fb f1 f2 f3 f4 f5 fwo ffg fnb fwt frk fig ftk fnw fcw fls ftt fca fbx fta fln fir fod fsg fbt fan flk frr flw fwi fwm fwq fwu fwz fwf fwh fwb fww fyi fyq fyz fyh fys fya fye fyu fyf fpi fpc fpf fpw fui fuk fub fuc fud ful fuh fut fuz fuf fdi fds fda fdw fdc fdg fdt T1 RH SM RI T3 RJ SN RK RL QU SO RM RN Qa Sr Ss Ru RO Su Sv RP QV m_wi m_wm m_wq m_wu m_wz m_wf m_wh m_wb m_ww Qb QX OW m_yi m_yq m_yz m_yh m_ys m_ya m_ye m_yu m_yf OX Qc OE Qd m_pi m_pc m_pf m_pw Ps Qw OY m_ui m_uk m_ub m_uc m_ud m_ul m_uh m_ut m_uz m_uf OF Pt OZ Pu OG QY m_di m_ds m_da m_dw m_dc m_dg m_dt Qe Pv Pw c_NoWord c_Twice c_Absent c_NoSign c_NoChoice c_NoRow RQ RS Qf d_r d_b d_1 d_2 d_3 d_4 d_5 d_wo d_fg d_nb d_wt d_rk d_ig d_tk d_nw d_cw d_ls d_tt d_ca d_bx d_ta d_ln d_ir d_od d_sg d_bt d_an d_lk d_rr d_lw z_len SQ z_all RT Qg z_int z_str T4 z_min Qx Qh t_ss Qi Qj O0 Px Qk Ql Py RU RV RW RX RY RZ R0 SR SS SU SV SW SX SY R1 R3 R5 R6 R8 R9 Sa Sb Sd Se Sf Sg Sh Si QZ Q0 Q1 Q2 Q3 Q4 Q5 SZ S7 S8 S9 Ta Tb Tc
 have e:=hfa.symm.trans (W.mg_of X G d_lw.1)
 cases e
 have T:Txt K mg T1 RH SM RI T3 ⟨RJ,SN,RK,RL,QU,SO,RM,RN,Qa⟩:=⟨W.mg_none_of X G z_len,W.mg_none_of X G SQ,W.mg_none_of X G z_all,W.mg_none_of X G RT,W.mg_none_of X G Qg,W.mg_none_of X G z_int,W.mg_none_of X G z_str,W.mg_none_of X G T4,W.mg_none_of X G z_min,W.mg_none_of X G Qx,W.mg_none_of X G Qh,t_ss,⟨_,W.mg_of X G Qi⟩,⟨_,W.mg_of X G Qj⟩,⟨_,W.mg_of X G O0⟩,⟨_,W.mg_of X G Px⟩,⟨_,W.mg_of X G Qk⟩,⟨_,W.mg_of X G Ql⟩,⟨_,W.mg_of X G Py⟩,W.mg_of X G QV.1,QV.cl,Qb,QX,W.mg_of X G OW.1,OW.cl,OX,Qc,OE,W.mg_of X G Qd.1,Qd.cl,Ps,Qw,W.mg_of X G OY.1,OY.cl,OF,Pt,OZ,Pu,OG,W.mg_of X G QY.1,QY.cl,Qe,Pv,Pw,W.mg_of X G c_NoWord,W.mg_of X G c_Twice,W.mg_of X G c_Absent,W.mg_of X G c_NoSign,W.mg_of X G c_NoChoice,W.mg_of X G c_NoRow,W.mg_of X G RQ,W.mg_of X G RS,W.mg_of X G Qf,RU,RV,RW,RX,RY,RZ,R0,SR,SS,SU,SV,SW,SX,SY,R1,R3,R5,R6,R8,R9,Sa,Sb,Sd,Se,Sf,Sg,Sh,Si,QZ,Q0,Q1,Q2,Q3,Q4,Q5,SZ,S7,S8,S9,Ta,Tb,Tc⟩
 obtain ⟨_,Fwi,Mwi,Bwi⟩:=m_wi.mk ["self"]
 have Rb:=QV.mk Mwi
 obtain ⟨_,Fwm,Mwm,Bwm⟩:=m_wm.mk ["self","word"]
 obtain ⟨_,Fwq,Mwq,Bwq⟩:=m_wq.mk ["self","word","count"]
 obtain ⟨_,_,Fwu,Mwu,Bwu,B0wu⟩:=m_wu.mk ["self","word","times"]
 obtain ⟨_,Fwz,Mwz,Bwz⟩:=m_wz.mk ["self","word"]
 obtain ⟨_,_,Fwf,Mwf,Bwf,B0wf⟩:=m_wf.mk ["self","times"]
 obtain ⟨_,Fwh,Mwh,Bwh⟩:=m_wh.mk ["self","word"]
 obtain ⟨_,Fwb,Mwb,Bwb⟩:=m_wb.mk ["self","beginning"]
 obtain ⟨_,Fww,Mww,Bww⟩:=m_ww.mk ["self"]
 obtain ⟨_,Fyi,Myi,Byi⟩:=m_yi.mk ["self","house"]
 have Ro:=OW.mk Myi
 obtain ⟨_,Fyq,Myq,Byq⟩:=m_yq.mk ["self","word","count"]
 obtain ⟨_,Fyz,Myz,Byz⟩:=m_yz.mk ["self","word"]
 obtain ⟨_,Fyh,Myh,Byh⟩:=m_yh.mk ["self","word"]
 obtain ⟨_,Fys,Mys,Bys⟩:=m_ys.mk ["self","word"]
 obtain ⟨_,Fya,Mya,Bya⟩:=m_ya.mk ["self","beginning"]
 obtain ⟨_,Fye,Mye,Bye⟩:=m_ye.mk ["self","word"]
 obtain ⟨_,_,Fyu,Myu,Byu,B0yu⟩:=m_yu.mk ["self","word","times"]
 obtain ⟨_,_,Fyf,Myf,Byf,B0yf⟩:=m_yf.mk ["self","times"]
 obtain ⟨_,Fpi,Mpi,Bpi⟩:=m_pi.mk ["self"]
 have Sj:=Qd.mk Mpi
 obtain ⟨_,Fpc,Mpc,Bpc⟩:=m_pc.mk ["self","before","word"]
 obtain ⟨_,_,Fpf,Mpf,Bpf,B0pf⟩:=m_pf.mk ["self","times"]
 obtain ⟨_,Fpw,Mpw,Bpw⟩:=m_pw.mk ["self","before","word"]
 obtain ⟨_,Fui,Mui,Bui⟩:=m_ui.mk ["self","layers","many"]
 have Rq:=OY.mk Mui
 obtain ⟨_,Fuk,Muk,Buk⟩:=m_uk.mk ["self","sign"]
 obtain ⟨_,Fub,Mub,Bub⟩:=m_ub.mk ["self"]
 obtain ⟨_,Fuc,Muc,Buc⟩:=m_uc.mk ["self"]
 obtain ⟨_,Fud,Mud,Bud⟩:=m_ud.mk ["self"]
 obtain ⟨_,Ful,Mul,Bul⟩:=m_ul.mk ["self"]
 obtain ⟨_,Fuh,Muh,Buh⟩:=m_uh.mk ["self"]
 obtain ⟨_,Fut,Mut,But⟩:=m_ut.mk ["self"]
 obtain ⟨_,Fuz,Muz,Buz⟩:=m_uz.mk ["self","number"]
 obtain ⟨_,_,Fuf,Muf,Buf,B0uf⟩:=m_uf.mk ["self","times"]
 obtain ⟨_,Fdi,Mdi,Bdi⟩:=m_di.mk ["self","many"]
 have Td:=QY.mk Mdi
 obtain ⟨_,Fds,Mds,Bds⟩:=m_ds.mk ["self","row"]
 obtain ⟨_,Fda,Mda,Bda⟩:=m_da.mk ["self","row"]
 obtain ⟨_,Fdw,Mdw,Bdw⟩:=m_dw.mk ["self","name","rest"]
 obtain ⟨_,Fdc,Mdc,Bdc⟩:=m_dc.mk ["self","name","rest"]
 obtain ⟨_,Fdg,Mdg,Bdg⟩:=m_dg.mk ["self","rest"]
 obtain ⟨_,Fdt,Mdt,Bdt⟩:=m_dt.mk ["self"]
 obtain ⟨_,Fr,Dr⟩:=d_r.mk X G ["pair"]
 obtain ⟨_,Fb,Db⟩:=d_b.mk X G ["rated","many"]
 obtain ⟨_,F1,D1⟩:=d_1.mk X G ["sign"]
 obtain ⟨_,F2,D2⟩:=d_2.mk X G ["text"]
 obtain ⟨_,F3,D3⟩:=d_3.mk X G ["thing"]
 obtain ⟨_,F4,D4⟩:=d_4.mk X G ["mark","era"]
 obtain ⟨_,F5,D5⟩:=d_5.mk X G ["mark","era","times"]
 obtain ⟨_,Fwo,Dwo⟩:=d_wo.mk X G ["rated","own"]
 obtain ⟨_,Ffg,Dfg⟩:=d_fg.mk X G ["sign"]
 obtain ⟨_,Fnb,Dnb⟩:=d_nb.mk X G ["text","most_figures"]
 obtain ⟨_,Fwt,Dwt⟩:=d_wt.mk X G ["wood"]
 obtain ⟨_,Frk,Drk⟩:=d_rk.mk X G ["one"]
 obtain ⟨_,Fig,Dig⟩:=d_ig.mk X G ["text"]
 obtain ⟨_,Ftk,Dtk⟩:=d_tk.mk X G ["one"]
 obtain ⟨_,Fnw,Dnw⟩:=d_nw.mk X G ["text","least","most"]
 obtain ⟨_,Fcw,Dcw⟩:=d_cw.mk X G ["text"]
 obtain ⟨_,Fls,Dls⟩:=d_ls.mk X G ["texts"]
 obtain ⟨_,Ftt,Dtt⟩:=d_tt.mk X G ["number","word","own"]
 obtain ⟨_,Fca,Dca⟩:=d_ca.mk X G ["_law_script","_law_k"]
 obtain ⟨_,Fbx,Dbx⟩:=d_bx.mk X G ["_law_script","_law_k"]
 obtain ⟨_,Fta,Dta⟩:=d_ta.mk X G ["_law_box_here","_law_many"]
 obtain ⟨_,Fln,Dln⟩:=d_ln.mk X G ["_law_text","_law_low","_law_high"]
 obtain ⟨_,Fir,Dir⟩:=d_ir.mk X G ["_law_row"]
 obtain ⟨_,Fod,Dod⟩:=d_od.mk X G ["_law_box_here"]
 obtain ⟨_,Fsg,Dsg⟩:=d_sg.mk X G ["_law_box_here"]
 obtain ⟨_,Fbt,Dbt⟩:=d_bt.mk X G ["_law_box_here"]
 obtain ⟨_,Fan,Dan⟩:=d_an.mk X G ["_law_desk","_law_row"]
 obtain ⟨_,Flk,Dlk⟩:=d_lk.mk X G ["_law_desk"]
 obtain ⟨_,Frr,Drr⟩:=d_rr.mk X G ["_law_desk","_law_row"]
 obtain ⟨_,oc,od,kV,dc,pm,an,cd,ct,sl,le,c,k⟩:=d_lw
 have Flw:=tD le c k
 refine hP ⟨W.fnOf "law" "law" (ck fI) (bG fI) (aq fI) .none kV dc pm an cd ct,λs v=>.of_eq rfl,λbase _ _=>?_⟩
 have Gta:=‹DE› Fta
 have Gca:=‹DF› Fca T
 have Gbx:=‹GP› Fbx Gca Dca
 have G1:=‹zY› F1
 have G2:=‹zZ› F2 T G1 D1
 have G3:=‹z0› F3 T G2 D2
 have G4:=‹Br› F4
 have G5:=‹DG› F5 G4 D4
 have Gwi:=‹DH› Fwi T
 have Gwm:=‹DI› Fwm T
 have Gwq:=‹GQ› Fwq T G3 D3
 have Gwu:=‹GR› Fwu T G5 D5 Gwm Mwm Bwm
 have Gwz:=‹z3› Fwz T Gwm Mwm Bwm
 have Gwf:=‹DJ› Fwf T
 have Gwb:=‹Bt› Fwb T G4 D4
 have Gwh:=‹GU› Fwh T
 have Gww:=‹z4› Fww T Gwb Mwb Bwb
 have Gr:=‹DK› Fr
 have Gb:=‹DL› Fb T Gr Dr
 have Rwm:=‹DM› Fwm T
 have Rwq:=‹GV› Fwq T G3 D3
 have Rwu:=‹GW› Fwu T D5 Rwm Mwm Bwm
 have Rwz:=‹z5› Fwz T Rwm Mwm Bwm
 have Gwo:=‹DN› Fwo T Gb Db
 have Gyi:=‹Bv› Fyi T Gwi Rb Bwi
 have Gyq:=‹DO› Fyq T Gwq Mwq Bwq
 have Gyz:=‹yX› Fyz T Gwz Mwz Bwz
 have Gyh:=‹DP› Fyh T G3 D3
 have Gys:=‹DQ› Fys T
 have Gye:=‹DR› Fye T Gwh Mwh Bwh
 have Gya:=‹G0› Fya T Gwb Mwb Bwb Gye Mye Bye Gwo Dwo
 have Gyu:=‹DS› Fyu T Gwh Mwh Bwh Gwu Mwu Bwu
 have Gyf:=‹Bw› Fyf T Gwf Mwf Bwf
 have Ryq:=‹DT› Fyq T Rwq Mwq Bwq
 have Ryz:=‹yY› Fyz T Rwz Mwz Bwz
 have Ryh:=‹DU› Fyh T G3 D3
 have Rys:=‹DV› Fys T
 have Ryu:=‹DX› Fyu T Gwh Mwh Bwh Rwu Mwu Bwu
 have Gpi:=‹Bx› Fpi T
 have Gpc:=‹z6› Fpc T G5 D5
 have Gpf:=‹By› Fpf T
 have Gpw:=‹J8› Fpw T G4 D4
 have Gig:=‹D0› Fig T G1 D1
 have Gui:=‹Bz› Fui T Gpi Sj Bpi
 have Guk:=‹G'› Fuk T Gig Dig
 have Ruk:=‹Ha› Fuk T Gig Dig
 have Gub:=‹D6› Fub T
 have Rub:=‹D7› Fub T
 have Guc:=‹BA› Fuc T
 have Gud:=‹BB› Fud T
 have Gul:=‹D8› Ful T
 have Guh:=‹D9› Fuh T
 have Grk:=‹J9› Frk Gr Dr
 have Gtk:=‹Ka› Ftk Grk Drk
 have Gut:=‹Ea› Fut T Guh Muh Buh Gya Mya Bya Gpw Mpw Bpw Gtk Dtk
 have Guz:=‹BD› Fuz T Gut Mut But Gyu Myu B0yu Gpc Mpc Bpc Guh Muh Buh Guc Muc Buc
 have Ruz:=‹BE› Fuz T Gut Mut But
 have Guf:=‹BF› Fuf T Gyf Myf Byf Gpf Mpf Bpf
 have Gfg:=‹z8› Ffg
 have Gnb:=‹z9› Fnb T Gfg Dfg
 have Gnw:=‹Aa› Fnw T Gnb Dnb
 have Rnw:=‹Ac› Fnw T Gnb Dnb
 have Gcw:=‹Hg› Fcw T Gnw Dnw
 have Rcw:=‹Hh› Fcw T Rnw Dnw
 have Gls:=‹Af› Fls T
 have Gtt:=‹Kh› Ftt T
 have Gwt:=‹Ki› Fwt T Gww Mww Bww
 have Gdt:=‹Kj› Fdt T Gud Mud Bud
 have Gdg:=‹Hj› Fdg T Guf Muf Buf Gwf Mwf Bwf Gnw Dnw
 have Rdg:=‹Hk› Fdg T Muf Mwf Rnw Dnw
 have Gdc:=‹Hl› Fdc T Gwq Mwq Bwq Gwu Mwu B0wu Gwz Mwz Bwz Gyq Myq Byq Gyz Myz Byz Gyh Myh Byh Gys Mys Bys Gdg Mdg Bdg Gcw Dcw
 have Rdc:=‹Hm› Fdc T Rwq Mwq Bwq Rwu Mwu B0wu Rwz Mwz Bwz Ryq Myq Byq Ryz Myz Byz Ryh Myh Byh Rys Mys Bys Rdg Mdg Bdg Gcw Rcw Dcw
 have Gdw:=‹Ho› Fdw T Guk Muk Buk Gdt Mdt Bdt Guz Muz Buz Gdc Mdc Bdc Gnw Dnw
 have Rdw:=‹Hq› Fdw T Ruk Muk Buk Ruz Muz Buz Rdc Mdc Bdc Gnw Dnw Rnw
 have Gda:=‹Kk› Fda T Gut Mut But Gul Mul Bul Gub Mub Bub Guc Muc Buc Gdt Mdt Bdt Gls Dls Gtt Dtt Gwt Dwt
 have Rda:=‹Kl› Fda T Rub Mub Bub
 have Gds:=‹Ht› Fds T Gda Mda Bda Gdw Mdw Bdw
 have Rds:=‹Hu› Fds T Rda Mda Bda Rdw Mdw Bdw
 have Gdi:=‹BH› Fdi T Gwi Rb Bwi Gyi Ro Byi Gui Rq Bui
 have Gln:=‹Ef› Fln T
 have Gir:=‹BJ› Fir T Gln Dln
 have God:=‹Hy› Fod T Gta Dta
 have Gsg:=‹HA› Fsg T Gta Dta
 have Gbt:=‹Eg› Fbt T Gta Dta Gsg Dsg
 have Gan:=‹HC› Fan T Gds Mds Bds Rds
 have Glk:=‹BK› Flk T Gds Mds Bds
 have Grr:=‹BL› Frr T Glk Dlk Gan Dan Gir Dir
 exact HJ Flw T Gdi Td Bdi Gbx Dbx Gta Dta Gan Dan God Dod Gbt Dbt Grr Drr
theorem LM {l:PySem.W.OpenLaw}{q:Program}{loose:List Str}{XP:(Str->Option Value)->Heap->Prop}{YP:World->Heap->Prop}{d:DefRec}{K:Params->PySem.W.Frag}(hn:l.most=some 63) (hdf:d.params.defaults=[])
  (hY:∀ (w:World) (h:Heap),YP w h->(K w.params).In h)
  (F:∀ (w:World) (mg:Str->Option Value) (fa:Addr) (h:Heap),(K w.params).In h->h.Ns mainGlobals mg->mg d.name=some (.ref fa) ->
   ∃ fd:FuncData,(∀ (s:Shared) (u:Value),BindsTo s fd ⟨[u],[]⟩ [("_law_script",u)])/\∀ base:Heap,(K w.params).In base->base.Ns mainGlobals mg->FnOk l.prog w (K w.params) mg base CX0 13 fa fd ["_law_script"] (T2.lSp (K w.params) hU)) :
  PySem.W.WalkO q loose XP YP l.row.toRowW d [] (λf vs=>PySem.call f vs) :=
 L2.Ce (n:=63) (k:=13) (x:="_law_script") (CX:=λ_=>CX0) (sp:=λw=>T2.lSp (K w.params) hU) hn (by decide) hdf ⟨rfl,by decide,by decide,rfl⟩ hY F (λ_ _ a ns hl hO hS=>Ag hl hO hS) λ_ _ _ _ _ z=>z
end My
theorem PySem.Challenge.cw_aheadword_k76_rows_refused_holds : PySem.Challenge.rw_aheadword_k76_rows_refused.Holds :=
 My.headL λ_ _ _ _ d K h1 h2 hd hK hF=>My.LM (l:=PySem.Challenge.rw_aheadword_k76_rows_refused) h1 h2 hK λw mg fa h KX G hmg=>My.HK KX G (by rw [hd] at hmg;exact hmg) (hF w)
end

import PyProof.Rows.All
import OpenK.KWalk
import OpenK.KCls
import OpenK.KTop
import OpenK.KLaw
import Wide.FinOn
import KE.RegKIsAll
import KE.KItem
import KE.KxBytes
import PyProof.EqAt
import PyProof.EqKinds
import PyProof.NeData
import PyProof.TupleCall
import PyProof.MinMaxWalk
import KE.KDictList
import KE.KDictOf
import KE.KEqDict
import PyProof.AttrMissHeap
import PyProof.EnumFor
import PyProof.EnumMake
import PyProof.EnumStmt
import PyProof.TupleIter
import PyProof.Seq
import KE.KPairComp
import PyProof.DictItems
import PyProof.DictRoadsH
import PyProof.ReprRoads
import PyProof.ReprLen
import PyProof.StrLawsRepr
import PyProof.ExcClass2
import PyProof.InstStoreFacts
import PyProof.Rows.FStr
import PyProof.ExcAttrAll.ValueError
import KE.KDictSum
import KE.KRevSl
import PyProof.RaisesMany
import PyProof.RulesTry
import KE.KTryMore
import PyProof.RulesAs
import PyProof.ReprStr
import PyProof.ListStr
import PyProof.StrLawsIn
import KE.KDictLaws
import PyProof.NsDelKeeps
import PyProof.PassesOwn
import PyProof.RulesAs
import PyProof.FString4
import PyProof.FString5
import PyProof.P3In
import PyProof.P3Eq
import PyProof.PureStr
import PyProof.Rows.RuleB_bool
import PyProof.IsRules
import PyProof.ExcAttrAll.ValueError
import PyProof.InstStoreFacts
import KE.KIntText
import PyProof.EnumFor
import PyProof.EnumMake
import PyProof.EnumStmt
import PyProof.StrCalls
import PyProof.StrBlock2
import PyProof.Rows.StrFit
import PyProof.Rows.FStr
import PyProof.Rows.FStrParts
import Open.Pieces
import PySem.Challenge.RW_aheadword_k62_refusals_apart
set_option maxHeartbeats 0
set_option maxRecDepth 100000
set_option Elab.async false
set_option linter.all false
set_option compiler.extract_closed false
set_option genSizeOf false
noncomputable section
namespace L2
open PySem
noncomputable abbrev uG:List Value:=[.type "ValueError",.type "Exception",.type "BaseException",.type "object"]
noncomputable def aV (K:PySem.W.Frag) (C:Addr) (r:Option Value):Bool:=match K.lookup C with
 |some o=>o.cls==.type "type" && match o.data with
  |.cls cd=>(match cd.mro with
   |v::bm=>v==.ref C&&o.slots.toList.length==6&&o.slots.toList[4]?==some (some (.builtin "ValueError.__new__"))&&!cd.hasDel&&PySem.W.tailIn K uG bm&&PySem.W.nsOkIn K cd.ns&&PySem.W.nsIn K cd.ns "__init__" == some r
   |[]=>false)
  |_=>false
 |none=>false
def _root_.PySem.W.onlyVE:List Value->Bool
 |.ref _::r=>PySem.W.onlyVE r
 |l=>l==[.type "ValueError",.type "Exception",.type "BaseException",.type "object"]
def _root_.PySem.W.xOver (K:PySem.W.Frag) (C:Addr):Bool:=(PySem.W.clsIn K C).any λcd=>PySem.W.onlyVE cd.mro&&cd.hasDict
def nY (K:PySem.W.Frag) (C:Addr):Bool:=PySem.W.keepIn K (.ref C)&&PySem.W.findIn K (.ref C) "__getattribute__" == some (some (.builtin "BaseException.__getattribute__"))&&PySem.W.findIn K (.ref C) "__getattr__" == some none&&PySem.W.mroIn K C (.type "BaseException")==some true &&
 (PySem.W.clsIn K C).isSome&&PySem.W.findIn K (.ref C) "__class__" == some (some (.builtin "object.__class__"))&&PySem.W.specialIn K (.builtin "object.__class__") "__get__" == some (some (.builtin "getset_descriptor.__get__"))&&PySem.W.takesIn K (.builtin "object.__class__")==some true &&
 PySem.W.mroIn K C (.type "object")==some true&&PySem.W.findIn K (.ref C) "__setattr__" == some (some (.builtin "object.__setattr__"))&&PySem.W.xOver K C
def nZ (K:PySem.W.Frag) (E:Addr) (l:List Addr):Bool:=(List.range 8).all λi=>nY K (l.getD i 0)&&(PySem.W.exmOne K (.ref (l.getD i 0)) (.ref E)==some true)&&(PySem.W.kitOne K (.ref (l.getD i 0)) (.type "ValueError")==some true)&&(List.range 8).all λj=>PySem.W.kitOne K (.ref (l.getD i 0)) (.ref (l.getD j 0))==some (i==j)
noncomputable def aQ (s:Stmt) (j:Nat):Stmt:=match s with
 |.ClassDef _ _ _ body _ _ _ _ _ _ _=>body.getD j (.Pass ⟨0,0,0,0⟩)
 |_=>.Pass ⟨0,0,0,0⟩
noncomputable def cx (s:Stmt):Arguments:=match s with
 |.FunctionDef _ a _ _ _ _ _ _ _ _=>a
 |_=>{ posonlyargs:=[],args:=[],vararg:=none,kwonlyargs:=[],kw_defaults:=[],kwarg:=none,defaults:=[] }
def bO (s:Stmt):List Stmt:=match s with
 |.FunctionDef _ _ b _ _ _ _ _ _ _=>b
 |_=>[]
noncomputable def aj (s:Stmt):Scope:=match s with
 |.FunctionDef _ _ _ _ _ _ sc _ _ _=>sc
 |_=>{ kind:=.function,names:=[],isGenerator:=false,isCoroutine:=false }
end L2
namespace My
open PySem L2
noncomputable def top (i:Nat):Stmt:=PySem.Challenge.pw_aheadword_k62_refusals_apart.main.body.getD i (.Pass ⟨0,0,0,0⟩)
abbrev jW:Stmt:=aQ (top 9) 0
abbrev kC:Stmt:=top 12
abbrev kP:Stmt:=top 14
abbrev ki:Stmt:=top 20
abbrev kQ:Stmt:=top 21
abbrev kR:Stmt:=top 22
abbrev kD:Stmt:=top 23
abbrev wW:Stmt:=top 24
abbrev kb:Stmt:=aQ (top 27) 0
abbrev jI:Stmt:=aQ (top 27) 4
abbrev kc:Stmt:=top 28
abbrev kS:Stmt:=top 30
abbrev kE:Stmt:=top 31
abbrev jX:Stmt:=aQ (top 32) 0
abbrev ia:Stmt:=aQ (top 32) 1
abbrev jY:Stmt:=aQ (top 32) 2
abbrev jQ:Stmt:=aQ (top 32) 4
abbrev jZ:Stmt:=aQ (top 32) 5
abbrev jF:Stmt:=aQ (top 32) 6
abbrev j3:Stmt:=aQ (top 32) 7
abbrev j4:Stmt:=aQ (top 32) 8
abbrev kj:Stmt:=aQ (top 34) 0
abbrev jS:Stmt:=aQ (top 34) 1
abbrev ig:Stmt:=aQ (top 34) 2
abbrev kF:Stmt:=aQ (top 34) 3
abbrev j5:Stmt:=aQ (top 34) 4
abbrev kG:Stmt:=aQ (top 34) 6
abbrev kH:Stmt:=aQ (top 34) 7
abbrev ke:Stmt:=aQ (top 34) 9
abbrev kf:Stmt:=aQ (top 34) 10
abbrev kI:Stmt:=top 36
abbrev j6:Stmt:=aQ (top 37) 0
abbrev jL:Stmt:=aQ (top 37) 2
abbrev j7:Stmt:=aQ (top 37) 3
abbrev j8:Stmt:=aQ (top 37) 4
abbrev jH:Stmt:=aQ (top 37) 6
abbrev jE:Stmt:=aQ (top 37) 7
abbrev kg:Stmt:=aQ (top 37) 8
abbrev jG:Stmt:=aQ (top 37) 10
abbrev jM:Stmt:=aQ (top 37) 11
abbrev km:Stmt:=top 40
abbrev kn:Stmt:=top 41
abbrev kJ:Stmt:=top 42
abbrev kh:Stmt:=top 43
abbrev ko:Stmt:=top 44
abbrev jO:Stmt:=top 50
abbrev jJ:Stmt:=top 51
abbrev lf:Stmt:=top 52
abbrev kq:Stmt:=top 53
abbrev kr:Stmt:=aQ (top 54) 0
abbrev ii:Stmt:=aQ (top 54) 1
abbrev jK:Stmt:=aQ (top 54) 2
abbrev jP:Stmt:=aQ (top 54) 3
abbrev j9:Stmt:=aQ (top 54) 4
abbrev jT:Stmt:=top 56
abbrev j':Stmt:=top 58
abbrev jU:Stmt:=top 60
abbrev ka:Stmt:=top 62
abbrev kT:Stmt:=top 63
abbrev kK:Stmt:=top 64
abbrev kL:Stmt:=top 65
abbrev ib:Stmt:=top 66
abbrev ie:Stmt:=top 67
abbrev kx:Stmt:=top 68
abbrev kA:Stmt:=top 69
abbrev kU:Stmt:=top 70
abbrev e9:Stmt:=top 71
abbrev Ns (K:W.Frag) (x:Str) (v:Option Value):Prop:=W.nsIn K mainGlobals x=some v
abbrev No (K:W.Frag) (C:Addr) (x:Str):Prop:=W.findIn K (.ref C) x=some none
def FnA (K:W.Frag) (x q:Str) (st:Stmt) (dv:Value) (f:Addr):Prop:=∃ oc od kV dc pm an cd ct sl,K.lookup f=some ⟨oc,od,.func (W.fnOf x q (cx st) (bO st) (aj st) dv kV dc pm an cd ct),sl⟩/\W.codeIn K cd q=true/\W.keepIn K (.ref f)=true
def Dn (K:W.Frag) (x:Str) (st:Stmt) (f:Addr):Prop:=Ns K x (some (.ref f))/\FnA K x x st .none f
def Mn (K:W.Frag) (C:Addr) (x q:Str) (st:Stmt) (f:Addr):Prop:=W.findIn K (.ref C) x=some (some (.ref f))/\W.isFn K (.ref f)=true/\FnA K x q st .none f
def Md (K:W.Frag) (C:Addr) (x q:Str) (st:Stmt) (i:Int) (f:Addr):Prop:=W.findIn K (.ref C) x=some (some (.ref f))/\W.isFn K (.ref f)=true/\∃ d tk n oc od sl,FnA K x q st (.ref d) f/\K.lookup d=some ⟨oc,od,.seq #[.int i tk] n,sl⟩
def Cn (K:W.Frag) (x:Str) (C:Addr):Prop:=Ns K x (some (.ref C))/\W.plainGet K C Str.empty=true/\W.hasDictIn K C=true/\W.plainOver K C=true/\W.findIn K (.ref C) "__setattr__"=some (some (.builtin "object.__setattr__"))/\W.makesIn K C=true/\W.keepIn K (.ref C)=true
theorem FnA.of {K:W.Frag}{x q:Str}{st:Stmt}{dv oc kV dc pm cd ct:Value}{f:Addr}{od an:Option Addr}{sl:Array (Option Value)}(l:K.lookup f=some ⟨oc,od,.func (W.fnOf x q (cx st) (bO st) (aj st) dv kV dc pm an cd ct),sl⟩) (c:W.codeIn K cd q=true) (k:W.keepIn K (.ref f)=true):FnA K x q st dv f:=⟨_,_,_,_,_,_,_,_,_,l,c,k⟩
theorem Md.of {K:W.Frag}{C d f:Addr}{x q:Str}{st:Stmt}{i:Int}{tk:Tok}{n:Nat}{oc:Value}{od:Option Addr}{sl:Array (Option Value)}(a:W.findIn K (.ref C) x=some (some (.ref f))) (b:W.isFn K (.ref f)=true) (c:FnA K x q st (.ref d) f) (l:K.lookup d=some ⟨oc,od,.seq #[.int i tk] n,sl⟩):Md K C x q st i f:=⟨a,b,d,tk,n,oc,od,sl,c,l⟩
def Fx (K:W.Frag):Prop:=∀ R:Prop,(∀ {fr fb f1 f2 f3 f4 f5 frk fig ftk fwo ffg fnb fro fwt frd fnw fcw fls ftt fra fnu fnf fca fbx fta flo flt fld flx flk fla flw fwi fwm fwq fwu fwz fwe fwh fwb fww fyi fyz fyh fys fya fye fyu fyo fyd fpi fpw fui fuk fub fud ful fuh fut fuz fdi fds fda fdw fdc fni C_Wood C_Layers C_Pairs C_Typist C_Desk C_NoWord C_Twice C_Absent C_NoSign C_NoChoice C_NoRow C_Beside C_NoText C_AheadError:Addr}{tk_MOST_SIGNS tk_MOST_PARTS tk_MOST_LETTERS tk_MOST_FIGURES tk_ROW_FIGURES tk_MOST_COUNT tk_MOST_NUMBER:Tok},Cn K "Wood" C_Wood->Mn K C_Wood "__init__" "Wood.__init__" kj fwi->Mn K C_Wood "mark_of" "Wood.mark_of" jS fwm->Mn K C_Wood "put" "Wood.put" ig fwq->Md K C_Wood "use" "Wood.use" kF 1 fwu->Mn K C_Wood "strike" "Wood.strike" j5 fwz->Mn K C_Wood "era" "Wood.era" kG fwe->Mn K C_Wood "has" "Wood.has" kH fwh->Mn K C_Wood "begun" "Wood.begun" ke fwb->Mn K C_Wood "words" "Wood.words" kf fww->No K C_Wood "marks"->No K C_Wood "now"->Cn K "Layers" C_Layers->Mn K C_Layers "__init__" "Layers.__init__" j6 fyi->Mn K C_Layers "strike" "Layers.strike" jL fyz->Mn K C_Layers "hide" "Layers.hide" j7 fyh->Mn K C_Layers "show" "Layers.show" j8 fys->Mn K C_Layers "all_told" "Layers.all_told" jH fya->Mn K C_Layers "is_seen_of_house" "Layers.is_seen_of_house" jE fye->Md K C_Layers "use" "Layers.use" kg 1 fyu->Mn K C_Layers "own_words" "Layers.own_words" jG fyo->Mn K C_Layers "hidden" "Layers.hidden" jM fyd->No K C_Layers "house"->No K C_Layers "own"->No K C_Layers "veiled"->Cn K "Pairs" C_Pairs->Mn K C_Pairs "__init__" "Pairs.__init__" kb fpi->Mn K C_Pairs "worth_of" "Pairs.worth_of" jI fpw->No K C_Pairs "marks"->No K C_Pairs "now"->Cn K "Typist" C_Typist->Mn K C_Typist "__init__" "Typist.__init__" jX fui->Mn K C_Typist "key" "Typist.key" ia fuk->Mn K C_Typist "back" "Typist.back" jY fub->Mn K C_Typist "typed" "Typist.typed" jQ fud->Mn K C_Typist "line" "Typist.line" jZ ful->Mn K C_Typist "last_chosen" "Typist.last_chosen" jF fuh->Mn K C_Typist "told" "Typist.told" j3 fut->Mn K C_Typist "take" "Typist.take" j4 fuz->No K C_Typist "layers"->No K C_Typist "many"->No K C_Typist "pairs"->No K C_Typist "text"->No K C_Typist "chosen"->Cn K "Desk" C_Desk->Mn K C_Desk "__init__" "Desk.__init__" kr fdi->Mn K C_Desk "say" "Desk.say" ii fds->Mn K C_Desk "say_alone" "Desk.say_alone" jK fda->Mn K C_Desk "say_with" "Desk.say_with" jP fdw->Mn K C_Desk "change" "Desk.change" j9 fdc->No K C_Desk "house"->No K C_Desk "layers"->No K C_Desk "typist"->Ns K "NoWord" (some (.ref C_NoWord))->Ns K "Twice" (some (.ref C_Twice))->Ns K "Absent" (some (.ref C_Absent))->Ns K "NoSign" (some (.ref C_NoSign))->Ns K "NoChoice" (some (.ref C_NoChoice))->Ns K "NoRow" (some (.ref C_NoRow))->Ns K "Beside" (some (.ref C_Beside))->Ns K "NoText" (some (.ref C_NoText))->Ns K "AheadError" (some (.ref C_AheadError))->Mn K C_NoText "__init__" "NoText.__init__" jW fni->Dn K "rank_key" kC fr->Dn K "best_of" kP fb->Dn K "is_letter" ki f1->Dn K "is_part" kQ f2->Dn K "is_word" kR f3->Dn K "worth_at" kD f4->Dn K "used_mark" wW f5->Dn K "ranked_key" kc frk->Dn K "is_sign" kS fig->Dn K "told_key" kE ftk->Dn K "with_own" kI fwo->Dn K "is_figure" km ffg->Dn K "number_of" kn fnb->Dn K "rated_of" kJ fro->Dn K "wood_texts" kh fwt->Dn K "read_wood" ko frd->Dn K "number_within" jO fnw->Dn K "count_and_word" jJ fcw->Dn K "listed" lf fls->Dn K "told_text" kq ftt->Dn K "rated_around" jT fra->Dn K "uses_needed" j' fnu->Dn K "fades_needed" jU fnf->Dn K "_law_cell_at" ka fca->Dn K "_law_box" kT fbx->Dn K "_law_take" kK fta->Dn K "_law_word" kL flo->Dn K "_law_typing" ib flt->Dn K "_law_words" ie fld->Dn K "_law_texts" kx flx->Dn K "_law_kinds" kA flk->Dn K "_law_all" kU fla->Dn K "law" e9 flw->Ns K "len" none->Ns K "range" none->Ns K "all" none->Ns K "sorted" none->Ns K "isinstance" none->Ns K "int" none->Ns K "str" none->Ns K "list" none->Ns K "max" none->Ns K "enumerate" none->Ns K "ValueError" none->W.kitOne K (.type "str") (.type "str")=some true->Ns K "MOST_SIGNS" (some (.int 24 tk_MOST_SIGNS))->Ns K "MOST_PARTS" (some (.int 4 tk_MOST_PARTS))->Ns K "MOST_LETTERS" (some (.int 12 tk_MOST_LETTERS))->Ns K "MOST_FIGURES" (some (.int 15 tk_MOST_FIGURES))->Ns K "ROW_FIGURES" (some (.int 10 tk_ROW_FIGURES))->Ns K "MOST_COUNT" (some (.int 1000000000 tk_MOST_COUNT))->Ns K "MOST_NUMBER" (some (.int 9999999999 tk_MOST_NUMBER))->aV K C_NoWord none=true->aV K C_Twice none=true->aV K C_Absent none=true->aV K C_NoSign none=true->aV K C_NoChoice none=true->aV K C_NoRow none=true->aV K C_Beside none=true->aV K C_NoText (some (.ref fni))=true->W.findIn K (.ref C_NoText) "row"=some none->W.specialIn K (.ref C_AheadError) "__getattribute__"=some (some (.builtin "type.__getattribute__"))->W.readsIn K C_AheadError (.type "type")=true->W.findCls K (.ref C_AheadError) (.type "type") "__init__"=some (.val (.builtin "ValueError.__init__"))->nZ K C_AheadError [C_NoSign,C_NoChoice,C_Twice,C_NoWord,C_Absent,C_Beside,C_NoText,C_NoRow]=true->R)->R
noncomputable def pick {α:Type}:List Nat->Nat->List α->List α
 |_,_,[]=>[]
 |[],_,l=>l
 |k::ks,i,x::l=>if i=k then pick ks (i+1) l else x::pick (k::ks) (i+1) l
noncomputable def fD:Program:={ PySem.Challenge.pw_aheadword_k62_refusals_apart with main:={ PySem.Challenge.pw_aheadword_k62_refusals_apart.main with body:=pick [1,11,16,26,29,33,35,38,45,55,61] 0 PySem.Challenge.pw_aheadword_k62_refusals_apart.main.body } }
section
open PySem.W PyProof.Rows
abbrev dJ (l:List Value):Obj:=⟨.type "tuple",none,.seq ⟨l⟩ 0,⟨[]⟩⟩
abbrev cZ (c:Value) (l:List Value):Obj:=⟨c,none,.fields ⟨l⟩,⟨[]⟩⟩
abbrev I (i:Nat):Value:=.int i 0
abbrev uH:Str:="/claim/cut.py"
noncomputable def txE:List Str->Nat->List Value
 |[],_=>[]
 |x::l,k=>.str x k::txE l (k+1)
noncomputable def m7 (x q:Str) (line argc fl:Nat) (f:Bool) (n k k':Nat) (a b c:Value):Obj :=
 cZ (.type "code") [.str x k,.str q (k+1),.str uH (k+2),I line,I argc,I 0,I 0,I fl,.ref n,.bool f,I 181,.ref (n+1),.none,a,b,c,I k',I line,.str uH (k'+1)]
abbrev uI (c:Value) (d:FuncData):Obj:=⟨c,none,.func d,⟨[]⟩⟩
structure Bd where
 o:List Obj
 n:Nat
 k:Nat
 t:List Value
 g:List DictEntry
noncomputable def cJ (P:Params) (x:Str) (k:Nat) (v:Value):DictEntry:=⟨PyData.keyHash P x,.str x k,v⟩
noncomputable def dfl:List Expr->Nat->List Value
 |.Constant (.int i) _ _::l,k=>.int i k::dfl l (k+1)
 |_,_=>[]
def fnE (P:Params) (m:Value) (c:Str):Stmt->Bd->Bd
 |.FunctionDef x a b _ _ _ sc _ _ pos,⟨o,n,k,t,g⟩ =>
  let q:=c++x
  let z:=match a.defaults with
   |[]=>(o,n,k,Value.none)
   |l=>(dJ (dfl l k)::o,n+1,k+l.length,.ref n)
  match z with
  |(o,n,k,dv) =>
  let fd:FuncData:=⟨x,q,a,.stmts b,sc,0,[],.none,.none,.none,.none,none,.none,.none,0⟩
  let o:=cZ .none []::dJ []::o
  let r:=match localNames a sc (.stmts b) with
   |some (l,_)=>(dJ []::dJ (txE l (k+3))::o,n+4,k+3+l.length,Value.ref (n+2),Value.ref (n+3))
   |none=>(o,n+2,k+3,.none,.none)
  match r with
  |(o,e,k',u,v) =>
   ⟨uI (.type "function") ⟨x,q,a,.stmts b,sc,3,[],dv,.none,.none,m,none,.ref (e+1),.none,0⟩ ::
    m7 x q pos.line a.args.length 3 true n k k' u v (.ref e)::uI .none fd::o,e+3,k'+3,.ref (e+1)::I pos.col::I pos.line::t,cJ P x (k'+2) (.ref (e+2))::g⟩
 |_,b=>b
def uJ (P:Params) (m:Value) (c:Str):List Stmt->Bd->Bd
 |[],b=>b
 |s::l,b=>uJ P m c l (fnE P m c s b)
structure Gl where
 b:Bd
 m:Value
 c:List (Str×List Value)
 s:List Value
def tf (l:List DictEntry) (c:Nat):Obj:=⟨.type "dict",none,.dict ⟨l⟩ c,⟨[]⟩⟩
def n0 (P:Params) (x:Str) (bases:List Value) (mro:List Value) (root own:Bool) (nw:String) (body:List Stmt) (st:List Str) (pos:Pos) (m:Value):Bd->Bd
 |⟨o,n,k,t,g⟩ =>
  let r:=uJ P m (x ++ ".") body ⟨[],n+7,k+12,[],[cJ P "__firstlineno__" (k+11) (.int pos.line (k+10)),cJ P "__qualname__" (k+9) (.str x (k+8)),cJ P "__module__" (k+7) m]⟩
  match r with
  |⟨fo,e,j,ct,cg⟩ =>
  let j1:=j+st.length
  let g0:=cJ P "__static_attributes__" j1 (.ref e)::cg
  let d:=e+1
  let y:=e+2
  let j2:=j1+1
  let z:=match own,root with
   |true,_=>([cZ (.type "getset_descriptor") [.str "__weakref__" (j2+2),.ref y,.builtin "ExceptionGroup.__weakref__",.none],cZ (.type "getset_descriptor") [.str "__dict__" j2,.ref y,.builtin "function.__dict__",.builtin "function.__dict__#set"]],y+3,j2+4,
     [cJ P "__weakref__" (j2+3) (.ref (y+2)),cJ P "__dict__" (j2+1) (.ref (y+1))])
   |false,true=>([cZ (.type "getset_descriptor") [.str "__weakref__" j2,.ref y,.builtin "ExceptionGroup.__weakref__",.none]],y+2,j2+2,[cJ P "__weakref__" (j2+1) (.ref (y+1))])
   |_,_=>([],y+1,j2,[])
  match z with
  |(zo,ze,zk,zg) =>
  let ns:=(cJ P "__doc__" zk .none::(zg++g0)).reverse
  ⟨cZ (.type "builtin_function_or_method") [.builtin "object.__init_subclass__",.ref y]::cZ (.type "super") [.ref y,.ref y,.ref y]::zo ++
   (⟨.type "type",none,.cls ⟨x,(if own then [.type "object"] else bases),.ref y::mro,d,x,true,[],[],false,none,false⟩,⟨[if own then none else some (.ref n),none,some (.str x k),some (.str x (k+8)),some (.builtin nw),some (.bool true)]⟩⟩ ::
    tf (ns.eraseIdx 1) (zg.length+2)::dJ (txE st j)::fo ++
   [⟨.type "frame",none,.plain,⟨[some (.ref (n+5)),some (.ref 3),some (.ref (n+2)),none,some m,none,some (.ref 0)]⟩⟩,m7 x x pos.line 0 0 false (n+3) (k+2) (k+5) .none .none .none,
    cZ .none ct.reverse,dJ [],tf g0.reverse g0.length,cZ (.type "builtin_function_or_method") [.builtin "type.__prepare__",.type "type"],dJ bases]++o),ze+2,zk+3,.ref (n+5)::I pos.col::I pos.line::t,cJ P x (zk+2) (.ref y)::g⟩
def stE (P:Params):Stmt->Gl->Gl
 |.Assign [.Name x _] (.Constant v _ _) _,⟨⟨o,n,k,t,g⟩,m,c,s⟩ =>
  let w:Value:=match v with|.int i=>.int i k|.str y=>.str y k|_=>.none
  match x==("__name__":Str) with
  |true=>⟨⟨o,n,k+2,t,g⟩,w,c,s⟩
  |false=>⟨⟨o,n,k+2,t,cJ P x (k+1) w::g⟩,m,c,s⟩
 |.ClassDef x bs _ body _ _ _ _ _ st pos,⟨b,m,c,s⟩ =>
  match bs with
  |[.Name y _]=>match c.lookup y with
   |some mro =>
    let b':=n0 P x (mro.take 1) mro false false "ValueError.__new__" body st pos m b
    let a:=match b'.g with|e::_=>e.val|[]=>.none
    ⟨b',m,(x,a::mro)::c,a::s⟩
   |none =>
    let mro:List Value:=[.type "ValueError",.type "Exception",.type "BaseException",.type "object"]
    let b':=n0 P x (mro.take 1) mro true false "ValueError.__new__" body st pos m b
    let a:=match b'.g with|e::_=>e.val|[]=>.none
    ⟨b',m,(x,a::mro)::c,s⟩
  |_=>⟨n0 P x [] [.type "object"] true true "object.__new__" body st pos m b,m,c,s⟩
 |st,⟨b,m,c,s⟩=>⟨fnE P m "" st b,m,c,s⟩
def uK (P:Params):List Stmt->Gl->Gl
 |[],g=>g
 |s::l,g=>uK P l (stE P s g)
noncomputable def IP (m:Value) (g:List DictEntry):Obj->Obj
 |⟨c,d,.dict ⟨⟨h,x,_⟩::es⟩ n,s⟩=>⟨c,d,.dict ⟨⟨h,x,m⟩::(es++g)⟩ (n+g.length),s⟩
 |o=>o
noncomputable def IQ (l:List Value):Obj->Obj
 |⟨c,d,.cls ⟨a1,a2,a3,a4,a5,a6,a7,_,a9,a10,a11⟩,s⟩=>⟨c,d,.cls ⟨a1,a2,a3,a4,a5,a6,a7,l,a9,a10,a11⟩,s⟩
 |o=>o
def Gu (B:List Obj) (r:Nat):Gl->List Obj
 |⟨⟨o,_,_,t,g⟩,m,_,s⟩ =>
  (B.modify 3 (IP m g.reverse)++[dJ [],cZ .none t.reverse,
   m7 "<module>" "<module>" 1 0 0 false 11 182 185 .none .none .none,⟨.type "frame",none,.plain,⟨[some (.ref 13),some (.ref 3),some (.ref 3),none,some (.str "__main__" 164),none,some (.ref 0)]⟩⟩]++o.reverse).modify r (IQ s.reverse)
def gl0:Gl:=⟨⟨[],15,187,[],[]⟩,.str "__main__" 164,[],[]⟩
noncomputable def btE:List Obj->Nat->BT->BT
 |[],_,t=>t
 |o::l,i,t=>btE l (i+1) (t.ins i o)
abbrev Pg:Program:=PySem.Challenge.pw_aheadword_k62_refusals_apart
def env0:Env:={ scope:=Pg.main.scope,locals:=mainNs,globals:=mainNs,cells:=[],code:=.ref 13,frame:=some 14 }
def cE:Code:=.body (behindTheImports Pg) env0
def oE (P:Params) (l:List Stmt):List Obj:=Gu (boot_heap P).objs.toList 31 (uK P l gl0)
abbrev p0:Pos:=⟨0,0,0,0⟩
def ST (w:World) (os:OsState) (l:List Stmt) (n k:Nat):SharedT:=⟨btE (oE w.params l) 0 .nil,n,{},⟨[]⟩,boot_drawn,k,os⟩
def SP (w:World) (os:OsState) (l:List Stmt) (k:Nat):Shared:=⟨⟨⟨oE w.params l⟩,{}⟩,⟨[]⟩,boot_drawn,k,os⟩
theorem sp0 (w:World) (os:OsState):(ST w os [] 15 187).abs=SP w os [] 187:=by kernel_rfl
theorem sp1 (w:World) (os:OsState):(ST w os (behindTheImports Pg) 789 1202).abs=SP w os (behindTheImports Pg) 1202:=by kernel_rfl
theorem seg (w:World) (os:OsState):segRunT treeTable Pg w 11 (some (.ref 6)) 1 7000 (ST w os [] 15 187) (piecesOf (behindTheImports Pg) env0 cE p0 [topFrame p0])=some (.next,ST w os (behindTheImports Pg) 789 1202,cE,⟨480,0,502,15⟩):=by
 delta piecesOf
 rw [Fast.te10110043849684766642,Fast.te14364793385576792824,Fast.te12563942051412417395];kernel_rfl
theorem IR (w:World) (os:OsState):topGo treeTable Pg w 11 (some (.ref 6)) 12 ⟨boot_heap w.params,⟨[]⟩,boot_drawn,boot_toks,os⟩ (topStub Pg)=some (SP w os [] 187,⟨denote treeTable cE,cE,p0,[topFrame p0]⟩):=by
 rw [Fast.te15667345088766844465,Fast.te14364793385576792824,Fast.te11892475500146522536];kernel_rfl
theorem run (w:World) (os:OsState):topRun treeTable Pg w 11 (some (.ref 6)) (12+(1+(7000+2))) ⟨boot_heap w.params,⟨[]⟩,boot_drawn,boot_toks,os⟩ (topStub Pg)=some (SP w os (behindTheImports Pg) 1202):=by
 refine go_top (IR w os) (piece_block (s':=SP w os [] 187) (p':=p0) (by kernel_rfl) ?_)
 have h:=segRun_of (seg w os)
 rw [sp0,sp1] at h
 have k:=piece_app (rest:=[]) h (piece_nil (N:=2) (r:=SP w os (behindTheImports Pg) 1202) (by kernel_rfl))
 rw [List.append_nil] at k
 exact k
theorem l1 (w:World) (os:OsState):(staticsOk (importedModules Pg.main.body) (boot_heap w.params) (SP w os (behindTheImports Pg) 1202).heap&&namesBound Pg (SP w os (behindTheImports Pg) 1202).heap&&gensDone (SP w os (behindTheImports Pg) 1202)&&laidKept (boot_heap w.params) (SP w os (behindTheImports Pg) 1202).heap)=true:=by kernel_rfl
theorem l2 (w:World) (os:OsState):openSeen fD [] (importedModules Pg.main.body) (λs=>xlAt fD [] s&&recOk [] s) true (SP w os (behindTheImports Pg) 1202)=openGood fD []:=by rw [Fast.te4187177175401517315];kernel_rfl
end
end My
section
open PySem PySem.W PyProof.Rows
local macro_rules|`(tactic| o_head $H)=>`(tactic| refine holds_open (q:=My.fD) (loose:=[]) (Xt:=λs=>xlAt My.fD [] s&&recOk [] s) (XP:=XL My.fD []) (Yf:=Hook.obs $H) (Ya:=Hook.val $H) (YP:=Hook.says $H) (N:=11658) ?hl (Hook.of $H) (Hook.keeps $H) (λs e=>xl_of s (Bool.and_eq_true_iff.mp e).1) XL.keeps (by rfl) (by rfl) (by rfl) (λs e=>recFacts_of (Bool.and_eq_true_iff.mp e).2) (by rfl) (by assumption) (by decide +kernel) ⟨rfl,rfl,rfl,rfl,rfl,by decide +kernel⟩ ?hw ?hc)
theorem My.pre (h:∀ P:Prop,P):PySem.Challenge.rw_aheadword_k62_refusals_apart.Holds:=by w_on;refine PySem.W.holds_law (h _) λsaid=>?_;k_head;all_goals exact h _
noncomputable def My.as:List Addr:=[2,3,15,17,18,20,21,22,29,30,31,32,35,42,43,44,47,54,55,56,59,66,67,68,71,78,79,80,83,90,91,92,95,102,103,104,107,114,116,117,119,120,121,122,123,126,133,134,135,138,140,141,143,144,145,147,148,150,151,152,154,155,157,158,159,162,163,164,166,167,169,170,171,174,175,176,179,180,181,183,184,186,187,188,190,191,193,194,195,198,199,207,209,210,212,213,214,216,217,219,220,221,222,224,225,227,228,229,231,232,234,235,236,238,239,241,242,243,246,247,248,249,250,251,252,255,257,258,260,261,262,264,265,267,268,269,271,272,274,275,283,285,286,288,289,290,292,293,295,296,297,299,300,302,303,304,306,307,309,310,311,313,314,316,317,318,320,321,323,324,325,327,328,330,331,332,335,336,337,339,340,342,343,344,345,347,348,350,351,352,353,354,355,356,366,368,369,371,372,373,375,376,378,379,380,382,383,385,386,387,388,390,391,393,394,395,397,398,400,401,402,403,405,406,408,409,410,412,413,415,416,417,419,420,422,423,424,426,427,429,430,431,434,435,436,438,439,441,442,443,446,447,448,450,451,453,454,455,457,458,460,461,462,463,464,465,466,469,472,473,481,483,484,486,487,488,490,491,493,494,495,497,498,500,501,502,504,505,507,508,509,511,512,514,515,516,518,519,521,522,523,526,527,528,530,531,533,534,535,536,538,539,541,542,543,544,546,547,549,550,551,553,554,556,557,558,560,561,563,564,565,566,567,568,569,572,574,575,577,578,579,582,583,584,586,587,589,590,591,594,595,596,598,599,601,602,603,605,606,608,609,610,612,613,615,616,617,619,620,622,623,624,626,627,629,630,638,640,641,643,644,645,647,648,650,651,652,655,656,657,659,660,662,663,664,666,667,669,670,671,673,674,676,677,678,680,681,683,684,685,686,687,688,689,692,694,695,697,698,699,701,702,704,705,706,709,710,711,714,715,716,718,719,721,722,723,725,726,728,729,730,732,733,735,736,737,739,740,742,743,744,747,748,749,751,752,754,755,756,758,759,761,762,763,765,766,768,769,770,772,773,775,776,777,779,780,782,783,784,787,788]
theorem My.obs (w:World) (os:OsState):My.as.map (My.SP w os (behindTheImports My.Pg) 1202).heap.get?=((My.pre.heap_1 w.params).map λp=>some p.2):=by kernel_rfl
theorem My.said:PySem.W.OpenLaw.wellSaid PySem.Challenge.rw_aheadword_k62_refusals_apart=true:=by kernel_rfl
local macro_rules|`(tactic| symm)=>`(tactic| ((first|delta My.Ns|delta My.No|skip);k_is))
local macro_rules|`(tactic| exfalso)=>`(tactic| (refine' My.FnA.of ?x ?y ?z;(case x=>k_is);(case y=>k_is);(case z=>k_is)))
local macro_rules|`(tactic| left)=>`(tactic| (refine' ⟨?u,?v⟩;(case u=>symm);(case v=>exfalso)))
local macro_rules|`(tactic| right)=>`(tactic| (refine' ⟨?u,?v,?w⟩;(case u=>k_is);(case v=>k_is);(case w=>exfalso)))
local macro_rules|`(tactic| ac_rfl)=>`(tactic| (refine' My.Md.of ?u ?v ?w ?x;(case u=>k_is);(case v=>k_is);(case w=>exfalso);(case x=>k_is)))
local macro_rules|`(tactic| ac_nf)=>`(tactic| (refine' ⟨?_,?_,?_,?_,?_,?_,?_⟩<;>symm))
theorem My.headL (main:∀ (q:Program) (loose:List Str) (XP:(Str->Option Value)->Heap->Prop) (YP:World->Heap->Prop) (d:DefRec) (K:Params->W.Frag),PySem.Challenge.rw_aheadword_k62_refusals_apart.most=some 63->d.params.defaults=[]->d.name="law"->(∀ (w:World) (h:Heap),YP w h->(K w.params).In h)->(∀ w:World,My.Fx (K w.params))->W.WalkO q loose XP YP PySem.Challenge.rw_aheadword_k62_refusals_apart.row.toRowW d [] (λf vs=>PySem.call f vs)):PySem.Challenge.rw_aheadword_k62_refusals_apart.Holds:=by
 w_on;refine PySem.W.holds_law My.said λsaid=>?_;o_head (kHook My.pre.heap_1 My.as (λ_=>by kernel_rfl));(case hl=>exact LeftO.of_pieces (H₁:=λP=>⟨⟨My.oE P (behindTheImports My.Pg)⟩,{}⟩) (gs₁:=⟨[]⟩) (d₁:=boot_drawn) (k₁:=1202) (boot_open (p:=My.Pg) (N:=11658) (by kernel_rfl) (by kernel_rfl) (λs=>by kernel_rfl)) (λw=>by kernel_rfl) My.run (by kernel_rfl) λw=>funext λos=>looks_pair (My.l1 w os) (looks_pair (My.l2 w os) (My.obs w os)));(case hw=>w_witness2)
 k_fill
 refine main _ _ _ _ _ _ rfl rfl rfl (λw h Y=>W.kIn_of Y) λw R hR=>?_
 exact hR (by ac_nf) (by right) (by right) (by right) (by ac_rfl) (by right) (by right) (by right) (by right) (by right) (by symm) (by symm) (by ac_nf) (by right) (by right) (by right) (by right) (by right) (by right) (by ac_rfl) (by right) (by right) (by symm) (by symm) (by symm) (by ac_nf) (by right) (by right) (by symm) (by symm) (by ac_nf) (by right) (by right) (by right) (by right) (by right) (by right) (by right) (by right) (by symm) (by symm) (by symm) (by symm) (by symm) (by ac_nf) (by right) (by right) (by right) (by right) (by right) (by symm) (by symm) (by symm) (by symm) (by symm) (by symm) (by symm) (by symm) (by symm) (by symm) (by symm) (by symm) (by right) (by left) (by left) (by left) (by left) (by left) (by left) (by left) (by left) (by left) (by left) (by left) (by left) (by left) (by left) (by left) (by left) (by left) (by left) (by left) (by left) (by left) (by left) (by left) (by left) (by left) (by left) (by left) (by left) (by left) (by left) (by left) (by left) (by left) (by symm) (by symm) (by symm) (by symm) (by symm) (by symm) (by symm) (by symm) (by symm) (by symm) (by symm) (by kit_is) (by symm) (by symm) (by symm) (by symm) (by symm) (by symm) (by symm) (by kernel_rfl) (by kernel_rfl) (by kernel_rfl) (by kernel_rfl) (by kernel_rfl) (by kernel_rfl) (by kernel_rfl) (by kernel_rfl) (by kernel_rfl) (by kernel_rfl) (by kernel_rfl) (by kernel_rfl) (by kernel_rfl)
end
namespace L2
open PySem PySem.Spec PyProof.Rows
abbrev Key:=Sum Int Str
noncomputable def fg:Key->Value->Bool
 |.inl k,v=>Value.isInt k v
 |.inr x,v=>Value.isStrOf x v
noncomputable def IS (w:World):Key->Int
 |.inl k=>hashInt k
 |.inr x=>hashStr w x
theorem cO:∀ {k:Key}{v:Value},fg k v=true->(∃ i t,k=Sum.inl i/\v=Value.int i t)\/(∃ x t,k=Sum.inr x/\v=Value.str x t)
 |.inl i,v,h=>by
  obtain ⟨t,e⟩:=Value.isInt_shape (k:=i) (v:=v) h
  exact .inl ⟨i,t,rfl,e⟩
 |.inr x,v,h=>by
  obtain ⟨t,e⟩:=Value.isStrOf_shape (x:=x) (v:=v) h
  exact .inr ⟨x,t,rfl,e⟩
theorem xY (i:Int) (t:Tok):fg (.inl i) (.int i t)=true:=by simp [fg,Value.isInt]
theorem xZ (x:Str) (t:Tok):fg (.inr x) (.str x t)=true:=by simp [fg,Value.isStrOf]
theorem C9 (a b:Int):decide ((Sum.inl a:Key)=Sum.inl b)=(a==b):=by
 by_cases e:a=b
 ·subst e;simp
 ·have h:¬ (Sum.inl a:Key)=Sum.inl b:=λq=>e (Sum.inl.inj q)
  rw [decide_eq_false h]
  exact (beq_eq_false_iff_ne.mpr e).symm
theorem Dd (a b:Str):decide ((Sum.inr a:Key)=Sum.inr b)=decide (a=b):=by
 by_cases e:a=b
 ·subst e;simp
 ·have h:¬ (Sum.inr a:Key)=Sum.inr b:=λq=>e (Sum.inr.inj q)
  rw [decide_eq_false h,decide_eq_false e]
theorem Dh (a:Int) (b:Str):decide ((Sum.inl a:Key)=Sum.inr b)=false:=decide_eq_false (λq=>nomatch q)
theorem Di (a:Str) (b:Int):decide ((Sum.inr a:Key)=Sum.inl b)=false:=decide_eq_false (λq=>nomatch q)
noncomputable def ba (prog:Program) (w:World):PySem.KeyKind prog w Key where
 is:=fg
 hash:=IS w
 inj:=λv a b ha hb=>by
  rcases cO ha with ⟨i,t,rfl,rfl⟩|⟨x,t,rfl,rfl⟩
  ·rcases cO hb with ⟨j,u,rfl,e⟩|⟨y,u,rfl,e⟩
   ·injection e with e1 _;rw [e1]
   ·exact nomatch e
  ·rcases cO hb with ⟨j,u,rfl,e⟩|⟨y,u,rfl,e⟩
   ·exact nomatch e
   ·injection e with e1 _;rw [e1]
 byValue:=λk v h=>by
  rcases cO h with ⟨i,t,rfl,rfl⟩|⟨x,t,rfl,rfl⟩<;>rfl
 pyHash:=λhv h=>by
  rcases cO hv with ⟨i,t,rfl,rfl⟩|⟨x,t,rfl,rfl⟩
  ·exact wpAny_pyHash_int h
  ·exact wpAny_pyHash_str h
 eqBool:=λhu hv h=>by
  rcases cO hu with ⟨i,t,rfl,rfl⟩|⟨x,t,rfl,rfl⟩
  ·rcases cO hv with ⟨j,u,rfl,rfl⟩|⟨y,u,rfl,rfl⟩
   ·rw [C9] at h;exact wpAny_eqBool_int h
   ·rw [Dh] at h;exact SeqAt.EqAt.int_str i t y u _ _ _ _ h
  ·rcases cO hv with ⟨j,u,rfl,rfl⟩|⟨y,u,rfl,rfl⟩
   ·rw [Di] at h;exact SeqAt.EqAt.str_int x t j u _ _ _ _ h
   ·rw [Dd] at h;exact wpAny_eqBool_str h
 «strs»:=λk x t v h=>by
  rcases cO h with ⟨i,u,rfl,e⟩|⟨y,u,rfl,e⟩
  ·exact nomatch e
  ·injection e with e1 _
   subst e1
   cases v<;>rfl
theorem wX (prog:Program) (w:World) (i:Int) (t:Tok):(ba prog w).is (.inl i) (.int i t)=true:=xY i t
theorem wY (prog:Program) (w:World) (x:Str) (t:Tok):(ba prog w).is (.inr x) (.str x t)=true:=xZ x t
inductive V where
 |non|bl (b:Bool)|int (i:Int)|str (x:Str)|byt (b:Array UInt8)|flt (b:UInt64)|ref (a:Addr)|ty (n:String)
 deriving DecidableEq
def au:V->Value->Prop
 |.non,u=>u=Value.none
 |.bl b,u=>u=Value.bool b
 |.int i,u=>∃ t,u=Value.int i t
 |.str x,u=>∃ t,u=Value.str x t
 |.byt b,u=>∃ t,u=Value.bytes b t
 |.flt b,u=>∃ t,u=Value.float b t
 |.ref a,u=>u=Value.ref a
 |.ty n,u=>u=Value.type n
abbrev ag:List V->List Value->Prop:=Paired au
theorem ag.length {xs:List V}{us:List Value}(r:ag xs us):xs.length=us.length:=Paired.length r
theorem ag.get:∀ {xs:List V}{us:List Value}{i:Nat}{x:V},ag xs us->xs[i]?=some x->∃ u,us[i]?=some u/\au x u
 |_,_,_,_,.nil,e=>by simp at e
 |_,_,0,_,.cons r _,e=>by simp at e;subst e;exact ⟨_,rfl,r⟩
 |_,_,i+1,x,.cons _ t,e=>by
  obtain ⟨u,h1,h2⟩:=ag.get (i:=i) (x:=x) t (by simpa using e)
  exact ⟨u,by simpa using h1,h2⟩
theorem ag.set {x:V}{u:Value}(r:au x u):∀ {xs:List V}{us:List Value}(i:Nat),ag xs us->ag (xs.set i x) (us.set i u)
 |_,_,_,.nil=>.nil
 |_,_,0,.cons _ t=>.cons r t
 |_,_,i+1,.cons q t=>.cons q (ag.set r i t)
theorem ag.append:∀ {xs ys:List V}{us ws:List Value},ag xs us->ag ys ws->ag (xs++ys) (us++ws)
 |_,_,_,_,.nil,s=>s
 |_,_,_,_,.cons r t,s=>.cons r (ag.append t s)
theorem ag.take:∀ {xs:List V}{us:List Value}(n:Nat),ag xs us->ag (xs.take n) (us.take n)
 |_,_,0,_=>.nil
 |_,_,_+1,.nil=>.nil
 |_,_,n+1,.cons r t=>.cons r (ag.take n t)
theorem ag.drop:∀ {xs:List V}{us:List Value}(n:Nat),ag xs us->ag (xs.drop n) (us.drop n)
 |_,_,0,r=>r
 |_,_,_+1,.nil=>.nil
 |_,_,n+1,.cons _ t=>ag.drop n t
def bG:Option V->Option Value->Prop
 |some v,some u=>au v u
 |none,none=>True
 |_,_=>False
def KV {κ:Type}:List (κ×V)->List (κ×Value)->Prop:=Paired λ(p:κ×V) (q:κ×Value)=>p.1=q.1/\au p.2 q.2
noncomputable def kV:Key->V
 |.inl i=>.int i
 |.inr x=>.str x
inductive HO where
  |lst (xs:List V)
  |tup (xs:List V)
  |dK (kvs:List (Key×V))|dT (kvs:List (List Key×V))
  |set (S:Int->Bool) (n:Nat)
  |ins (C dx:Addr) (fs:List (Str×V))
  |own (x:Addr)
  |xd (fs:List (Str×V))
  |met (f x:Addr)
  |rng (lo hi:Int)
  |frz (o:Obj) (u:HO)
  |tbl (ps:Array Value)
  |ext (φ:Heap->Prop)
abbrev Hp:=Addr->Option HO
noncomputable def upd (H:Hp) (a:Addr) (o:HO):Hp:=λb=>if b=a then some o else H b
theorem aF {H:Hp}{a:Addr}{o:HO}:upd H a o a=some o:=by unfold upd;rw [if_pos rfl]
theorem ao {H:Hp}{a b:Addr}{o:HO}(h:b≠a):upd H a o b=H b:=by unfold upd;rw [if_neg h]
theorem gi {H:Hp}{a:Addr}{o u:HO}:upd (upd H a o) a u=upd H a u:=by
 funext b;unfold upd;split<;>rfl
theorem bJ {H:Hp}{a b:Addr}{o u:HO}(h:H a=some o) (h':H b=some u) (d:o≠u):a≠b:=by
 intro e;subst e;rw [h] at h';exact d (Option.some.inj h')
theorem bt {H:Hp}{a b:Addr}{o:HO}(h:H a=some o) (h':H b=none):a≠b:=by
 intro e;subst e;rw [h] at h';cases h'
section
variable (P:Program) (w:World)
def aN (H:Hp) (h:Heap) (a:Addr):HO->Prop
 |.lst xs=>xs.length<=sizeLine/\∃ (its:List Value) (n:Nat),ag xs its/\h.get? a=some { cls:=.type "list",data:=.seq its.toArray n }
 |.tup xs=>xs.length<=sizeLine/\∃ its:List Value,ag xs its/\IsTup h a its.toArray
 |.dK kvs=>kvs.length<=sizeLine/\(a==sysModules)=false/\∃ vs,KV kvs vs/\h.DictOf (ba P w) a vs
 |.dT kvs=>kvs.length<=sizeLine/\(a==sysModules)=false/\∃ xs:List (List Key×Addr×Value),
   Paired (λ(p:List Key×V) (q:List Key×Addr×Value)=>p.1=q.1/\H q.2.1=some (.tup (p.1.map kV))/\au p.2 q.2.2) kvs xs /\
   ∃ o es ep,h.get? a=some o/\o.ExactDict/\o.data=.dict es ep/\es.toList=xs.map (entryOfKey (tupleKind (ba P w)))/\(xs.map (·.1)).Nodup
 |.set S n=>h.SetOf (intKind P w) a S n
 |.ins C dx fs=>H dx=some (.own a)/\fs.length<=1000/\dx≠a/\h.get? a=some (PySem.W.instObj C dx) /\
   ∃ mA,h.Ns1 dx mA/\(∀ f,bG (fs.lookup f) (mA f))/\PySem.Within mA (fs.map (·.1))
 |.own _=>∃ o,h.get? a=some o
 |.xd fs=>∃ mA,h.Ns1 a mA/\∀ f,bG (fs.lookup f) (mA f)
 |.rng lo hi=>∃ t u v,h.get? a=some { cls:=.type "range",data:=.fields #[.int lo t,.int hi u,.int 1 v] }
 |.frz o u=>h.get? a=some o/\aN H h a u
 |.tbl ps=>h.get? a=some { cls:=.none,data:=.fields ps }
 |.met f x=>h.get? a=some (PySem.W.methodObj (.ref f) (.ref x))
 |.ext φ=>φ h/\(∃ o,h.get? a=some o)/\∀ h1 h2:Heap,φ h1->(∀ o,h1.get? a=some o->h2.get? a=some o)->φ h2
def HOk (H:Hp) (h:Heap):Prop:=∀ a o,H a=some o->aN P w H h a o
end
section
variable {P:Program}{w:World}{H H':Hp}{h h':Heap}{a:Addr}{o:HO}
theorem aN.lt (x:aN P w H h a o):a<h.objs.size:=by
 cases o with
 |lst xs=>obtain ⟨_,_,_,_,e⟩:=x;exact Heap.lt_size e
 |tup xs=>obtain ⟨_,_,_,p⟩:=x;exact p.lt
 |dK kvs=>obtain ⟨_,_,_,_,o,_,_,e,_⟩:=x;exact Heap.lt_size e
 |dT kvs=>obtain ⟨_,_,_,_,o,_,_,e,_⟩:=x;exact Heap.lt_size e
 |set S n=>obtain ⟨o,_,_,_,e,_⟩:=x;exact Heap.lt_size e
 |ins C dx fs=>obtain ⟨_,_,_,e,_⟩:=x;exact Heap.lt_size e
 |own y=>obtain ⟨_,e⟩:=x;exact Heap.lt_size e
 |xd fs=>obtain ⟨_,⟨_,_,_,e,_⟩,_⟩:=x;exact Heap.lt_size e
 |rng lo hi=>obtain ⟨_,_,_,e⟩:=x;exact Heap.lt_size e
 |frz ob u=>obtain ⟨e,_⟩:=x;exact Heap.lt_size e
 |tbl ps=>exact Heap.lt_size (show h.get? a=some _ from x)
 |met f y=>exact Heap.lt_size (show h.get? a=some _ from x)
 |ext φ=>obtain ⟨_,⟨_,e⟩,_⟩:=x;exact Heap.lt_size e
theorem Paired.mapP {α β:Type}{F G:α->β->Prop}:∀ {l₁:List α}{l₂:List β},Paired F l₁ l₂->(∀ a b,F a b->G a b)->Paired G l₁ l₂
 |_,_,.nil,_=>.nil
 |_,_,.cons r t,f=>.cons (f _ _ r) (Paired.mapP t f)
theorem aN.stay (x:aN P w H h a o) (k:∀ b u,(b=a\/H b=some (.own a))->h.get? b=some u->h'.get? b=some u)
  (ho:∀ b,H b=some (.own a)->H' b=some (.own a)) (ht:∀ b xs,H b=some (.tup xs)->H' b=some (.tup xs)):aN P w H' h' a o:=by
 induction o with
 |lst xs=>obtain ⟨z,its,n,r,e⟩:=x;exact ⟨z,its,n,r,k _ _ (.inl rfl) e⟩
 |tup xs=>obtain ⟨z,its,r,ob,e,c⟩:=x;exact ⟨z,its,r,ob,k _ _ (.inl rfl) e,c⟩
 |dK kvs=>obtain ⟨z,y,vs,r,ob,es,ep,e,c⟩:=x;exact ⟨z,y,vs,r,ob,es,ep,k _ _ (.inl rfl) e,c⟩
 |dT kvs =>
  obtain ⟨z,y,xs,r,ob,es,ep,e,c⟩:=x
  exact ⟨z,y,xs,Paired.mapP r λp q z=>⟨z.1,ht _ _ z.2.1,z.2.2⟩,ob,es,ep,k _ _ (.inl rfl) e,c⟩
 |set S n=>obtain ⟨ob,es,ep,t,e,c⟩:=x;exact ⟨ob,es,ep,t,k _ _ (.inl rfl) e,c⟩
 |ins C dx fs =>
  obtain ⟨d,z,ne,e,mA,⟨od,es,ep,e2,c⟩,r⟩:=x
  exact ⟨ho _ d,z,ne,k _ _ (.inl rfl) e,mA,⟨od,es,ep,k _ _ (.inr d) e2,c⟩,r⟩
 |own y=>obtain ⟨ob,e⟩:=x;exact ⟨ob,k _ _ (.inl rfl) e⟩
 |xd fs=>obtain ⟨mA,⟨od,es,ep,e,c⟩,r⟩:=x;exact ⟨mA,⟨od,es,ep,k _ _ (.inl rfl) e,c⟩,r⟩
 |rng lo hi=>obtain ⟨t,u,v,e⟩:=x;exact ⟨t,u,v,k _ _ (.inl rfl) e⟩
 |frz ob u ih=>obtain ⟨e,q⟩:=x;exact ⟨k _ _ (.inl rfl) e,ih q⟩
 |tbl ps =>
  have e:h.get? a=some { cls:=.none,data:=.fields ps }:=x
  show h'.get? a=some { cls:=.none,data:=.fields ps }
  exact k a _ (.inl rfl) e
 |met f y =>
  have e:h.get? a=some (PySem.W.methodObj (.ref f) (.ref y)):=x
  show h'.get? a=some (PySem.W.methodObj (.ref f) (.ref y))
  exact k a _ (.inl rfl) e
 |ext φ=>obtain ⟨p,⟨o,e⟩,st⟩:=x;exact ⟨st _ _ p λo q=>k _ _ (.inl rfl) q,⟨o,k _ _ (.inl rfl) e⟩,st⟩
theorem HOk.lt (x:HOk P w H h) (e:H a=some o):a<h.objs.size:=(x a o e).lt
theorem HOk.fresh (x:HOk P w H h) (e:h.objs.size<=a):H a=none:=by
 cases q:H a with
 |none=>rfl
 |some u=>exact absurd (Nat.lt_of_lt_of_le (x.lt q) e) (Nat.lt_irrefl _)
theorem HOk.kept (x:HOk P w H h) (k:∀ b u,h.get? b=some u->h'.get? b=some u):HOk P w H h':=λa o e =>
 (x a o e).stay (λb u _ q=>k b u q) (λ_ q=>q) λ_ _ q=>q
theorem HOk.laid (x:HOk P w H h) (k:∀ b u,h.get? b=some u->h'.get? b=some u) (hp:h.objs.size<=a) (new:aN P w (upd H a o) h' a o):HOk P w (upd H a o) h':=λb u e=>by
 have hn:=x.fresh hp
 by_cases hb:b=a
 ·subst hb;rw [aF] at e;cases e;exact new
 ·rw [ao hb] at e
  exact (x b u e).stay (λc v _ q=>k c v q) (λc q=>by rw [ao (bt q hn)];exact q) λc xs q=>by rw [ao (bt q hn)];exact q
end
def Rd (H:Hp) (a:Addr) (u:HO):Prop:=H a=some u\/∃ o,H a=some (.frz o u)
theorem Rd.ok {P:Program}{w:World}{H:Hp}{h:Heap}{a:Addr}{u:HO}(r:Rd H a u) (x:HOk P w H h):aN P w H h a u:=by
 rcases r with r|⟨o,r⟩
 ·exact x a u r
 ·obtain ⟨_,q⟩:=x a _ r
  exact q
def Mut:Option HO->Prop
 |some (.lst _)=>True
 |some (.dK _)=>True
 |some (.dT _)=>True
 |some (.set _ _)=>True
 |some (.ins _ _ _)=>True
 |some (.ext _)=>True
 |_=>False
section
variable {P:Program}{w:World}{H:Hp}{h h':Heap}{x e:Addr}{o':HO}
theorem HOk.write (ok:HOk P w H h) (mu:Mut (H x)) (he:e=x\/H e=some (.own x)) (k:∀ b u,b≠e->h.get? b=some u->h'.get? b=some u) (heo:∃ u,h'.get? e=some u)
  (new:aN P w (upd H x o') h' x o'):HOk P w (upd H x o') h':=λb u q=>by
 have nown:∀ c y,H c=some (.own y)->c≠x:=λc y r z=>by subst z;rw [r] at mu;exact mu
 have ntup:∀ c xs,H c=some (.tup xs)->c≠x:=λc xs r z=>by subst z;rw [r] at mu;exact mu
 by_cases hb:b=x
 ·subst hb;rw [aF] at q;cases q;exact new
 ·rw [ao hb] at q
  by_cases PZ:b=e
  ·have q':H b=some (.own x):=by
    rcases he with z|z
    ·exact absurd (PZ.trans z) hb
    ·rw [PZ];exact z
   rw [q] at q';cases q'
   obtain ⟨v,hv⟩:=heo
   exact ⟨v,by rw [PZ];exact hv⟩
  ·refine (ok b u q).stay (λc v hc r=>k c v ?_ r) (λc r=>by rw [ao (nown c b r)];exact r) λc xs r=>by rw [ao (ntup c xs r)];exact r
   rcases hc with rfl|hc
   ·exact PZ
   ·rintro rfl
    rcases he with z|z
    ·exact nown c b hc z
    ·rw [hc] at z;cases z;exact hb rfl
end
structure Un (fs ex:List Addr) (H H':Hp) (h h':Heap):Prop where
 keep:∀ b o,h.get? b=some o->H b=none->b∉fs->b∉ex->h'.get? b=some o
 slot:∀ b o,h.get? b=some o->H b=none->b∈fs->b∉ex->∃ sl,h'.get? b=some { o with slots:=sl }
 free:∀ b o,h.get? b=some o->H b=none->b∉ex->H' b=none
 there:∀ b o,h.get? b=some o->b∉ex->∃ o',h'.get? b=some o'
 tups:∀ b xs,H b=some (.tup xs)->H' b=some (.tup xs)
 frzs:∀ b o u,H b=some (.frz o u)->H' b=some (.frz o u)
 tbls:∀ b ps,H b=some (.tbl ps)->∃ more,H' b=some (.tbl (ps++more))
section
variable {fs Mh ex ex':List Addr}{H H1 H2:Hp}{h h1 h2 h':Heap}{a x e:Addr}{o:HO}
theorem Un.any (u:Un fs ex H H1 h h1){b:Addr}{ob:Obj}(q:h.get? b=some ob) (n:H b=none) (hx:b∉ex):∃ sl,h1.get? b=some { ob with slots:=sl }:=by
 by_cases hb:b∈fs
 ·exact u.slot b ob q n hb hx
 ·exact ⟨ob.slots,u.keep b ob q n hb hx⟩
theorem Un.kept (k:∀ b u,h.get? b=some u->h'.get? b=some u):Un fs ex H H h h' :=
 ⟨λb ob q _ _ _=>k b ob q,λb ob q _ _ _=>⟨ob.slots,k b ob q⟩,λ_ _ _ n _=>n,λb ob q _=>⟨ob,k b ob q⟩,λ_ _ q=>q,λ_ _ _ q=>q,λ_ ps q=>⟨#[],by rw [q];simp⟩⟩
theorem Un.refl:Un fs ex H H h h:=Un.kept λ_ _ q=>q
theorem Un.laid (k:∀ b u,h.get? b=some u->h'.get? b=some u) (hp:h.objs.size<=a) (hn:H a=none):Un fs ex H (upd H a o) h h' where
 keep:=λb u q _ _ _=>k b u q
 slot:=λb u q _ _ _=>⟨u.slots,k b u q⟩
 free:=λb u q n _=>by rw [ao (Nat.ne_of_lt (Nat.lt_of_lt_of_le (Heap.lt_size q) hp))];exact n
 there:=λb u q _=>⟨u,k b u q⟩
 tups:=λb xs q=>by rw [ao (bt q hn)];exact q
 frzs:=λb u xs q=>by rw [ao (bt q hn)];exact q
 tbls:=λb ps q=>⟨#[],by rw [ao (bt q hn),q];simp⟩
theorem Un.write (mu:Mut (H x)) (he:e=x\/H e=some (.own x)) (k:∀ b u,b≠e->h.get? b=some u->h'.get? b=some u) (heo:∃ u,h'.get? e=some u):Un fs ex H (upd H x o) h h':=by
 have hx:∀ b,H b=none->b≠x:=λb n z=>by subst z;rw [n] at mu;exact mu
 have hb:∀ b,H b=none->b≠e:=λb n z=>by
  subst z
  rcases he with r|r
  ·exact hx b n r
  ·rw [n] at r;cases r
 have hm:∀ b u,H b=some u->¬ Mut (some u)->b≠x:=λb u q nm z=>by subst z;rw [q] at mu;exact nm mu
 refine ⟨λb u q n _ _=>k b u (hb b n) q,λb u q n _ _=>⟨u.slots,k b u (hb b n) q⟩,λb u q n _=>by rw [ao (hx b n)];exact n,λb u q _=>?_,
  λb xs q=>by rw [ao (hm b _ q λz=>z)];exact q,λb u xs q=>by rw [ao (hm b _ q λz=>z)];exact q,λb ps q=>⟨#[],by rw [ao (hm b _ q λz=>z),q];simp⟩⟩
 by_cases PZ:b=e
 ·subst PZ;exact heo
 ·exact ⟨u,k b u PZ q⟩
end
noncomputable def trk (h:Heap) (H:Hp):List Addr:=(List.range h.objs.size).filter λa=>(H a).isSome
def dj (h:Heap) (H:Hp):Heap:=PySem.W.hideAll h (trk h H)
theorem x5 (h:Heap) (H:Hp):(dj h H).objs.size=h.objs.size:=PySem.W.hideAll_size _ _
theorem zb {h:Heap}{H:Hp}{b:Addr}{o:Obj}(e:h.get? b=some o) (n:H b=none):(dj h H).get? b=some o :=
 PySem.W.hideAll_get _ e λhm=>by
  have q:(H b).isSome=true:=(List.mem_filter.mp hm).2
  rw [n] at q;simp at q
theorem AT {h:Heap}{H:Hp}{b:Addr}{o:Obj}(e:(dj h H).get? b=some o):h.get? b=some o/\H b=none:=by
 have e':h.get? b=some o:=PySem.W.of_hideAll (trk h H) e
 refine ⟨e',?_⟩
 cases q:H b with
 |none=>rfl
 |some x =>
  have hm:b∈trk h H:=List.mem_filter.mpr ⟨List.mem_range.mpr (Heap.lt_size e'),by simp [q]⟩
  have z:(dj h H).get? b=none:=PySem.W.hideAll_none (trk h H) hm
  rw [z] at e;cases e
noncomputable def AU (g h:Heap) (L:Addr):List (Addr×Obj):=(List.range h.objs.size).filterMap λa=>if a=L\/(g.get? a).isSome=true then none else (h.get? a).map λo=>(a,o)
def rest (g h:Heap) (L d:Addr):List (Addr×Obj):=(AU g h L).filter λp=>decide (p.1≠d)
structure Mod (K:PySem.W.Frag) (mg:Str->Option Value) (base:Heap):Prop where
 kin:K.In base
 glob:base.Ns mainGlobals mg
 blt:∃ mb,base.Ns builtinsNs mb/\∀ x:Str,x ≠ "__name__"->mb x=bootBuiltins x
 nolimit:base.NoLimit
structure Cx where
 prog:Program
 w:World
 K:PySem.W.Frag
 mg:Str->Option Value
 base:Heap
 A:Around
 N:List Str
 s₀:Shared
 H₀:Hp
 env:Env
 outer:List Env
 stack:List Env
 ex:List Addr
 fn:Str->Bool
 calm:Bool
 pn:List (Addr×Obj)
 xe:Value->Shared->Prop
def frs (l:List Env):List Addr:=l.filterMap (·.frame)
abbrev Cx.fs (X:Cx):List Addr:=frs X.outer
def Vis (sc:Scope) (x:Str):Prop:=sc.names.lookup x=some .local\/sc.names.lookup x=some .cell\/sc.names.lookup x=some .free
def Loc (sc:Scope) (x:Str):Prop:=sc.names.lookup x=some .local\/sc.names.lookup x=some .cell
def IT (env:Env) (h:Heap) (m:Str->Option Value) (x:Str) (u:Value):Prop :=
 (env.kindOf x=some .local/\m x=some u)\/((env.kindOf x=some .cell\/env.kindOf x=some .free)/\∃ c,env.cells.lookup x=some c/\h.IsCell c (some u))
structure Cx.Ok (X:Cx):Prop where
 mod:Mod X.K X.mg X.base
 kind:X.env.scope.kind=.function
 glob:X.env.globals=mainGlobals
 blt:X.env.builtins=builtinsNs
 above:X.s₀.heap.objs.size<=X.env.locals
 inj:∀ x y c,X.env.cells.lookup x=some c->X.env.cells.lookup y=some c->x=y
 has:∀ x,(X.env.kindOf x=some .cell\/X.env.kindOf x=some .free)->∃ c,X.env.cells.lookup x=some c
 cab:∀ x c,X.fn x=true->X.env.cells.lookup x=some c->X.s₀.heap.objs.size<=c
 hd:X.calm=true->X.A.handled=none
 frames:X.A.frames=some X.stack
 stk:X.stack=X.outer\/(X.stack=X.env::X.outer/\X.env.frame=some X.env.locals)
 exf:∀ b∈X.ex,b≠X.env.locals/\∀ x c,X.env.cells.lookup x=some c->c≠b
 bs:∀ b o,X.base.get? b=some o->X.s₀.heap.get? b=some o/\X.H₀ b=none
 bsz:X.base.objs.size<=X.s₀.heap.objs.size
 noex:∀ b o,X.base.get? b=some o->b∉X.ex
 exfs:∀ b∈X.ex,b∉X.fs
 funs:X.s₀.heap.FunFrames X.base X.outer
 frf:∀ b∈X.fs,X.H₀ b=none
structure Inv (X:Cx) (pins:List (Addr×Obj)) (U:List (Option V)) (H:Hp) (s:Shared):Prop where
 ok:X.Ok
 os:s.os=X.s₀.os
 bare:AllBare s.gens
 base:Un X.fs X.ex X.H₀ H X.s₀.heap s.heap
 loc:∃ m,s.heap.Ns X.env.locals m/\∀ (i:Nat) (x:Str) (v:V),X.N[i]?=some x->U[i]?=some (some v)->Vis X.env.scope x->∃ u,au v u/\IT X.env s.heap m x u
 cell:∀ x c,X.env.cells.lookup x=some c->∃ v,s.heap.IsCell c v
 free:H X.env.locals=none
 freeC:∀ x c,X.env.cells.lookup x=some c->H c=none
 pin:∀ p∈X.pn++pins,s.heap.get? p.1=some p.2/\H p.1=none/\p.1≠X.env.locals/\p.1∉X.fs/\∀ v,p.2.data≠.cell v
 hok:HOk X.prog X.w H s.heap
 len:U.length=X.N.length
section
variable {X:Cx}{pins:List (Addr×Obj)}{U:List (Option V)}{H H':Hp}{s:Shared}{h':Heap}
theorem Cx.Ok.nofr (ok:X.Ok){b:Addr}{o:Obj}(e:X.base.get? b=some o):b∉X.fs:=λhb=>by
 have:=(ok.funs.mem hb).1
 rw [e] at this;cases this
theorem Inv.bs (I:Inv X pins U H s):∀ b o,X.base.get? b=some o->s.heap.get? b=some o/\H b=none:=λb o e =>
 ⟨I.base.keep b o (I.ok.bs b o e).1 (I.ok.bs b o e).2 (I.ok.nofr e) (I.ok.noex b o e),I.base.free b o (I.ok.bs b o e).1 (I.ok.bs b o e).2 (I.ok.noex b o e)⟩
theorem Inv.bk (I:Inv X pins U H s):∀ b o,X.base.get? b=some o->s.heap.get? b=some o:=λb o e=>(I.bs b o e).1
theorem Inv.mod (I:Inv X pins U H s):Mod X.K X.mg X.base:=I.ok.mod
theorem Inv.kIn (I:Inv X pins U H s):X.K.In s.heap:=I.ok.mod.kin.keeps I.bk
theorem Inv.lt (I:Inv X pins U H s):X.env.locals<s.heap.objs.size:=let ⟨_,hn,_⟩:=I.loc;hn.lt
theorem Inv.sz (I:Inv X pins U H s):X.s₀.heap.objs.size<=s.heap.objs.size:=Nat.le_trans I.ok.above (Nat.le_of_lt I.lt)
theorem Inv.nofs (I:Inv X pins U H s){a:Addr}(h:s.heap.objs.size<=a):a∉X.fs:=λhb=>by
 obtain ⟨_,o,ho,_⟩:=I.ok.funs.mem hb
 exact absurd (Nat.lt_of_lt_of_le (Heap.lt_size ho) (Nat.le_trans I.sz h)) (Nat.lt_irrefl _)
theorem Inv.cne (I:Inv X pins U H s):∀ x c,X.env.cells.lookup x=some c->c≠X.env.locals:=λx c e z=>by
 obtain ⟨v,o,ho,hd⟩:=I.cell x c e
 obtain ⟨m,⟨o',es,ep,Oz,hd',_⟩,_⟩:=I.loc
 rw [z,Oz] at ho;cases ho;rw [hd'] at hd;cases hd
theorem Inv.funs (I:Inv X pins U H s):s.heap.FunFrames X.base X.outer:=by
 have all:∀ (l:List Env),(∀ b∈frs l,b∈X.fs)->X.s₀.heap.FunFrames X.base l->s.heap.FunFrames X.base l:=by
  intro l
  induction l with
  |nil=>intro _ _;trivial
  |cons env r ih =>
   intro hs hl
   obtain ⟨hk,⟨L,o,hf,hn,ho,hd⟩,hr⟩:=hl
   have hL:L∈X.fs:=hs L (by unfold frs;rw [List.filterMap_cons,hf];exact List.mem_cons_self)
   obtain ⟨sl,e⟩:=I.base.slot L o ho (I.ok.frf L hL) hL λz=>I.ok.exfs L z hL
   exact ⟨hk,⟨L,_,hf,hn,e,hd⟩,ih (λb hb=>hs b (by unfold frs;rw [List.filterMap_cons,hf];exact List.mem_cons_of_mem _ hb)) hr⟩
 exact all X.outer (λ_ hb=>hb) I.ok.funs
theorem Inv.stack (I:Inv X pins U H s):s.heap.FunFrames X.base X.stack:=by
 rcases I.ok.stk with e|⟨e,hf⟩
 ·rw [e];exact I.funs
 ·rw [e]
  obtain ⟨m,hn,_⟩:=I.loc
  refine .cons (by rw [I.ok.kind];decide) hf hn ?_ I.funs
  exact Heap.get?_none_of_le (Nat.le_trans I.ok.bsz I.ok.above)
theorem Inv.stkSub (I:Inv X pins U H s):∀ b∈frs X.stack,b∈X.env.locals::X.fs:=λb hb=>by
 rcases I.ok.stk with e|⟨e,hf⟩
 ·rw [e] at hb;exact List.mem_cons_of_mem _ hb
 ·rw [e] at hb
  unfold frs at hb
  rw [List.filterMap_cons,hf] at hb
  exact hb
theorem Inv.stkFree (I:Inv X pins U H s):∀ b∈frs X.stack,H b=none:=λb hb=>by
 rcases List.mem_cons.mp (I.stkSub b hb) with e|hb
 ·rw [e];exact I.free
 ·obtain ⟨_,o,ho,_⟩:=I.ok.funs.mem hb
  exact I.base.free b o ho (I.ok.frf b hb) λz=>I.ok.exfs b z hb
theorem Inv.step {g':Array GenState}{t':Nat}{d':Drawn}{ch:List Addr}(I:Inv X pins U H s)
  (Na:∀ b∈ch,(b∈X.ex\/X.s₀.heap.objs.size<=b)/\b≠X.env.locals/\(∀ x c,X.env.cells.lookup x=some c->c≠b)/\∀ p∈X.pn++pins,p.1≠b)
  (keep:∀ b o,b≠X.env.locals->b∉X.fs->b∉ch->s.heap.get? b=some o->H b=none->h'.get? b=some o)
  (slot:∀ b o,b≠X.env.locals->b∈X.fs->b∉ch->s.heap.get? b=some o->H b=none->∃ sl,h'.get? b=some { o with slots:=sl }) (free:∀ b o,b∉ch->s.heap.get? b=some o->H b=none->H' b=none)
  (there:∀ b o,b∉ch->s.heap.get? b=some o->∃ o',h'.get? b=some o')
  (tups:∀ b xs,H b=some (.tup xs)->H' b=some (.tup xs)) (frzs:∀ b o u,H b=some (.frz o u)->H' b=some (.frz o u)) (tbls:∀ b ps,H b=some (.tbl ps)->∃ more,H' b=some (.tbl (ps++more)))
  (ns:∀ m,s.heap.Ns X.env.locals m->h'.Ns X.env.locals m) (hok:HOk X.prog X.w H' h') (hg:AllBare g') :
  Inv X pins U H' { s with heap:=h',gens:=g',drawn:=d',toks:=t' }:=by
 have neL:∀ b o,X.s₀.heap.get? b=some o->b≠X.env.locals:=λb o e=>Nat.ne_of_lt (Nat.lt_of_lt_of_le (Heap.lt_size e) I.ok.above)
 have neC:∀ b o,X.s₀.heap.get? b=some o->b∉X.ex->b∉ch:=λb o e hx hb=>by
  rcases (Na b hb).1 with z|z
  ·exact hx z
  ·exact absurd (Nat.lt_of_lt_of_le (Heap.lt_size e) z) (Nat.lt_irrefl _)
 have cellK:∀ x c,X.env.cells.lookup x=some c->∀ v,s.heap.IsCell c v->h'.IsCell c v:=λx c e v zz1=>by
  obtain ⟨o,ho,hd⟩:=zz1
  have QF:c∉ch:=λz=>(Na c z).2.2.1 x c e rfl
  by_cases hc:c∈X.fs
  ·obtain ⟨sl,q⟩:=slot c o (I.cne x c e) hc QF ho (I.freeC x c e)
   exact ⟨_,q,hd⟩
  ·exact ⟨o,keep c o (I.cne x c e) hc QF ho (I.freeC x c e),hd⟩
 refine ⟨I.ok,I.os,hg,⟨λb o e n hb hx=>?_,λb o e n hb hx=>?_,λb o e n hx=>?_,λb o e hx=>?_,λb xs e=>tups b xs (I.base.tups b xs e),λb o xs e=>frzs b o xs (I.base.frzs b o xs e),λb ps e=>?_⟩,?_,λx c e=>?_,?_,λx c e=>?_,λp hp=>?_,hok,I.len⟩
 ·exact keep b o (neL b o e) hb (neC b o e hx) (I.base.keep b o e n hb hx) (I.base.free b o e n hx)
 ·obtain ⟨sl,e1⟩:=I.base.slot b o e n hb hx
  obtain ⟨sl',e2⟩:=slot b _ (neL b o e) hb (neC b o e hx) e1 (I.base.free b o e n hx)
  exact ⟨sl',e2⟩
 ·obtain ⟨o',e1⟩:=I.base.there b o e hx
  exact free b o' (neC b o e hx) e1 (I.base.free b o e n hx)
 ·obtain ⟨o',e1⟩:=I.base.there b o e hx
  exact there b o' (neC b o e hx) e1
 ·obtain ⟨m1,e1⟩:=I.base.tbls b ps e
  obtain ⟨m2,e2⟩:=tbls b _ e1
  exact ⟨m1++m2,by rw [e2,Array.append_assoc]⟩
 ·obtain ⟨m,hn,hl⟩:=I.loc
  refine ⟨m,ns m hn,λi x v e1 e2 e3=>?_⟩
  obtain ⟨u,r,l⟩:=hl i x v e1 e2 e3
  refine ⟨u,r,?_⟩
  rcases l with l|⟨k,c,e,z⟩
  ·exact .inl l
  ·exact .inr ⟨k,c,e,cellK x c e _ z⟩
 ·obtain ⟨v,z⟩:=I.cell x c e
  exact ⟨v,cellK x c e v z⟩
 ·obtain ⟨m,⟨o,_,_,ho,_⟩,_⟩:=I.loc
  exact free _ o (λz=>(Na _ z).2.1 rfl) ho I.free
 ·obtain ⟨v,o,ho,hd⟩:=I.cell x c e
  exact free c o (λz=>(Na c z).2.2.1 x c e rfl) ho (I.freeC x c e)
 ·obtain ⟨e,n,ne,nf,d⟩:=I.pin p hp
  have QF:p.1∉ch:=λz=>(Na p.1 z).2.2.2 p hp rfl
  exact ⟨keep p.1 p.2 ne nf QF e n,free p.1 p.2 QF e n,ne,nf,d⟩
theorem Inv.un {t':Nat}(I:Inv X pins U H s) (u:Un X.fs [] H H' s.heap h') (hok:HOk X.prog X.w H' h'):Inv X pins U H' { s with heap:=h',toks:=t' }:=by
 obtain ⟨m,⟨o,es,ep,ho,r⟩,_⟩:=id I.loc
 obtain ⟨sl,hL⟩:=u.any ho I.free (by simp)
 exact I.step (g':=s.gens) (d':=s.drawn) (ch:=[]) (λ_ z=>nomatch z) (λb o _ hb _ e n=>u.keep b o e n hb (by simp)) (λb o _ hb _ e n=>u.slot b o e n hb (by simp)) (λb o _ e n=>u.free b o e n (by simp)) (λb o _ e=>u.there b o e (by simp)) u.tups u.frzs u.tbls (λm' hm=>by
  obtain ⟨o',es',ep',Oz,r'⟩:=hm
  rw [ho] at Oz;cases Oz
  exact ⟨_,es',ep',hL,r'⟩) hok I.bare
theorem Inv.call {g':Array GenState}{t':Nat}{d':Drawn}{ch:List Addr}(I:Inv X pins U H s) (u:Un (frs X.stack) ch H H' s.heap h') (hok:HOk X.prog X.w H' h') (hg:AllBare g')
  (Na:∀ b∈ch,(b∈X.ex\/X.s₀.heap.objs.size<=b)/\b≠X.env.locals/\(∀ x c,X.env.cells.lookup x=some c->c≠b)/\∀ p∈X.pn++pins,p.1≠b) :
  Inv X pins U H' { s with heap:=h',gens:=g',drawn:=d',toks:=t' }:=by
 obtain ⟨m,⟨o,es,ep,ho,r⟩,_⟩:=id I.loc
 obtain ⟨sl,hL⟩:=u.any ho I.free λz=>(Na _ z).2.1 rfl
 exact I.step (ch:=ch) Na (λb o hL hb hc e n=>u.keep b o e n (λz=>(List.mem_cons.mp (I.stkSub b z)).elim hL hb) hc) (λb o _ _ hc e n=>u.any e n hc) (λb o hc e n=>u.free b o e n hc) (λb o hc e=>u.there b o e hc) u.tups u.frzs u.tbls (λm' hm=>by
  obtain ⟨o',es',ep',Oz,r'⟩:=hm
  rw [ho] at Oz;cases Oz
  exact ⟨_,es',ep',hL,r'⟩) hok hg
theorem Inv.turned {t':Nat}{it:Addr}(I:Inv X pins U H s) (k:∀ b o,b≠it->s.heap.get? b=some o->h'.get? b=some o) (hn:H it=none) (hL:it≠X.env.locals)
  (h1:it∈X.ex\/X.s₀.heap.objs.size<=it) (h2:∀ x c,X.env.cells.lookup x=some c->c≠it) (h3:∀ p∈X.pn++pins,p.1≠it):Inv X pins U H { s with heap:=h',toks:=t' }:=by
 have nit:∀ b u,H b=some u->b≠it:=λb u e z=>by rw [z,hn] at e;cases e
 refine I.step (g':=s.gens) (d':=s.drawn) (ch:=[it]) (λb hb=>?_) (λb o _ _ hc e _=>k b o (λz=>hc (by simp [z])) e) (λb o _ _ hc e _=>⟨o.slots,k b o (λz=>hc (by simp [z])) e⟩) (λ_ _ _ _ n=>n)
  (λb o hc e=>⟨o,k b o (λz=>hc (by simp [z])) e⟩) (λ_ _ e=>e) (λ_ _ _ e=>e) (λb ps e=>⟨#[],by rw [e];simp⟩) (λm hm=>?_) (λb u e=>?_) I.bare
 ·have e:b=it:=by simpa using hb
  subst e
  exact ⟨h1,hL,h2,h3⟩
 ·obtain ⟨o,es,ep,ho,r⟩:=hm
  exact ⟨o,es,ep,k _ o (Ne.symm hL) ho,r⟩
 ·refine (I.hok b u e).stay (λc v hc q=>k c v ?_ q) (λ_ q=>q) λ_ _ q=>q
  rcases hc with z|z
  ·rw [z];exact nit b u e
  ·exact nit c _ z
theorem Inv.tok (I:Inv X pins U H s) (t:Nat):Inv X pins U H { s with toks:=t }:=I.un (h':=s.heap) (t':=t) Un.refl I.hok
theorem Inv.kept {t':Nat}(I:Inv X pins U H s) (k:∀ b u,s.heap.get? b=some u->h'.get? b=some u):Inv X pins U H { s with heap:=h',toks:=t' }:=I.un (Un.kept k) (I.hok.kept k)
theorem Inv.laid {a:Addr}{o:HO}{t':Nat}(I:Inv X pins U H s) (k:∀ b u,s.heap.get? b=some u->h'.get? b=some u) (hp:s.heap.objs.size<=a) (new:aN X.prog X.w (upd H a o) h' a o) :
  Inv X pins U (upd H a o) { s with heap:=h',toks:=t' }:=I.un (Un.laid k hp (I.hok.fresh hp)) (I.hok.laid k hp new)
theorem Inv.write {x e:Addr}{o:HO}{t':Nat}(I:Inv X pins U H s) (mu:Mut (H x)) (he:e=x\/H e=some (.own x)) (k:∀ b u,b≠e->s.heap.get? b=some u->h'.get? b=some u) (heo:∃ u,h'.get? e=some u)
  (new:aN X.prog X.w (upd H x o) h' x o):Inv X pins U (upd H x o) { s with heap:=h',toks:=t' }:=I.un (Un.write mu he k heo) (I.hok.write mu he k heo new)
theorem Inv.pins_of {OR:List (Addr×Obj)}(I:Inv X pins U H s) (h:∀ p∈OR,s.heap.get? p.1=some p.2/\H p.1=none/\p.1≠X.env.locals/\p.1∉X.fs/\∀ v,p.2.data≠.cell v):Inv X OR U H s :=
 ⟨I.ok,I.os,I.bare,I.base,I.loc,I.cell,I.free,I.freeC,λp hp=>(List.mem_append.mp hp).elim (λz=>I.pin p (List.mem_append_left _ z)) (h p),I.hok,I.len⟩
theorem lh {N:List Str}(hN:N.Nodup){i j:Nat}{x:Str}(a:N[i]?=some x) (b:N[j]?=some x):i=j:=by
 obtain ⟨h1,e1⟩:=List.getElem?_eq_some_iff.mp a
 obtain ⟨h2,e2⟩:=List.getElem?_eq_some_iff.mp b
 exact (List.getElem_inj hN).mp (e1.trans e2.symm)
theorem x6 {M:Model}{A:Around}{E:Value->Shared->Prop}{i:Nat}{x:Str}{v:V}{u:Value}{Q:Unit->Shared->Prop}(I:Inv X pins U H s) (hN:X.N.Nodup) (hi:X.N[i]?=some x) (hx:Loc X.env.scope x) (r:au v u)
  (h:∀ s',Inv X pins (U.set i (some v)) H s'->(∃ a,Heap.SameBut a s.heap s'.heap/\(a=X.env.locals\/X.env.cells.lookup x=some a))->Q () s') (hf:X.fn x=true\/X.env.scope.names.lookup x=some .local:=by first|exact .inl rfl|exact .inr rfl|assumption):wpAny M A (storeName X.env x u) Q E s:=by
 obtain ⟨m,hn,hl⟩:=id I.loc
 have QH:(X.env.scope.kind==.class || (X.env.scope.kind==.module&&X.env.locals != X.env.globals))=false:=by rw [I.ok.kind];rfl
 have OW:i<U.length:=by rw [I.len];exact (List.getElem?_eq_some_iff.mp hi).1
 have cne:=I.cne
 have tracked:∀ {a:Addr}{h':Heap},(∃ o,s.heap.get? a=some o/\H a=none)->Heap.SameBut a s.heap h'->HOk X.prog X.w H h':=fun {a h'} ha hs b ob e=>by
  obtain ⟨_,_,Qw⟩:=ha
  refine (I.hok b ob e).stay (λc w' hc q=>(hs.2 c ?_).trans q) (λ_ q=>q) λ_ _ q=>q
  rintro rfl
  rcases hc with rfl|hc
  ·rw [Qw] at e;cases e
  ·rw [Qw] at hc;cases hc
 rcases hx with hk|hk
 ·refine wpAny_storeName_local hk hn (λh' hn' hs=>?_) QH
  obtain ⟨oL,_,_,Pc,_⟩:=id hn
  refine h _ ⟨I.ok,I.os,I.bare,⟨λb o e n hb hx=>?_,λb o e n hb hx=>?_,I.base.free,λb o e hx=>?_,I.base.tups,I.base.frzs,I.base.tbls⟩,⟨_,hn',λj y v' e1 e2 e3=>?_⟩,λy c e=>?_,I.free,I.freeC,λp hp=>?_,tracked ⟨oL,Pc,I.free⟩ hs,by simpa using I.len⟩ ⟨_,hs,.inl rfl⟩
  ·exact (hs.2 b (Nat.ne_of_lt (Nat.lt_of_lt_of_le (Heap.lt_size e) I.ok.above))).trans (I.base.keep b o e n hb hx)
  ·obtain ⟨sl,e1⟩:=I.base.slot b o e n hb hx
   exact ⟨sl,(hs.2 b (Nat.ne_of_lt (Nat.lt_of_lt_of_le (Heap.lt_size e) I.ok.above))).trans e1⟩
  ·obtain ⟨o',e1⟩:=I.base.there b o e hx
   exact ⟨o',(hs.2 b (Nat.ne_of_lt (Nat.lt_of_lt_of_le (Heap.lt_size e) I.ok.above))).trans e1⟩
  ·by_cases hj:j=i
   ·subst hj
    rw [hi] at e1;cases e1
    rw [List.getElem?_set_self OW] at e2
    cases e2
    exact ⟨u,r,.inl ⟨hk,by simp⟩⟩
   ·rw [List.getElem?_set_ne (Ne.symm hj)] at e2
    obtain ⟨u',r',q⟩:=hl j y v' e1 e2 e3
    refine ⟨u',r',?_⟩
    rcases q with ⟨k,e⟩|⟨k,c,e,z⟩
    ·refine .inl ⟨k,?_⟩
     have:y≠x:=λe=>hj (lh hN e1 (e ▸ hi))
     simp [this,e]
    ·exact .inr ⟨k,c,e,z.sameBut hs (cne y c e)⟩
  ·obtain ⟨w',z⟩:=I.cell y c e
   exact ⟨w',z.sameBut hs (cne y c e)⟩
  ·obtain ⟨e,n,ne,nf,d⟩:=I.pin p hp
   exact ⟨(hs.2 p.1 ne).trans e,n,ne,nf,d⟩
 ·have P6:X.fn x=true:=by
   rcases hf with z|z
   ·exact z
   ·rw [z] at hk;cases hk
  obtain ⟨c,hc⟩:=I.ok.has x (.inl hk)
  obtain ⟨w',z⟩:=I.cell x c hc
  refine wpAny_storeName_cell I.ok.kind hk hc z (λh' hc' hs=>?_)
  obtain ⟨oc,hoc,hocd⟩:=id z
  refine h { s with heap:=h' } ⟨I.ok,I.os,I.bare,⟨λb o e n hb hx=>?_,λb o e n hb hx=>?_,I.base.free,λb o e hx=>?_,I.base.tups,I.base.frzs,I.base.tbls⟩,⟨m,hn.sameBut hs (Ne.symm (cne x c hc)),λj y v' e1 e2 e3=>?_⟩,λy c' e=>?_,I.free,I.freeC,λp hp=>?_,tracked ⟨oc,hoc,I.freeC x c hc⟩ hs,by simpa using I.len⟩ ⟨c,hs,.inr hc⟩
  ·exact (hs.2 b (Nat.ne_of_lt (Nat.lt_of_lt_of_le (Heap.lt_size e) (I.ok.cab x c P6 hc)))).trans (I.base.keep b o e n hb hx)
  ·obtain ⟨sl,e1⟩:=I.base.slot b o e n hb hx
   exact ⟨sl,(hs.2 b (Nat.ne_of_lt (Nat.lt_of_lt_of_le (Heap.lt_size e) (I.ok.cab x c P6 hc)))).trans e1⟩
  ·obtain ⟨o',e1⟩:=I.base.there b o e hx
   exact ⟨o',(hs.2 b (Nat.ne_of_lt (Nat.lt_of_lt_of_le (Heap.lt_size e) (I.ok.cab x c P6 hc)))).trans e1⟩
  ·by_cases hj:j=i
   ·subst hj
    rw [hi] at e1;cases e1
    rw [List.getElem?_set_self OW] at e2
    cases e2
    exact ⟨u,r,.inr ⟨.inl hk,c,hc,hc'⟩⟩
   ·rw [List.getElem?_set_ne (Ne.symm hj)] at e2
    obtain ⟨u',r',q⟩:=hl j y v' e1 e2 e3
    refine ⟨u',r',?_⟩
    rcases q with q|⟨k,c',e,z'⟩
    ·exact .inl q
    ·refine .inr ⟨k,c',e,z'.sameBut hs ?_⟩
     rintro rfl
     exact hj (lh hN e1 (I.ok.inj _ _ _ e hc ▸ hi))
  ·by_cases hcc:c'=c
   ·subst hcc;exact ⟨_,hc'⟩
   ·obtain ⟨w2,z2⟩:=I.cell y c' e
    exact ⟨w2,z2.sameBut hs hcc⟩
  ·obtain ⟨e,n,ne,nf,d⟩:=I.pin p hp
   refine ⟨(hs.2 p.1 ?_).trans e,n,ne,nf,d⟩
   intro q
   rw [q,hoc] at e
   have q':oc=p.2:=Option.some.inj e
   exact d w' (by rw [<- q'];exact hocd)
theorem fV {M:Model}{A:Around}{E:Value->Shared->Prop}{i:Nat}{x:Str}{v:V}{u:Value}{Q:Unit->Shared->Prop}(I:Inv X pins U H s) (hN:X.N.Nodup) (hi:X.N[i]?=some x) (hx:Loc X.env.scope x) (r:au v u)
  (h:∀ s',Inv X pins (U.set i (some v)) H s'->Q () s') (hf:X.fn x=true\/X.env.scope.names.lookup x=some .local:=by first|exact .inl rfl|exact .inr rfl|assumption):wpAny M A (storeName X.env x u) Q E s :=
 x6 I hN hi hx r (λs' I' _=>h s' I') hf
theorem Inv.call' {s':Shared}{ch:List Addr}(I:Inv X pins U H s) (ho:s'.os=s.os) (u:Un (frs X.stack) ch H H' s.heap s'.heap) (hok:HOk X.prog X.w H' s'.heap) (hg:AllBare s'.gens)
  (Na:∀ b∈ch,(b∈X.ex\/X.s₀.heap.objs.size<=b)/\b≠X.env.locals/\(∀ x c,X.env.cells.lookup x=some c->c≠b)/\∀ p∈X.pn++pins,p.1≠b):Inv X pins U H' s':=by
 obtain ⟨h',g',d',t',o'⟩:=s'
 have e:o'=s.os:=ho
 subst e
 exact I.call (g':=g') (t':=t') (d':=d') u hok hg Na
end
abbrev XK:=Value->Option Addr->Hp->Prop
abbrev St:=List (Option V)
abbrev VK:=V->Hp->Prop
abbrev TE:=St->Hp->VK->Prop
abbrev TT:=St->Hp->(Bool->Hp->Prop)->Prop
abbrev TA:=St->Hp->(List V->Hp->Prop)->Prop
structure Ends where
 nx:St->Hp->Prop
 rt:VK
 bk:St->Hp->Prop:=λ_ _=>False
 ct:St->Hp->Prop:=λ_ _=>False
abbrev TS:=Ends->St->Hp->Prop
def EP (X:Cx) (pins:List (Addr×Obj)) (U:St) (Q:VK) (u:Value) (s':Shared):Prop:=∃ v H',Inv X pins U H' s'/\au v u/\Q v H'
def TP (X:Cx) (pins:List (Addr×Obj)) (U:St) (Q:Bool->Hp->Prop) (b:Bool) (s':Shared):Prop:=∃ H',Inv X pins U H' s'/\Q b H'
def AP (X:Cx) (pins:List (Addr×Obj)) (U:St) (Q:List V->Hp->Prop) (us:List Value) (s':Shared):Prop:=∃ vs H',Inv X pins U H' s'/\ag vs us/\Q vs H'
def SP (X:Cx) (pins:List (Addr×Obj)) (D:Ends) (f:Flow) (s':Shared):Prop :=
 match f with
 |.next=>∃ J7 H',Inv X pins J7 H' s'/\D.nx J7 H'
 |.brk=>∃ J7 H',Inv X pins J7 H' s'/\D.bk J7 H'
 |.cont=>∃ J7 H',Inv X pins J7 H' s'/\D.ct J7 H'
 |.ret u=>∃ v J7 H',Inv X pins J7 H' s'/\au v u/\D.rt v H'
def PE (X:Cx) (e:Expr) (t:TE):Prop :=
 ∀ (pins:List (Addr×Obj)) (s:Shared) (U:St) (H:Hp) (Q:VK),Inv X pins U H s->t U H Q->wpAny (model X.prog X.w) X.A (eval e X.env) (EP X pins U Q) X.xe s
def PT (X:Cx) (e:Expr) (t:TT):Prop :=
 ∀ (pins:List (Addr×Obj)) (s:Shared) (U:St) (H:Hp) (Q:Bool->Hp->Prop),Inv X pins U H s->t U H Q->wpAny (model X.prog X.w) X.A (isTrue e X.env (eval e X.env)) (TP X pins U Q) X.xe s
def PW (X:Cx) (e:Expr) (t:TT):Prop :=
 ∀ (whole:Sem Value) (pins:List (Addr×Obj)) (s:Shared) (U:St) (H:Hp) (Q:Bool->Hp->Prop),Inv X pins U H s->t U H Q->wpAny (model X.prog X.w) X.A (isTrue e X.env whole) (TP X pins U Q) X.xe s
def PA (X:Cx) (es:List Expr) (t:TA):Prop :=
 ∀ (pos:Pos) (pins:List (Addr×Obj)) (s:Shared) (U:St) (H:Hp) (Q:List V->Hp->Prop),Inv X pins U H s->t U H Q->wpAny (model X.prog X.w) X.A (spliced (backTo pos (starEach es X.env))) (AP X pins U Q) X.xe s
def PS (X:Cx) (st:Stmt) (t:TS):Prop :=
 ∀ (pins:List (Addr×Obj)) (s:Shared) (U:St) (H:Hp) (D:Ends),Inv X pins U H s->t D U H->wpAny (model X.prog X.w) X.A (exec st X.env) (SP X pins D) X.xe s
def PSs (X:Cx) (st:List Stmt) (t:TS):Prop :=
 ∀ (pins:List (Addr×Obj)) (s:Shared) (U:St) (H:Hp) (D:Ends),Inv X pins U H s->t D U H->wpAny (model X.prog X.w) X.A (execs st X.env) (SP X pins D) X.xe s
theorem thn {α:Type}{t:Sem α}{Q Q':α->Shared->Prop}{M:Model}{A:Around}{E:Value->Shared->Prop}{s:Shared}(h:wpAny M A t Q E s) (hQ:∀ a s,Q a s->Q' a s):wpAny M A t Q' E s:=wpAny_mono h hQ λ_ _ x=>x
section
variable {X:Cx}
def uL (i:Nat):TE:=λU H Q=>∃ v,U[i]?=some (some v)/\Q v H
def tC (v:V):TE:=λ_ H Q=>Q v H
theorem Dj {i:Nat}{x:Str}{pos:Pos}(hN:X.N[i]?=some x) (hv:Vis X.env.scope x) (hd:(x==("__debug__":Str))=false:=by decide) (Oh:(x==("__classdict__":Str))=false:=by decide):PE X (.Name x pos) (uL i):=by
 intro pins s U H Q I h
 obtain ⟨v,e,h⟩:=h
 obtain ⟨m,hn,hl⟩:=I.loc
 obtain ⟨u,r,l⟩:=hl i x v hN e hv
 have fin:EP X pins U Q u s:=⟨v,H,I,r,h⟩
 rcases l with ⟨hk,hm⟩|⟨hk,c,hc,Qx⟩
 ·exact wpAny_Name (wpAny_loadName_local I.ok.kind hk hn hm fin) hd
 ·rcases hk with hk|hk
  ·exact wpAny_Name (wpAny_loadName_cell I.ok.kind hk hc Qx fin) hd
  ·exact wpAny_Name (wpAny_loadName_free I.ok.kind hk hc Qx fin Oh) hd
theorem Dk {i j pos}:PE X (.Constant (.int i) j pos) (tC (.int i)):=λ_ _ _ H _ I h=>wpAny_Constant_int ⟨.int i,H,I.tok _,⟨_,rfl⟩,h⟩
theorem Gv {b j pos}:PE X (.Constant (.bool b) j pos) (tC (.bl b)):=λ_ _ _ H _ I h=>Constant_bool ⟨.bl b,H,I,rfl,h⟩
theorem Dl {j pos}:PE X (.Constant .none j pos) (tC .non):=λ_ _ _ H _ I h=>Constant_none ⟨.non,H,I,rfl,h⟩
theorem rJ {x j pos}:PE X (.Constant (.str x) j pos) (tC (.str x)):=λ_ _ _ H _ I h=>Calls.Constant_str ⟨.str x,H,I.tok _,⟨_,rfl⟩,h⟩
def Gl (X:Cx) (x:Str):Prop:=X.env.kindOf x=some .globalImplicit
theorem cG {E:Value->Shared->Prop}{pins:List (Addr×Obj)}{s:Shared}{U:St}{H:Hp}{x:Str}{u:Value}{pos:Pos}{Q:Value->Shared->Prop}(I:Inv X pins U H s) (hg:Gl X x) (hm:X.mg x=some u) (h:Q u s)
  (hd:(x==("__debug__":Str))=false:=by decide):wpAny (model X.prog X.w) X.A (eval (.Name x pos) X.env) Q E s :=
 Calls.Name_function_global I.ok.kind hg (Calls.loadGlobal_global (by rw [I.ok.glob];exact I.mod.glob.keeps I.bk) hm h) hd
theorem eT {E:Value->Shared->Prop}{pins:List (Addr×Obj)}{s:Shared}{U:St}{H:Hp}{x:Str}{u:Value}{pos:Pos}{Q:Value->Shared->Prop}(I:Inv X pins U H s) (hg:Gl X x) (hm:X.mg x=none) (hv:bootBuiltins x=some u) (h:Q u s)
  (hn:x ≠ "__name__":=by decide) (hd:(x==("__debug__":Str))=false:=by decide):wpAny (model X.prog X.w) X.A (eval (.Name x pos) X.env) Q E s:=by
 obtain ⟨mb,h1,h2⟩:=I.mod.blt
 exact Calls.Name_function_global I.ok.kind hg (Calls.loadGlobal_builtin (by rw [I.ok.glob];exact I.mod.glob.keeps I.bk) hm (by rw [I.ok.blt];exact h1.keeps I.bk) ((h2 x hn).trans hv) h) hd
theorem qt {x:Str}{v:V}{u:Value}{pos:Pos}(hg:Gl X x) (hm:X.mg x=some u) (r:au v u) (hd:(x==("__debug__":Str))=false:=by decide):PE X (.Name x pos) (tC v) :=
 λ_ _ _ H _ I h=>cG I hg hm ⟨v,H,I,r,h⟩ hd
theorem AV {x:Str}{v:V}{u:Value}{pos:Pos}(hg:Gl X x) (hm:X.mg x=none) (hv:bootBuiltins x=some u) (r:au v u) (hn:x ≠ "__name__":=by decide) (hd:(x==("__debug__":Str))=false:=by decide):PE X (.Name x pos) (tC v) :=
 λ_ _ _ H _ I h=>eT I hg hm hv ⟨v,H,I,r,h⟩ hn hd
variable {a b:Expr}{ta tb:TE}{pos:Pos}
def tB (t:TE):TT:=λU H Q=>t U H λx H1=>∃ c,x=.bl c/\Q c H1
theorem Dm {e:Expr}{t:TE}(h:PE X e t) (he:∀ whole,isTrue e X.env whole=(do let v <- whole;standAt e.pos;holding [v] (truthy v)):=by intro _;rfl):PT X e (tB t):=by
 intro pins s U H Q I hw
 refine isTrue_plain (thn (h pins s U H _ I hw) λv s1 ⟨x,H1,I1,r1,q1⟩=>?_) (he _)
 obtain ⟨d,rfl,q⟩:=q1
 cases r1
 exact wpAny_truthy_bool ⟨H1,I1,q⟩
variable {tA tB':TT}{rest:List Expr}
def IU (t u:TT):TT:=λU H Q=>t U H λc H1=>if c=true then u U H1 Q else Q false H1
def tOr (t u:TT):TT:=λU H Q=>t U H λc H1=>if c=true then Q true H1 else u U H1 Q
def IV (t:TT):TT:=λU H Q=>t U H λc H1=>Q (!c) H1
theorem AW (ha:PT X a tA):PW X (.BoolOp .And [a] pos) tA:=by
 intro wh pins s U H Q I h
 refine isTrue_and (thn (ha pins s U H Q I h) λc s1 e=>?_)
 cases c with
 |true=>exact isTrue_and_nil e
 |false=>exact e
theorem Do (ha:PT X a tA):PW X (.BoolOp .Or [a] pos) tA:=by
 intro wh pins s U H Q I h
 refine isTrue_or (thn (ha pins s U H Q I h) λc s1 e=>?_)
 cases c with
 |false=>exact isTrue_or_nil e
 |true=>exact e
theorem Dp (ha:PT X a tA) (hb:PW X (.BoolOp .And (b::rest) pos) tB'):PW X (.BoolOp .And (a::b::rest) pos) (IU tA tB'):=by
 intro wh pins s U H Q I h
 refine isTrue_and (thn (ha pins s U H _ I h) λc s1 zz2=>?_)
 obtain ⟨H1,I1,q1⟩:=zz2
 cases c with
 |true=>exact hb wh pins s1 U H1 Q I1 q1
 |false=>exact ⟨H1,I1,q1⟩
theorem Gw (ha:PT X a tA) (hb:PW X (.BoolOp .Or (b::rest) pos) tB'):PW X (.BoolOp .Or (a::b::rest) pos) (tOr tA tB'):=by
 intro wh pins s U H Q I h
 refine isTrue_or (thn (ha pins s U H _ I h) λc s1 zz3=>?_)
 obtain ⟨H1,I1,q1⟩:=zz3
 cases c with
 |true=>exact ⟨H1,I1,q1⟩
 |false=>exact hb wh pins s1 U H1 Q I1 q1
theorem Dq (ha:PT X a tA):PT X (.UnaryOp .Not a pos) (IV tA):=by
 intro pins s U H Q I h
 exact isTrue_not (ha pins s U H (λc H1=>Q (!c) H1) I h)
def Gx (ta tb:TE):TE:=λU H Q=>ta U H λx H1=>∃ c,x=.bl c/\if c=true then tb U H1 Q else Q (.bl false) H1
def IW (ta tb:TE):TE:=λU H Q=>ta U H λx H1=>∃ c,x=.bl c/\if c=true then Q (.bl true) H1 else tb U H1 Q
def Gy (ta:TE):TE:=λU H Q=>ta U H λx H1=>∃ c,x=.bl c/\Q (.bl (!c)) H1
theorem Ds {op}{t:TE}(h:PE X a t):PE X (.BoolOp op [a] pos) t:=λpins s U H Q I hw=>BoolOp_one (h pins s U H Q I hw)
theorem Du (ha:PE X a ta) (hb:PE X (.BoolOp .And (b::rest) pos) tb):PE X (.BoolOp .And (a::b::rest) pos) (Gx ta tb):=by
 intro pins s U H Q I h
 refine BoolOp_and (thn (ha pins s U H _ I h) λv s1 zz4=>?_)
 obtain ⟨x,H1,I1,r1,q1⟩:=zz4
 obtain ⟨c,rfl,q1⟩:=q1
 cases r1
 refine wpAny_truthy_bool ?_
 cases c with
 |true=>exact hb pins s1 U H1 Q I1 q1
 |false=>exact ⟨.bl false,H1,I1,rfl,q1⟩
theorem Gz (ha:PE X a ta) (hb:PE X (.BoolOp .Or (b::rest) pos) tb):PE X (.BoolOp .Or (a::b::rest) pos) (IW ta tb):=by
 intro pins s U H Q I h
 refine BoolOp_or (thn (ha pins s U H _ I h) λv s1 zz5=>?_)
 obtain ⟨x,H1,I1,r1,q1⟩:=zz5
 obtain ⟨c,rfl,q1⟩:=q1
 cases r1
 refine wpAny_truthy_bool ?_
 cases c with
 |false=>exact hb pins s1 U H1 Q I1 q1
 |true=>exact ⟨.bl true,H1,I1,rfl,q1⟩
theorem Dv (ha:PE X a ta):PE X (.UnaryOp .Not a pos) (Gy ta):=by
 intro pins s U H Q I h
 refine UnaryOp_ (thn (ha pins s U H _ I h) λv s1 zz6=>?_)
 obtain ⟨x,H1,I1,r1,q1⟩:=zz6
 obtain ⟨c,rfl,q1⟩:=q1
 cases r1
 exact not_of (wpAny_truthy_bool ⟨.bl (!c),H1,I1,rfl,q1⟩)
def tIf (t:TT) (ta tb:TE):TE:=λU H Q=>t U H λc H1=>if c=true then ta U H1 Q else tb U H1 Q
theorem zc {c:Expr}(hc:PT X c tA) (ha:PE X a ta) (hb:PE X b tb):PE X (.IfExp c a b pos) (tIf tA ta tb):=by
 intro pins s U H Q I h
 refine wpAny_IfExp (thn (hc pins s U H _ I h) λd s1 zz7=>?_)
 obtain ⟨H1,I1,q1⟩:=zz7
 cases d with
 |true=>exact ha pins s1 U H1 Q I1 q1
 |false=>exact hb pins s1 U H1 Q I1 q1
end
def SqL (K:PySem.W.Frag) (H:Hp) (a:Addr) (xs:List V):Prop :=
 Rd H a (.lst xs) \/
  ∃ (o:Obj) (its:Array Value) (n:Nat),K.lookup a=some o/\o.cls=.type "list" /\ o.dict=none/\o.data=.seq its n/\its.size<=sizeLine/\ag xs its.toList
def SqT (K:PySem.W.Frag) (H:Hp) (a:Addr) (xs:List V):Prop :=
 Rd H a (.tup xs) \/
  ∃ (o:Obj) (its:Array Value) (n:Nat),K.lookup a=some o/\o.cls=.type "tuple" /\ o.data=.seq its n/\its.size<=sizeLine/\ag xs its.toList
noncomputable def IX:Value->Option V
 |.none=>some .non
 |.bool b=>some (.bl b)
 |.int i _=>some (.int i)
 |.str x _=>some (.str x)
 |.bytes b _=>some (.byt b)
 |.float b _=>some (.flt b)
 |.ref a=>some (.ref a)
 |.type n=>some (.ty n)
 |_=>none
theorem au.abs {x:V}{u:Value}(r:au x u):IX u=some x:=by
 cases x with
 |non=>cases r;rfl
 |bl _=>cases r;rfl
 |int _=>obtain ⟨t,rfl⟩:=r;rfl
 |str _=>obtain ⟨t,rfl⟩:=r;rfl
 |byt _=>obtain ⟨t,rfl⟩:=r;rfl
 |flt _=>obtain ⟨t,rfl⟩:=r;rfl
 |ref _=>cases r;rfl
 |ty _=>cases r;rfl
theorem au.inj {x y:V}{u:Value}(r:au x u) (q:au y u):x=y:=Option.some.inj (r.abs.symm.trans q.abs)
theorem ag.inj:∀ {xs ys:List V}{us:List Value},ag xs us->ag ys us->xs=ys
 |_,_,_,.nil,.nil=>rfl
 |_,_,_,.cons r t,.cons r' t'=>by rw [r.inj r',ag.inj t t']
section
variable {X:Cx}{pins:List (Addr×Obj)}{U:St}{H:Hp}{s:Shared}{a:Addr}{xs ys:List V}
theorem SqL.of {K:PySem.W.Frag}(h:H a=some (.lst xs)):SqL K H a xs:=.inl (.inl h)
theorem SqT.of {K:PySem.W.Frag}(h:H a=some (.tup xs)):SqT K H a xs:=.inl (.inl h)
theorem Inv.list (I:Inv X pins U H s) (h:SqL X.K H a xs):∃ its:List Value,ag xs its/\PlainL s.heap a its.toArray/\xs.length<=sizeLine:=by
 rcases h with h|⟨o,its,n,hk,hc,hd,hs,hz,r⟩
 ·obtain ⟨z,its,n,r,e⟩:=h.ok I.hok
  exact ⟨its,r,⟨_,n,e,rfl,rfl,rfl⟩,z⟩
 ·refine ⟨its.toList,r,⟨o,n,I.kIn a o hk,hc,hd,by simpa using hs⟩,?_⟩
  have e:=r.length
  simp only [Array.length_toList] at e
  omega
theorem Inv.tuple (I:Inv X pins U H s) (h:SqT X.K H a xs):∃ its:List Value,ag xs its/\IsTup s.heap a its.toArray/\xs.length<=sizeLine:=by
 rcases h with h|⟨o,its,n,hk,hc,hs,hz,r⟩
 ·obtain ⟨z,its,r,p⟩:=h.ok I.hok
  exact ⟨its,r,p,z⟩
 ·refine ⟨its.toList,r,⟨o,I.kIn a o hk,hc,n,by simpa using hs⟩,?_⟩
  have e:=r.length
  simp only [Array.length_toList] at e
  omega
theorem Inv.list_inj (I:Inv X pins U H s) (h:SqL X.K H a xs) (h':SqL X.K H a ys):xs=ys:=by
 obtain ⟨its,r,⟨o,n,e,_,_,d⟩,_⟩:=I.list h
 obtain ⟨its',r',⟨o',n',e',_,_,d'⟩,_⟩:=I.list h'
 rw [e] at e';cases e'
 rw [d] at d'
 injection d' with d1 _
 have:its=its':=by simpa using congrArg Array.toList d1
 subst this
 exact r.inj r'
end
noncomputable abbrev Cx.wish (X:Cx) (E:Value->Shared->Prop):Cx:={ X with xe:=E }
noncomputable abbrev Cx.nox (X:Cx):Cx:=X.wish λ_ _=>False
theorem Cx.Ok.wish {X:Cx}(ok:X.Ok) (E:Value->Shared->Prop):(X.wish E).Ok :=
 ⟨ok.mod,ok.kind,ok.glob,ok.blt,ok.above,ok.inj,ok.has,ok.cab,ok.hd,ok.frames,ok.stk,ok.exf,ok.bs,ok.bsz,ok.noex,ok.exfs,ok.funs,ok.frf⟩
theorem Cx.Ok.unwish {X:Cx}{E:Value->Shared->Prop}(ok:(X.wish E).Ok):X.Ok :=
 ⟨ok.mod,ok.kind,ok.glob,ok.blt,ok.above,ok.inj,ok.has,ok.cab,ok.hd,ok.frames,ok.stk,ok.exf,ok.bs,ok.bsz,ok.noex,ok.exfs,ok.funs,ok.frf⟩
section
variable {X:Cx}{pins:List (Addr×Obj)}{U:St}{H:Hp}{s:Shared}{E:Value->Shared->Prop}
theorem Inv.wish (I:Inv X pins U H s) (E:Value->Shared->Prop):Inv (X.wish E) pins U H s:=⟨I.ok.wish E,I.os,I.bare,I.base,I.loc,I.cell,I.free,I.freeC,I.pin,I.hok,I.len⟩
theorem Inv.unwish (I:Inv (X.wish E) pins U H s):Inv X pins U H s:=⟨I.ok.unwish,I.os,I.bare,I.base,I.loc,I.cell,I.free,I.freeC,I.pin,I.hok,I.len⟩
theorem SP.unwish {D:Ends}{f:Flow}{s':Shared}(h:SP (X.wish E) pins D f s'):SP X pins D f s':=by
 cases f with
 |next=>obtain ⟨J7,H',I,q⟩:=h;exact ⟨J7,H',I.unwish,q⟩
 |brk=>obtain ⟨J7,H',I,q⟩:=h;exact ⟨J7,H',I.unwish,q⟩
 |cont=>obtain ⟨J7,H',I,q⟩:=h;exact ⟨J7,H',I.unwish,q⟩
 |ret u=>obtain ⟨v,J7,H',I,r,q⟩:=h;exact ⟨v,J7,H',I.unwish,r,q⟩
theorem PSs.nox {st:List Stmt}{t:TS}(h:PSs X.nox st t):PSs X st t:=λpins s U H D I hw =>
 wpAny_mono (h pins s U H D (I.wish _) hw) (λ_ _ q=>q.unwish) λ_ _ z=>False.elim z
end
section
variable {X:Cx}{st:Stmt}{rest:List Stmt}{t u:TS}{e:Expr}{te:TE}{pos:Pos}
def GA:TS:=λD U H=>D.nx U H
def IY (t u:TS):TS:=λD U H=>t { D with nx:=u D } U H
theorem AX:PSs X [] GA:=λ_ _ U H _ I h=>wpAny_execs_nil ⟨U,H,I,h⟩
theorem zd (h1:PS X st t) (h2:PSs X rest u):PSs X (st::rest) (IY t u):=by
 intro pins s U H D I h
 refine wpAny_execs_cons (thn (h1 pins s U H { D with nx:=u D } I h) λf s1 q=>?_)
 cases f with
 |next =>
  obtain ⟨J7,H',I',q⟩:=q
  exact h2 pins s1 J7 H' D I' q
 |ret v=>exact q
 |brk=>exact q
 |cont=>exact q
theorem AY (h1:PS X st t):PSs X [st] t:=by
 intro pins s U H D I h
 refine wpAny_execs_cons (thn (h1 pins s U H D I h) λf s1 q=>?_)
 cases f with
 |next=>exact wpAny_execs_nil q
 |ret v=>exact q
 |brk=>exact q
 |cont=>exact q
theorem Inv.quiet {pins:List (Addr×Obj)}{U:St}{H:Hp}{s:Shared}(I:Inv X pins U H s):interactive X.env=false:=by simp [interactive,I.ok.kind]
def GB (te:TE):TS:=λD U H=>te U H λ_ H1=>D.nx U H1
theorem AZ (he:PE X e te) (hs:swapsWith e none pos.line X.env=pure false:=by rfl):PS X (.Expr e pos) (GB te):=by
 intro pins s U H D I h
 exact wpAny_Expr_any (thn (he pins s U H _ I h) λv s1 zz10=>by obtain ⟨x,H1,I1,r1,q1⟩:=zz10;exact ⟨U,H1,I1,q1⟩) I.quiet hs
def IZ (te:TE):TS:=λD U H=>te U H D.rt
theorem Dw (he:PE X e te):PS X (.Return (some e) pos) (IZ te):=by
 intro pins s U H D I h
 exact wpAny_Return_some (thn (he pins s U H _ I h) λv s1 zz11=>by obtain ⟨x,H1,I1,r1,q1⟩:=zz11;exact ⟨x,U,H1,I1,r1,q1⟩)
def Ja (c:TT) (t u:TS):TS:=λD U H=>c U H λb H1=>if b=true then t D U H1 else u D U H1
theorem GD {c:Expr}{a b:List Stmt}{tc:TT}(hc:PT X c tc) (ha:PSs X a t) (hb:PSs X b u):PS X (.If c a b pos) (Ja tc t u):=by
 intro pins s U H D I h
 refine wpAny_If (thn (hc pins s U H _ I h) λd s1 zz12=>?_)
 obtain ⟨H1,I1,q1⟩:=zz12
 cases d with
 |true=>exact ha pins s1 U H1 D I1 q1
 |false=>exact hb pins s1 U H1 D I1 q1
end
abbrev TG:=V->St->Hp->(St->Hp->Prop)->Prop
abbrev TGs:=List V->St->Hp->(St->Hp->Prop)->Prop
def PG (X:Cx) (J8:Expr) (t:TG):Prop :=
 ∀ (pins:List (Addr×Obj)) (s:Shared) (U:St) (H:Hp) (v:V) (u:Value) (Q:St->Hp->Prop),Inv X pins U H s->au v u->t v U H Q ->
  wpAny (model X.prog X.w) X.A (assign J8 X.env u) (λ_ s'=>∃ J7 H',Inv X pins J7 H' s'/\Q J7 H') X.xe s
def PGs (X:Cx) (ts:List Expr) (t:TGs):Prop :=
 ∀ (pins:List (Addr×Obj)) (s:Shared) (U:St) (H:Hp) (vs:List V) (us:List Value) (Q:St->Hp->Prop),Inv X pins U H s->ag vs us->t vs U H Q ->
  wpAny (model X.prog X.w) X.A (assignInOrder ((assignEach ts X.env).map (·.2)) us) (λ_ s'=>∃ J7 H',Inv X pins J7 H' s'/\Q J7 H') X.xe s
abbrev jj:=V->V->V->Hp->(Hp->Prop)->Prop
def dm (X:Cx) (t:jj):Prop :=
 ∀ (pins:List (Addr×Obj)) (s:Shared) (U:St) (H:Hp) (o i v:V) (ov iv u:Value) (Q:Hp->Prop),Inv X pins U H s->au o ov->au i iv->au v u->t o i v H Q ->
  wpAny (model X.prog X.w) X.A (setItem ov iv u) (λ_ s'=>∃ H',Inv X pins U H' s'/\Q H') X.xe s
section
variable {X:Cx}{pos:Pos}
def i4 (i:Nat):TG:=λv U H Q=>Q (U.set i (some v)) H
theorem A0 {i:Nat}{x:Str}(hN:X.N.Nodup) (hi:X.N[i]?=some x) (hx:Loc X.env.scope x) (hf:X.fn x=true\/X.env.scope.names.lookup x=some .local:=by first|exact .inl rfl|exact .inr rfl|assumption):PG X (.Name x pos) (i4 i):=by
 intro pins s U H v u Q I r h
 exact wpAny_assign_Name (fV I hN hi hx r (λs' I'=>⟨_,H,I',h⟩) hf)
def Jb:TGs:=λvs U H Q=>vs=[]/\Q U H
def tj (t:TG) (u:TGs):TGs:=λvs U H Q=>∃ v r,vs=v::r/\t v U H λJ7 H'=>u r J7 H' Q
theorem A1:PGs X [] Jb:=by
 intro pins s U H vs us Q I r h
 obtain ⟨e,h⟩:=h
 subst e
 cases r
 exact assignInOrder_nil ⟨U,H,I,h⟩
theorem cq {e:Expr}{es:List Expr}{t:TG}{u:TGs}(h1:PG X e t) (h2:PGs X es u)
  (hs:(assignEach (e::es) X.env).map (·.2)=assign e X.env::(assignEach es X.env).map (·.2):=by rfl):PGs X (e::es) (tj t u):=by
 intro pins s U H vs us Q I r h
 obtain ⟨v,vr,e1,h⟩:=h
 subst e1
 cases r with
 |cons r rr =>
  rw [hs]
  refine assignInOrder_cons (thn (h1 pins s U H _ _ _ I r h) λ_ s1 zz13=>?_)
  obtain ⟨σ1,H1,I1,q1⟩:=zz13
  exact h2 pins s1 σ1 H1 _ _ Q I1 rr q1
def n3 (K:PySem.W.Frag) (n:Nat) (t:TGs):TG:=λv U H Q=>∃ a xs,v=.ref a/\SqT K H a xs/\xs.length=n/\t xs U H Q
theorem Dx {es:List Expr}{k:Nat}{t:TGs}{n:Nat}(hc:X.calm=true) (h:PGs X es t)
  (hn:(assignEach es X.env).length=n:=by rfl) (Nb:(assignEach es X.env).findIdx? (·.1)=none:=by rfl):PG X (.Tuple es k pos) (n3 X.K n t):=by
 intro pins s U H v u Q I r hw
 obtain ⟨a,xs,e1,hq,hl,hw⟩:=hw
 subst e1
 cases r
 obtain ⟨its,rv,ht,hz⟩:=I.tuple hq
 refine assign_Tuple_tuple (I.ok.hd hc) ht (by simp [hn,<- hl,rv.length]) Nb λh' hx=>?_
 have I1:Inv X pins U H { s with heap:=h' }:=I.kept (t':=s.toks) λb o e=>hx b o (Nat.ne_of_lt (Heap.lt_size e)) e
 exact h pins _ U H xs _ Q I1 (by simpa using rv) hw
def d7 (to ti:TE) (t:jj):TG:=λv U H Q=>to U H λo H1=>ti U H1 λi H2=>t o i v H2 λH3=>Q U H3
theorem Dy {o i:Expr}{to ti:TE}{t:jj}(ho:PE X o to) (hi:PE X i ti) (hs:dm X t)
  (ha:∀ v,assign (.Subscript o i pos) X.env v=(do
   let ov <- holding [v] (eval o X.env)
   let iv <- holding [v,ov] (eval i X.env)
   standAt pos
   holding [v,ov,iv] (setItem ov iv v)
   release [v,ov,iv] []):=by intro _;rfl):PG X (.Subscript o i pos) (d7 to ti t):=by
 intro pins s U H v u Q I r h
 rw [ha]
 refine wpAny_bind (wpAny_holding (thn (ho pins s U H _ I h) λov s1 zz14=>?_))
 obtain ⟨x,H1,I1,r1,q1⟩:=zz14
 refine wpAny_bind (wpAny_holding (thn (hi pins s1 U H1 _ I1 q1) λiv s2 zz15=>?_))
 obtain ⟨y,H2,I2,r2,q2⟩:=zz15
 refine wpAny_bind (wpAny_standAt (wpAny_bind (wpAny_holding (thn (hs pins s2 U H2 x y v ov iv u _ I2 r1 r2 r q2) λ_ s3 zz16=>?_))))
 obtain ⟨H3,I3,q3⟩:=zz16
 exact wpAny_release ⟨U,H3,I3,q3⟩
def fF (te:TE) (g:TG):TS:=λD U H=>te U H λx H1=>g x U H1 D.nx
theorem Dz {tg e:Expr}{te:TE}{g:TG}(he:PE X e te) (hg:PG X tg g) (hs:swapsWithSole [tg] e pos.line X.env=pure false:=by rfl) (hw:swappedStores [tg] e X.env=pure none:=by rfl)
  (h1:(assignEach [tg] X.env).map (·.2)=[assign tg X.env]:=by rfl):PS X (.Assign [tg] e pos) (fF te g):=by
 intro pins s U H D I h
 refine wpAny_Assign_stores (thn (he pins s U H _ I h) λv s1 ⟨x,H1,I1,r1,q1⟩=>?_) hs hw
 rw [h1]
 exact thn (hg pins s1 U H1 x v _ I1 r1 q1) λ_ s2 q=>q
theorem DA {i:Nat}{x:Str}{e:Expr}{te:TE}{KA:Pos}(hN:X.N.Nodup) (hi:X.N[i]?=some x) (hx:Loc X.env.scope x) (he:PE X e te) (hs:swapsWith e (some (.Name x KA)) pos.line X.env=pure false:=by rfl) (hf:X.fn x=true\/X.env.scope.names.lookup x=some .local:=by first|exact .inl rfl|exact .inr rfl|assumption) :
  PS X (.Assign [.Name x KA] e pos) (fF te (i4 i)):=by
 intro pins s U H D I h
 refine wpAny_Assign_Name (thn (he pins s U H _ I h) λv s1 ⟨y,H1,I1,r1,q1⟩=>?_) hs
 exact fV I1 hN hi hx r1 (λs2 I2=>⟨_,H1,I2,q1⟩) hf
end
section
variable {X:Cx}{pos:Pos}
end
structure It where
 go:Nat->Hp->Prop
 yld:Nat->Hp->V->Hp->Prop
 stop:Nat->Hp->Prop
def bK (X:Cx) (pins:List (Addr×Obj)) (H:Hp) (b:Addr):Prop :=
 H b=none/\b≠X.env.locals/\b∉X.fs/\(b∈X.ex\/X.s₀.heap.objs.size<=b)/\(∀ x c,X.env.cells.lookup x=some c->c≠b)/\∀ p∈X.pn++pins,p.1≠b
theorem Inv.fpOk {X:Cx}{pins:List (Addr×Obj)}{U:St}{H H':Hp}{s:Shared}{b:Addr}(I:Inv X pins U H s) (hb:s.heap.objs.size<=b) (hn:H' b=none):bK X pins H' b:=by
 refine ⟨hn,Nat.ne_of_gt (Nat.lt_of_lt_of_le I.lt hb),I.nofs hb,.inr (Nat.le_trans I.sz hb),λx c e z=>?_,λp hp z=>?_⟩
 ·obtain ⟨v,q⟩:=I.cell x c e
  exact absurd (Nat.lt_of_lt_of_le q.lt (by rw [z];exact hb)) (Nat.lt_irrefl _)
 ·exact absurd (Nat.lt_of_lt_of_le (Heap.lt_size (I.pin p hp).1) (by rw [z];exact hb)) (Nat.lt_irrefl _)
structure Turn (P:Program) (w:World) (K:PySem.W.Frag) (tg:Expr) (J:It) (fp:List Addr) (it:Addr) (tn:Nat->Heap->Prop):Prop where
 mem:it∈fp
 obj:∀ i h,tn i h->∀ b∈fp,∃ o,h.get? b=some o/\∀ v,o.data≠.cell v
 keep:∀ i h h',tn i h->(∀ b∈fp,∀ o,h.get? b=some o->h'.get? b=some o)->tn i h'
 item:∀ (X:Cx),X.prog=P->X.w=w->X.K=K->X.calm=true->∀ (i:Nat) (pins:List (Addr×Obj)) (s:Shared) (U:St) (H:Hp) (E:Value->Shared->Prop),Inv X pins U H s->(∀ b∈fp,bK X pins H b)->tn i s.heap->J.go i H ->
  wpAny (model P w) X.A (pyNext (.ref it)) (λr s1=>∃ u,r=some u /\
   wpAny (model P w) X.A (letOwnedTupleGo tg (.ref it) u) (λ_ s2=>∃ x H',Inv X pins U H' s2/\au x u/\J.yld i H x H'/\tn (i+1) s2.heap/\∀ b∈fp,H' b=none) E s1) E s
 done:∀ (X:Cx),X.prog=P->X.w=w->X.K=K->X.calm=true->∀ (i:Nat) (pins:List (Addr×Obj)) (s:Shared) (U:St) (H:Hp) (E:Value->Shared->Prop),Inv X pins U H s->(∀ b∈fp,bK X pins H b)->tn i s.heap->J.stop i H ->
  wpAny (model P w) X.A (pyNext (.ref it)) (λr s1=>r=none/\Inv X pins U H s1) E s
 self:∀ (A:Around) (i:Nat) (s:Shared) (Q:Value->Shared->Prop) (E:Value->Shared->Prop),tn i s.heap->Q (.ref it) s->wpAny (model P w) A (pyIter (.ref it)) Q E s
abbrev TI:=St->Hp->(It->Hp->Prop)->Prop
def PIE (X:Cx) (pins:List (Addr×Obj)) (U:St) (tg:Expr) (R:It->Hp->Prop) (itv:Value) (s2:Shared):Prop :=
 ∃ (it:Addr) (fp:List Addr) (tn:Nat->Heap->Prop) (J:It) (H':Hp),itv=.ref it/\Inv X pins U H' s2/\Turn X.prog X.w X.K tg J fp it tn/\tn 0 s2.heap/\(∀ b∈fp,bK X pins H' b)/\R J H'
def PI (X:Cx) (tg iter:Expr) (wi:TI):Prop :=
 ∀ (pins:List (Addr×Obj)) (s:Shared) (U:St) (H:Hp) (R:It->Hp->Prop),Inv X pins U H s->wi U H R ->
  wpAny (model X.prog X.w) X.A (eval iter X.env) (λv s1=>wpAny (model X.prog X.w) X.A (pyIter v) (PIE X pins U tg R) X.xe s1) X.xe s
theorem m8 {M:Model}{A:Around}{E:Value->Shared->Prop}{s:Shared}{tg:Expr}{it:Addr}{u:Value}{o:Obj}{n:String}{vs:Array Value}{Q:Unit->Shared->Prop}(ho:s.heap.get? it=some o) (hc:o.cls=.type n) (hd:o.data=.fields vs)
  (hn:["enumerate","zip","dict_itemiterator","dict_reverseitemiterator","odict_iterator","itertools.zip_longest","itertools.pairwise"].contains n=false) (hQ:Q () s):wpAny M A (letOwnedTupleGo tg (.ref it) u) Q E s:=by
 unfold letOwnedTupleGo
 cases tg<;>first
  |exact wpAny_pure hQ
  |(cases u<;>first
    |exact wpAny_pure hQ
    |(refine wpAny_bind (wpAny_load ho ?_)
      rw [hc,hd]
      show wpAny M A (if (["enumerate","zip","dict_itemiterator","dict_reverseitemiterator","odict_iterator","itertools.zip_longest","itertools.pairwise"].contains n&&vs[0]?==some (rawInt _))=true then _ else _) Q E s
      rw [if_neg (by intro h;rw [hn,Bool.false_and] at h;cases h)]
      exact wpAny_pure hQ))
def Itl (K:PySem.W.Frag) (a:Addr):It :=
 ⟨λi H=>∃ xs x,SqL K H a xs/\xs[i]?=some x,λi H x H'=>H'=H/\∀ xs,SqL K H a xs->xs[i]?=some x,λi H=>∃ xs,SqL K H a xs/\xs.length<=i⟩
def Itr (lo:Int) (n:Nat):It:=⟨λi _=>i<n,λi H x H'=>H'=H/\x=.int (lo+i),λi _=>n<=i⟩
theorem x8 {P:Program}{w:World}{K:PySem.W.Frag}{tg:Expr}(a it:Addr):Turn P w K tg (Itl K a) [it] it (λi h=>h.IsListIter it a i) where
 mem:=by simp
 obj:=λi h st b hb=>by
  have e:b=it:=by simpa using hb
  subst e
  obtain ⟨o,e,c,d⟩:=st
  exact ⟨o,e,λv z=>by rw [d] at z;cases z⟩
 keep:=λi h h' st k=>st.at λo e=>k it (by simp) o e
 item:=by
  intro X hP hw hK hc i pins s U H E I hf st hg
  subst hP hw hK
  obtain ⟨xs,x,hq,hx⟩:=hg
  obtain ⟨its,rv,p,hz⟩:=I.list hq
  obtain ⟨u,hu,ru⟩:=rv.get hx
  obtain ⟨f0,f1,f2,f3,f4,f5⟩:=hf it (by simp)
  refine wpAny_pyNext_list_item st p.isList (x:=u) (by simpa using hu) λh' OS sb=>?_
  have I1:Inv X pins U H { s with heap:=h' }:=I.turned (t':=s.toks) (λb o hb e=>(sb.2 b hb).trans e) f0 f1 f3 f4 f5
  obtain ⟨o,e,c,d⟩:=id OS
  exact ⟨u,rfl,m8 (s:={ s with heap:=h' }) e c d (by decide) ⟨x,H,I1,ru,⟨rfl,λys hy=>by rw [I.list_inj hy hq];exact hx⟩,OS,λb hb=>(hf b hb).1⟩⟩
 done:=by
  intro X hP hw hK hc i pins s U H E I hf st hg
  subst hP hw hK
  obtain ⟨xs,hq,hx⟩:=hg
  obtain ⟨its,rv,p,hz⟩:=I.list hq
  obtain ⟨f0,f1,f2,f3,f4,f5⟩:=hf it (by simp)
  have hl:=rv.length
  exact wpAny_pyNext_list_end (I.ok.hd hc) st p.isList (by simp;omega) λh' eb=>⟨rfl,I.turned (t':=s.toks) (λb o hb e=>eb b o hb e) f0 f1 f3 f4 f5⟩
 self:=λ_ _ _ _ _ st h=>wpAny_pyIter_listiter st h
theorem xu {P:Program}{w:World}{K:PySem.W.Frag}{tg:Expr}(it:Addr) (lo:Int) (n:Nat):Turn P w K tg (Itr lo n) [it] it (λi h=>IsRangeIter h it (lo+(i:Nat) * 1) ((n:Int) - (i:Nat)) 1) where
 mem:=by simp
 obj:=λi h st b hb=>by
  have e:b=it:=by simpa using hb
  subst e
  exact ⟨_,st,λv z=>by
   have z':Data.fields _=Data.cell v:=z
   cases z'⟩
 keep:=λi h h' st k=>k it (by simp) _ st
 item:=by
  intro X hP hw hK hc i pins s U H E I hf st hg
  subst hP hw hK
  obtain ⟨f0,f1,f2,f3,f4,f5⟩:=hf it (by simp)
  have W:=Walks.range (prog:=X.prog) (w:=X.w) (I.ok.hd hc) it lo 1 n
  refine W.item i s _ _ hg st λv h' tk hv OS kk=>?_
  obtain ⟨t,rfl⟩:=hv
  have I1:Inv X pins U H { s with heap:=h',toks:=tk }:=I.turned (λb o hb e=>kk b o (by simpa using hb) e) f0 f1 f3 f4 f5
  refine ⟨_,rfl,m8 (s:={ s with heap:=h',toks:=tk }) (n:="range_iterator") OS rfl rfl (by decide) ⟨.int (lo+i),H,I1,⟨t,?_⟩,⟨rfl,rfl⟩,OS,λb hb=>(hf b hb).1⟩⟩
  rw [Int.mul_one]
 done:=by
  intro X hP hw hK hc i pins s U H E I hf st hg
  subst hP hw hK
  obtain ⟨f0,f1,f2,f3,f4,f5⟩:=hf it (by simp)
  exact wpAny_pyNext_range_end (I.ok.hd hc) st (by have:n<=i:=hg;omega) λh' eb=>⟨rfl,I.turned (t':=s.toks) (λb o hb e=>eb b o hb e) f0 f1 f3 f4 f5⟩
 self:=λ_ _ _ _ _ st h=>wpAny_pyIter_rangeiter st h
section
variable {X:Cx}{tg:Expr}
def GF (K:PySem.W.Frag) (tl:TE):TI:=λU H R=>tl U H λx H1=>∃ a,x=.ref a/\(∃ xs,SqL K H1 a xs)/\R (Itl K a) H1
theorem A3 {l:Expr}{tl:TE}(hl:PE X l tl):PI X tg l (GF X.K tl):=by
 intro pins s U H R I h
 refine thn (hl pins s U H _ I h) λv s1 zz17=>?_
 obtain ⟨x,H1,I1,r1,q1⟩:=zz17
 obtain ⟨a,e,⟨xs,hq⟩,q⟩:=q1
 subst e
 cases r1
 obtain ⟨its,rv,p,hz⟩:=I1.list hq
 refine wpAny_pyIter_list p.isList ?_
 refine ⟨s1.heap.objs.size,[s1.heap.objs.size],_,_,H1,rfl,I1.kept (t':=s1.toks) λb o e=>Heap.get?_push_of_some _ e,x8 a _,⟨_,Heap.get?_push_size _ rfl,rfl,rfl⟩,λb hb=>?_,q⟩
 have e:b=s1.heap.objs.size:=by simpa using hb
 subst e
 exact I1.fpOk (Nat.le_refl _) (I1.hok.fresh (Nat.le_refl _))
theorem zh {pins:List (Addr×Obj)}{U:St}{H:Hp}{s:Shared}{R:It->Hp->Prop}{E:Value->Shared->Prop}{lo hi:Int}{t u v:Tok}{tk:Nat}(I:Inv X pins U H s) (h1:-(2 ^ 62)<=lo) (h2:lo<2 ^ 62) (h3:-(2 ^ 62)<=hi) (h4:hi<2 ^ 62)
  (q:R (Itr lo (hi - lo).toNat) H):wpAny (model X.prog X.w) X.A (pyIter (.ref s.heap.objs.size)) (PIE X pins U tg R) E { s with heap:=s.heap.push { cls:=.type "range",data:=.fields #[.int lo t,.int hi u,.int 1 v] },toks:=tk }:=by
 refine wpAny_pyIter_range (IsRange.new ..) (small_one h1 h2 h3 h4) ?_
 have I1:Inv X pins U H { s with heap:=s.heap.push { cls:=.type "range",data:=.fields #[.int lo t,.int hi u,.int 1 v] },toks:=tk }:=I.kept λb o e=>Heap.get?_push_of_some _ e
 refine ⟨(s.heap.push { cls:=.type "range",data:=.fields #[.int lo t,.int hi u,.int 1 v] }).objs.size,[(s.heap.push { cls:=.type "range",data:=.fields #[.int lo t,.int hi u,.int 1 v] }).objs.size],_,_,H,rfl,
  I1.kept (t':=tk) λb o e=>Heap.get?_push_of_some _ e,xu _ lo (hi - lo).toNat,?_,λb hb=>?_,q⟩
 ·have e1:lo+((0:Nat):Int) * 1=lo:=by simp
  have e2:(((hi - lo).toNat:Nat):Int) - ((0:Nat):Int)=Builtin.Range.rangeSize lo hi 1:=by rw [rangeSize_one];split<;>omega
  show IsRangeIter _ _ (lo+((0:Nat):Int) * 1) ((((hi - lo).toNat:Nat):Int) - ((0:Nat):Int)) 1
  rw [e1,e2]
  exact Heap.get?_push_size _ rfl
 ·have e:b=(s.heap.push { cls:=.type "range",data:=.fields #[.int lo t,.int hi u,.int 1 v] }).objs.size:=by simpa using hb
  subst e
  exact I1.fpOk (Nat.le_refl _) (I1.hok.fresh (Nat.le_refl _))
def GG (ta:TA):TI:=λU H R=>ta U H λvs H1=>∃ j:Int,vs=[.int j] /\ -(2 ^ 62)<=j/\j<2 ^ 62/\R (Itr 0 j.toNat) H1
theorem x9 {a:Expr}{ta:TA}{p pos:Pos}(hg:Gl X "range") (hm:X.mg "range"=none) (ha:PA X [a] ta) (hs:starEach [a] X.env=[(false,eval a X.env)]:=by rfl):PI X tg (.Call (.Name "range" p) [a] [] pos) (GG ta):=by
 intro pins s U H R I h
 refine Call_ (eT I hg hm boot_range (PyProof.Rows.callWith_type1 (thn (ha pos pins s U H _ I h) λus s1 ⟨vs,H1,I1,r1,q1⟩=>?_) hs rfl))
 obtain ⟨j,e,q1,q2,q⟩:=q1
 subst e
 cases r1 with
 |cons r rr =>
  cases rr
  obtain ⟨t,rfl⟩:=r
  exact call_range_1 (zh I1 (by omega) (by omega) q1 q2 (by simpa using q))
def uM (wi:TI) (g:TG) (tb:TS):TS:=λD U H=>wi U H λJ H1=>∃ W:Nat->Nat->St->Hp->Prop,(∃ m,W 0 m U H1)/\∀ i m U H,W i m U H ->
 (J.stop i H/\D.nx U H)\/(J.go i H/\∃ N:St->Hp->Prop,(∀ J7 H',N J7 H'->∃ m',m'<m/\W (i+1) m' J7 H')/\∀ x H',J.yld i H x H'->g x U H' λKO H2=>tb { D with nx:=N,ct:=N,bk:=D.nx } KO H2)
noncomputable def eU (fp:List Addr) (h:Heap):List (Addr×Obj):=fp.filterMap λb=>(h.get? b).map λo=>(b,o)
theorem eI {fp:List Addr}{h:Heap}{b:Addr}{o:Obj}(hb:b∈fp) (e:h.get? b=some o):(b,o)∈eU fp h:=List.mem_filterMap.mpr ⟨b,hb,by rw [e];rfl⟩
theorem ya {fp:List Addr}{h:Heap}{p:Addr×Obj}(hp:p∈eU fp h):p.1∈fp/\h.get? p.1=some p.2:=by
 obtain ⟨b,hb,e⟩:=List.mem_filterMap.mp hp
 cases q:h.get? b with
 |none=>rw [q] at e;cases e
 |some o =>
  rw [q] at e
  have e':(b,o)=p:=Option.some.inj e
  subst e'
  exact ⟨hb,q⟩
theorem Inv.pinned {pins:List (Addr×Obj)}{U:St}{H:Hp}{s:Shared}{fp:List Addr}(I:Inv X pins U H s) (hf:∀ b∈fp,bK X pins H b) (ho:∀ b∈fp,∃ o,s.heap.get? b=some o/\∀ v,o.data≠.cell v):Inv X (pins++eU fp s.heap) U H s :=
 I.pins_of λp hp=>(List.mem_append.mp hp).elim (λz=>I.pin p (List.mem_append_right _ z)) λz=>by
  obtain ⟨hb,e⟩:=ya z
  obtain ⟨f0,f1,f2,_⟩:=hf p.1 hb
  obtain ⟨o,e',d⟩:=ho p.1 hb
  rw [e] at e';cases e'
  exact ⟨e,f0,f1,f2,d⟩
theorem Inv.unpinned {pins pl:List (Addr×Obj)}{U:St}{H:Hp}{s:Shared}(I:Inv X (pins++pl) U H s):Inv X pins U H s:=I.pins_of λp hp=>I.pin p (List.mem_append_right _ (List.mem_append_left _ hp))
theorem DB {iter:Expr}{body:List Stmt}{wi:TI}{g:TG}{tb:TS}{pos:Pos}(hp:PassesOwn (model X.prog X.w) X.A X.env X.xe) (hc:X.calm=true) (hi:PI X tg iter wi) (hg:PG X tg g) (hb:PSs X body tb)
  (hs:∀ x,foldedSetIterable iter X.env x=pure x:=by intro _;rfl):PS X (.For tg iter body [] pos) (uM wi g tb):=by
 intro pins s U H D I h
 refine wpAny_For (thn (hi pins s U H _ I h) λv s1 h1=>thn h1 λitv s2 h2=>?_) hs
 obtain ⟨it,fp,tn,J,H2,e,I2,T,QK,f2,W,⟨m0,w0⟩,turn⟩:=h2
 subst e
 -- what stays true of the QL objects through the loop
 have stat:∀ {H':Hp},(∀ b∈fp,H' b=none)->∀ b∈fp,bK X pins H' b:=λhn b hb=>⟨hn b hb,(f2 b hb).2⟩
 refine codeAny_forLoop_any (λn s'=>∃ i J7 H',Inv X pins J7 H' s'/\tn i s'.heap/\(∀ b∈fp,H' b=none)/\W i n J7 H') ?_ m0 ⟨0,U,H2,I2,QK,λb hb=>(f2 b hb).1,w0⟩
 rintro n s3 ⟨i,OT,H3,I3,QM,QN,w3⟩
 rcases turn i n OT H3 w3 with ⟨stop,qn⟩|⟨go,N,hN,step⟩
 ·refine wpAny_passesOwn hp (thn (T.done X rfl rfl rfl hc i pins s3 OT H3 X.xe I3 (stat QN) QM stop) λr s4 ⟨hr,I4⟩=>?_)
  subst hr
  exact wpAny_execs_nil ⟨OT,H3,I4,qn⟩
 ·refine wpAny_passesOwn hp (thn (T.item X rfl rfl rfl hc i pins s3 OT H3 X.xe I3 (stat QN) QM go) λr s4 ⟨u,hr,h4⟩=>?_)
  subst hr
  refine wpAny_passesOwn hp (thn h4 λ_ s5 zz18=>?_)
  obtain ⟨x,H5,I5,r5,y5,Pd,fr5⟩:=zz18
  have I5':=I5.pinned (stat fr5) (T.obj _ _ Pd)
  refine wpAny_passesOwn hp (thn (hg _ s5 OT H5 x u _ I5' r5 (step x H5 y5)) λ_ s6 zz19=>?_)
  obtain ⟨O7,H6,I6,q6⟩:=zz19
  refine wpAny_passesOwn hp (thn (hb _ s6 O7 H6 _ I6 q6) λf s7 q7=>?_)
  have again:∀ {Nd:St}{H7:Hp},Inv X (pins++eU fp s5.heap) Nd H7 s7->N Nd H7->∃ m,m<n/\∃ i J7 H',Inv X pins J7 H' s7/\tn i s7.heap/\(∀ b∈fp,H' b=none)/\W i m J7 H':=fun {Nd H7} I7 n7=>by
   obtain ⟨m',hm,w7⟩:=hN Nd H7 n7
   refine ⟨m',hm,i+1,Nd,H7,I7.unpinned,T.keep _ _ _ Pd λb hb o e=>(I7.pin (b,o) (List.mem_append_right _ (List.mem_append_right _ (eI hb e)))).1,λb hb=>?_,w7⟩
   obtain ⟨o,e,d⟩:=T.obj _ _ Pd b hb
   exact (I7.pin (b,o) (List.mem_append_right _ (List.mem_append_right _ (eI hb e)))).2.1
  cases f with
  |next=>obtain ⟨Nd,H7,I7,n7⟩:=q7;exact again I7 n7
  |cont=>obtain ⟨Nd,H7,I7,n7⟩:=q7;exact again I7 n7
  |brk=>obtain ⟨Nd,H7,I7,q7⟩:=q7;exact ⟨Nd,H7,I7.unpinned,q7⟩
  |ret v=>obtain ⟨x7,Nd,H7,I7,r7,q7⟩:=q7;exact ⟨x7,Nd,H7,I7.unpinned,r7,q7⟩
end
abbrev R2:=V->V->Hp->VK->Prop
def OpR (X:Cx) (f:Value->Value->Sem Value) (r:R2):Prop :=
 ∀ (pins:List (Addr×Obj)) (s:Shared) (U:St) (H:Hp) (x y:V) (v u:Value) (Q:VK),Inv X pins U H s->au x v->au y u->r x y H Q ->
  wpAny (model X.prog X.w) X.A (f v u) (EP X pins U Q) X.xe s
def UnR (X:Cx) (f:Value->Sem Value) (r:V->Hp->VK->Prop):Prop :=
 ∀ (pins:List (Addr×Obj)) (s:Shared) (U:St) (H:Hp) (x:V) (v:Value) (Q:VK),Inv X pins U H s->au x v->r x H Q ->
  wpAny (model X.prog X.w) X.A (f v) (EP X pins U Q) X.xe s
def bu (X:Cx) (f:Value) (r:List V->Hp->VK->Prop):Prop :=
 ∀ (pins:List (Addr×Obj)) (s:Shared) (U:St) (H:Hp) (xs:List V) (us:List Value) (Q:VK),Inv X pins U H s->ag xs us->r xs H Q ->
  wpAny (model X.prog X.w) X.A (call f us) (EP X pins U Q) X.xe s
def Jc (X:Cx) (r:V->Hp->(Bool->Hp->Prop)->Prop):Prop :=
 ∀ (pins:List (Addr×Obj)) (s:Shared) (U:St) (H:Hp) (x:V) (v:Value) (Q:Bool->Hp->Prop),Inv X pins U H s->au x v->r x H Q ->
  wpAny (model X.prog X.w) X.A (truthy v) (TP X pins U Q) X.xe s
def tOp (r:R2) (ta tb:TE):TE:=λU H Q=>ta U H λx H1=>tb U H1 λy H2=>r x y H2 Q
def tUn (r:V->Hp->VK->Prop) (ta:TE):TE:=λU H Q=>ta U H λx H1=>r x H1 Q
def rI (C:Int->Int->Prop) (g:Int->Int->V):R2:=λx y H Q=>∃ i j,x=.int i/\y=.int j/\C i j/\Q (g i j) H
def rI0 (g:Int->Int->V):R2:=λx y H Q=>∃ i j,x=.int i/\y=.int j/\Q (g i j) H
def rU (g:Int->V):V->Hp->VK->Prop:=λx H Q=>∃ i,x=.int i/\Q (g i) H
section
variable {X:Cx}{a b c:Expr}{ta tb tc:TE}{pos:Pos}
theorem n4 (ha:PE X a ta) (hb:PE X b tb){pins:List (Addr×Obj)}{s:Shared}{U:St}{H:Hp}{R:V->V->Hp->Prop}(I:Inv X pins U H s)
  (h:ta U H λx H1=>tb U H1 λy H2=>R x y H2){Q:Value->Shared->Prop}{f:Value->Value->Sem Value}
  (hf:∀ v u s2 x y H2,Inv X pins U H2 s2->au x v->au y u->R x y H2->wpAny (model X.prog X.w) X.A (f v u) Q X.xe s2) :
  wpAny (model X.prog X.w) X.A (eval a X.env) (λv Kb=>wpAny (model X.prog X.w) X.A (eval b X.env) (λu Pe=>wpAny (model X.prog X.w) X.A (f v u) Q X.xe Pe) X.xe Kb) X.xe s:=by
 refine thn (ha pins s U H _ I h) λv s1 zz20=>?_
 obtain ⟨x,H1,I1,r1,q1⟩:=zz20
 refine thn (hb pins s1 U H1 _ I1 q1) λu s2 zz21=>?_
 obtain ⟨y,H2,I2,r2,q2⟩:=zz21
 exact hf v u s2 x y H2 I2 r1 r2 q2
theorem GH {op:Operator}{r:R2}(ho:OpR X (binaryOp op) r) (ha:PE X a ta) (hb:PE X b tb):PE X (.BinOp a op b pos) (tOp r ta tb):=by
 intro pins s U H Q I h
 exact wpAny_BinOp (n4 ha hb I h λv u s2 x y H2 I2 rx ry q=>ho pins s2 U H2 x y v u Q I2 rx ry q)
theorem GI {op:UnaryOp}{r:V->Hp->VK->Prop}(ho:UnR X (unaryOp op) r) (ha:PE X a ta):PE X (.UnaryOp op a pos) (tUn r ta):=by
 intro pins s U H Q I h
 exact UnaryOp_ (thn (ha pins s U H _ I h) λv s1 zz22=>by obtain ⟨x,H1,I1,r1,q1⟩:=zz22;exact ho pins s1 U H1 x v Q I1 r1 q1)
theorem opI {f:Value->Value->Sem Value}{C:Int->Int->Prop}{g:Int->Int->Int}
  (rule:∀ (i j:Int) (t u:Tok) (s:Shared) (Q:Value->Shared->Prop) (E:Value->Shared->Prop),C i j->Q (.int (g i j) s.toks) { s with toks:=s.toks+1 }->wpAny (model X.prog X.w) X.A (f (.int i t) (.int j u)) Q E s) :
  OpR X f (rI C λi j=>.int (g i j)):=by
 intro pins s U H x y v u Q I rx ry h
 obtain ⟨i,j,rfl,rfl,hc,q⟩:=h
 obtain ⟨t,rfl⟩:=rx
 obtain ⟨t',rfl⟩:=ry
 exact rule i j t t' s _ _ hc ⟨.int (g i j),H,I.tok _,⟨_,rfl⟩,q⟩
theorem uN {f:Value->Value->Sem Value}{g:Int->Int->Int}
  (rule:∀ (i j:Int) (t u:Tok) (s:Shared) (Q:Value->Shared->Prop) (E:Value->Shared->Prop),Q (.int (g i j) s.toks) { s with toks:=s.toks+1 }->wpAny (model X.prog X.w) X.A (f (.int i t) (.int j u)) Q E s) :
  OpR X f (rI0 λi j=>.int (g i j)):=by
 intro pins s U H x y v u Q I rx ry h
 obtain ⟨i,j,rfl,rfl,q⟩:=h
 obtain ⟨t,rfl⟩:=rx
 obtain ⟨t',rfl⟩:=ry
 exact rule i j t t' s _ _ ⟨.int (g i j),H,I.tok _,⟨_,rfl⟩,q⟩
theorem jl {f:Value->Value->Sem Value}{g:Int->Int->Bool}
  (rule:∀ (i j:Int) (t u:Tok) (s:Shared) (Q:Value->Shared->Prop) (E:Value->Shared->Prop),Q (.bool (g i j)) s->wpAny (model X.prog X.w) X.A (f (.int i t) (.int j u)) Q E s) :
  OpR X f (rI0 λi j=>.bl (g i j)):=by
 intro pins s U H x y v u Q I rx ry h
 obtain ⟨i,j,rfl,rfl,q⟩:=h
 obtain ⟨t,rfl⟩:=rx
 obtain ⟨t',rfl⟩:=ry
 exact rule i j t t' s _ _ ⟨.bl (g i j),H,I,rfl,q⟩
def gZ (i j:Int):Prop:=(-(2 ^ 64)<i/\i<2 ^ 64)\/(-(2 ^ 64)<j/\j<2 ^ 64)
theorem gZ.ok {i j:Int}(h:gZ i j):IntMulOk i j:=by
 rcases h with ⟨h1,h2⟩|⟨h1,h2⟩
 ·exact .of_left (intBits_le_64 h1 h2)
 ·exact .of_right (intBits_le_64 h1 h2)
theorem xv (k:Nat):(0:Int)<=2 ^ k:=by
 rw [two_pow_cast]
 exact Int.natCast_nonneg _
theorem DC:OpR X (binaryOp .Add) (rI0 λi j=>.int (i+j)):=uN λ_ _ _ _ _ _ _ q=>add_int q
theorem DD:OpR X (binaryOp .Sub) (rI0 λi j=>.int (i - j)):=uN λ_ _ _ _ _ _ _ q=>sub_int q
theorem DE:OpR X (binaryOp .Mult) (rI gZ λi j=>.int (i * j)):=opI λ_ _ _ _ _ _ _ hc q=>mul_int q hc.ok
theorem DF:OpR X (binaryOp .Mod) (rI (λ_ j=>0<j) λi j=>.int (i % j)):=opI λi j _ _ _ _ _ hc q=>by
 have h1:(0:Int)<j:=hc
 exact mod_int' (by omega) (by rw [Int.fmod_eq_emod_of_nonneg i (by omega)];exact q)
theorem DG:OpR X (binaryOp .RShift) (rI (λ_ j=>0<=j) λi j=>.int (i / 2 ^ j.toNat)):=opI λi j _ _ _ _ _ hc q =>
 rshift_int hc (by rw [Int.fdiv_eq_ediv_of_nonneg i (xv _)];exact q)
theorem unI {f:Value->Sem Value}{g:Int->Int}
  (rule:∀ (i:Int) (t:Tok) (s:Shared) (Q:Value->Shared->Prop) (E:Value->Shared->Prop),Q (.int (g i) s.toks) { s with toks:=s.toks+1 }->wpAny (model X.prog X.w) X.A (f (.int i t)) Q E s) :
  UnR X f (rU λi=>.int (g i)):=by
 intro pins s U H x v Q I rx h
 obtain ⟨i,rfl,q⟩:=h
 obtain ⟨t,rfl⟩:=rx
 exact rule i t s _ _ ⟨.int (g i),H,I.tok _,⟨_,rfl⟩,q⟩
theorem DH:UnR X (unaryOp .USub) (rU λi=>.int (-i)):=unI λ_ _ _ _ _ q=>neg_int q
end
noncomputable def uO:V->V->Bool
 |.non,.non=>true|.non,.int _=>true|.int _,.non=>true|.non,.bl _=>true|.bl _,.non=>true|.non,.str _=>true|.str _,.non=>true
 |.int _,.int _=>true|.bl _,.bl _=>true|.str _,.str _=>true|.byt _,.byt _=>true
 |.int _,.str _=>true|.str _,.int _=>true|.bl _,.str _=>true|.str _,.bl _=>true
 |_,_=>false
def rEq:R2:=λx y H Q=>uO x y=true/\Q (.bl (decide (x=y))) H
def rNe:R2:=λx y H Q=>uO x y=true/\Q (.bl (!decide (x=y))) H
theorem qv {i j:Int}:decide (V.int i=V.int j)=(i==j):=by
 rw [Bool.eq_iff_iff]
 simp
theorem rK {i j:Bool}:decide (V.bl i=V.bl j)=(i==j):=by
 rw [Bool.eq_iff_iff]
 simp
theorem qw {i j:Str}:decide (V.str i=V.str j)=(i==j):=by
 rw [Bool.eq_iff_iff]
 simp
theorem qy {i j:Array UInt8}:decide (V.byt i=V.byt j)=(i.toList==j.toList):=by
 rw [Bool.eq_iff_iff]
 cases i
 cases j
 simp
section
variable {X:Cx}{a b c:Expr}{ta tb tc:TE}{pos:Pos}
theorem aR {pins:List (Addr×Obj)}{U:St}{H:Hp}{s:Shared}{Q:VK}{k k':Bool}(I:Inv X pins U H s) (q:Q (.bl k) H) (e:k=k'):EP X pins U Q (.bool k') s:=by
 subst e
 exact ⟨.bl k,H,I,rfl,q⟩
theorem m9:OpR X (compareOp .Eq) rEq:=by
 intro pins s U H x y v u Q I rx ry h
 obtain ⟨hs,q⟩:=h
 cases x with
 |non =>
  cases rx
  cases y with
  |non=>cases ry;exact PySem.EqNone.eq_none_none (aR I q (by simp))
  |bl j=>cases ry;exact PySem.EqNone.eq_none_bool (aR I q (by simp))
  |int j=>obtain ⟨t',rfl⟩:=ry;exact PySem.EqNone.eq_none_int (aR I q (by simp))
  |str j=>obtain ⟨t',rfl⟩:=ry;exact PySem.EqNone.eq_none_str (aR I q (by simp))
  |_=>exact absurd (show false=true from hs) Bool.false_ne_true
 |bl i =>
  cases rx
  cases y with
  |non=>cases ry;exact PySem.EqNone.eq_bool_none (aR I q (by simp))
  |bl j=>cases ry;exact eq_bool (aR I q rK)
  |str j=>obtain ⟨t',rfl⟩:=ry;exact PySem.EqMixed.eq_bool_str (aR I q (by simp))
  |_=>exact absurd (show false=true from hs) Bool.false_ne_true
 |int i =>
  obtain ⟨t,rfl⟩:=rx
  cases y with
  |non=>cases ry;exact PySem.EqNone.eq_int_none (aR I q (by simp))
  |int j=>obtain ⟨t',rfl⟩:=ry;exact eq_int (aR I q qv)
  |str j=>obtain ⟨t',rfl⟩:=ry;exact PySem.EqMixed.eq_int_str (aR I q (by simp))
  |_=>exact absurd (show false=true from hs) Bool.false_ne_true
 |str i =>
  obtain ⟨t,rfl⟩:=rx
  cases y with
  |non=>cases ry;exact PySem.EqNone.eq_str_none (aR I q (by simp))
  |bl j=>cases ry;exact PySem.EqMixed.eq_str_bool (aR I q (by simp))
  |int j=>obtain ⟨t',rfl⟩:=ry;exact PySem.EqMixed.eq_str_int (aR I q (by simp))
  |str j=>obtain ⟨t',rfl⟩:=ry;exact eq_str (aR I q qw)
  |_=>exact absurd (show false=true from hs) Bool.false_ne_true
 |byt i =>
  obtain ⟨t,rfl⟩:=rx
  cases y with
  |byt j=>obtain ⟨t',rfl⟩:=ry;exact PySem.W.eq_bytes (aR I q qy)
  |_=>exact absurd (show false=true from hs) Bool.false_ne_true
 |_=>cases y<;>exact absurd (show false=true from hs) Bool.false_ne_true
theorem ni:OpR X (compareOp .NotEq) rNe:=by
 intro pins s U H x y v u Q I rx ry h
 obtain ⟨hs,q⟩:=h
 cases x with
 |non =>
  cases rx
  cases y with
  |non=>cases ry;exact PySem.EqNone.ne_none_none (aR I q (by simp))
  |bl j=>cases ry;exact PySem.EqNone.ne_none_bool (aR I q (by simp))
  |int j=>obtain ⟨t',rfl⟩:=ry;exact PySem.EqNone.ne_none_int (aR I q (by simp))
  |str j=>obtain ⟨t',rfl⟩:=ry;exact PySem.EqNone.ne_none_str (aR I q (by simp))
  |_=>exact absurd (show false=true from hs) Bool.false_ne_true
 |bl i =>
  cases rx
  cases y with
  |non=>cases ry;exact PySem.EqNone.ne_bool_none (aR I q (by simp))
  |bl j=>cases ry;exact ne_bool (aR I q (congrArg not rK))
  |str j=>obtain ⟨t',rfl⟩:=ry;exact PySem.EqMixed.ne_bool_str (aR I q (by simp))
  |_=>exact absurd (show false=true from hs) Bool.false_ne_true
 |int i =>
  obtain ⟨t,rfl⟩:=rx
  cases y with
  |non=>cases ry;exact PySem.EqNone.ne_int_none (aR I q (by simp))
  |int j=>obtain ⟨t',rfl⟩:=ry;exact ne_int (aR I q (congrArg not qv))
  |str j=>obtain ⟨t',rfl⟩:=ry;exact PySem.EqMixed.ne_int_str (aR I q (by simp))
  |_=>exact absurd (show false=true from hs) Bool.false_ne_true
 |str i =>
  obtain ⟨t,rfl⟩:=rx
  cases y with
  |non=>cases ry;exact PySem.EqNone.ne_str_none (aR I q (by simp))
  |bl j=>cases ry;exact PySem.EqMixed.ne_str_bool (aR I q (by simp))
  |int j=>obtain ⟨t',rfl⟩:=ry;exact PySem.EqMixed.ne_str_int (aR I q (by simp))
  |str j=>obtain ⟨t',rfl⟩:=ry;exact ne_str (aR I q (congrArg not qw))
  |_=>exact absurd (show false=true from hs) Bool.false_ne_true
 |byt i =>
  obtain ⟨t,rfl⟩:=rx
  cases y with
  |byt j=>obtain ⟨t',rfl⟩:=ry;exact PySem.W.ne_bytes (aR I q (congrArg not qy))
  |_=>exact absurd (show false=true from hs) Bool.false_ne_true
 |_=>cases y<;>exact absurd (show false=true from hs) Bool.false_ne_true
theorem GJ:OpR X (compareOp .Lt) (rI0 λi j=>.bl (decide (i<j))):=jl λ_ _ _ _ _ _ _ q=>lt_int q
theorem GK:OpR X (compareOp .LtE) (rI0 λi j=>.bl (decide (i<=j))):=jl λ_ _ _ _ _ _ _ q=>le_int q
theorem GL:OpR X (compareOp .Gt) (rI0 λi j=>.bl (decide (j<i))):=jl λ_ _ _ _ _ _ _ q=>gt_int q
theorem GN:OpR X (compareOp .GtE) (rI0 λi j=>.bl (decide (j<=i))):=jl λ_ _ _ _ _ _ _ q=>ge_int q
theorem yb:OpR X (compareOp .Lt) (λx y H Q=>∃ i j,x=.str i/\y=.str j/\Q (.bl (decide (i.cps.toList<j.cps.toList))) H):=by
 intro pins s U H x y v u Q I rx ry h
 obtain ⟨i,j,rfl,rfl,q⟩:=h
 obtain ⟨t,rfl⟩:=rx
 obtain ⟨t',rfl⟩:=ry
 exact lt_str (aR I q rfl)
theorem DI:OpR X (compareOp .Is) (λx y H Q=>y=.non/\Q (.bl (decide (x=.non))) H):=by
 intro pins s U H x y v u Q I rx ry h
 obtain ⟨rfl,q⟩:=h
 cases ry
 refine is_none_gen (aR I q ?_)
 cases x<;>first
  |(cases rx;rfl)
  |(obtain ⟨t,rfl⟩:=rx;rfl)
theorem mH (b:Expr){op:CmpOp}(h:op≠.In:=by decide) (h2:op≠.NotIn:=by decide):behindInMarks op b=false:=by
 have e1:(op==CmpOp.In)=false:=by cases op<;>first|rfl|exact absurd rfl h
 have e2:(op==CmpOp.NotIn)=false:=by cases op<;>first|rfl|exact absurd rfl h2
 cases b<;>simp [behindInMarks,e1,e2]
theorem A4 {op:CmpOp}{r:R2}(ho:OpR X (compareOp op) r) (ha:PE X a ta) (hb:PE X b tb) (hm:behindInMarks op b=false):PE X (.Compare a [op] [b] pos) (tOp r ta tb):=by
 intro pins s U H Q I h
 exact wpAny_Compare1 (n4 ha hb I h λv u s2 x y H2 I2 rx ry q=>ho pins s2 U H2 x y v u Q I2 rx ry q) hm
def nj (t:TE):TT:=λU H Q=>t U H λx H'=>∃ k,x=.bl k/\Q k H'
theorem A5 {op:CmpOp}{r:R2}(ho:OpR X (compareOp op) r) (ha:PE X a ta) (hb:PE X b tb) (hm:behindInMarks op b=false):PT X (.Compare a [op] [b] pos) (nj (tOp r ta tb)):=by
 intro pins s U H Q I h
 refine wpAny_isTrue_Compare1 (thn (ha pins s U H _ I h) λv s1 ⟨x,H1,I1,r1,q1⟩=>thn (hb pins s1 U H1 _ I1 q1) λu s2 ⟨y,H2,I2,r2,q2⟩ =>
  thn (ho pins s2 U H2 x y v u _ I2 r1 r2 q2) λc s3 ⟨z,H3,I3,r3,k,e,q3⟩=>?_) hm
 subst e
 cases r3
 exact wpAny_truthy_bool ⟨H3,I3,q3⟩
def mI (r r':R2) (ta tb tc:TE):TE:=λU H Q=>ta U H λx H1=>tb U H1 λy H2=>r x y H2 λz H3=>∃ k,z=.bl k /\
 (if k=true then tc U H3 λw' H4=>r' y w' H4 Q else Q (.bl false) H3)
theorem zi {op OA:CmpOp}{r r':R2}(ho:OpR X (compareOp op) r) (Oz:OpR X (compareOp OA) r') (ha:PE X a ta) (hb:PE X b tb) (hc:PE X c tc)
  (hm:lastMarks [op,OA] [b,c]=false:=by with_unfolding_all rfl):PE X (.Compare a [op,OA] [b,c] pos) (mI r r' ta tb tc):=by
 intro pins s U H Q I h
 refine Compare_chain (thn (ha pins s U H _ I h) λv s1 ⟨x,H1,I1,r1,q1⟩=>chain_link (thn (hb pins s1 U H1 _ I1 q1) λu s2 ⟨y,H2,I2,r2,q2⟩ =>
  thn (ho pins s2 U H2 x y v u _ I2 r1 r2 q2) λd s3 ⟨z,H3,I3,r3,k,e,q3⟩=>?_)) hm
 subst e
 cases r3
 refine wpAny_truthy_bool ?_
 cases k with
 |false=>exact ite_ff ⟨.bl false,H3,I3,rfl,q3⟩
 |true=>exact ite_tt (chain_last (thn (hc pins s3 U H3 _ I3 q3) λw' s4 ⟨z',H4,I4,r4,q4⟩=>Oz pins s4 U H4 y z' u w' Q I4 r2 r4 q4))
theorem zj {op OA:CmpOp}{r r':R2}(ho:OpR X (compareOp op) r) (Oz:OpR X (compareOp OA) r') (ha:PE X a ta) (hb:PE X b tb) (hc:PE X c tc)
  (hm:lastMarks [op,OA] [b,c]=false:=by with_unfolding_all rfl):PT X (.Compare a [op,OA] [b,c] pos) (nj (mI r r' ta tb tc)):=by
 intro pins s U H Q I h
 refine isTrue_chain (thn (ha pins s U H _ I h) λv s1 ⟨x,H1,I1,r1,q1⟩=>test_link (thn (hb pins s1 U H1 _ I1 q1) λu s2 ⟨y,H2,I2,r2,q2⟩ =>
  thn (ho pins s2 U H2 x y v u _ I2 r1 r2 q2) λd s3 ⟨z,H3,I3,r3,k,e,q3⟩=>?_)) hm
 subst e
 cases r3
 refine wpAny_truthy_bool ?_
 cases k with
 |false =>
  obtain ⟨k',e',q'⟩:=q3
  cases e'
  exact ite_ff ⟨H3,I3,q'⟩
 |true =>
  refine ite_tt (test_last (thn (hc pins s3 U H3 _ I3 q3) λw' s4 zz23=>?_))
  obtain ⟨z',H4,I4,r4,q4⟩:=zz23
  refine thn (Oz pins s4 U H4 y z' u w' _ I4 r2 r4 q4) λd' s5 zz24=>?_
  obtain ⟨z2,H5,I5,r5,k2,e2,q5⟩:=zz24
  subst e2
  cases r5
  exact wpAny_truthy_bool ⟨H5,I5,q5⟩
def uP (K:PySem.W.Frag) (x:V) (H:Hp) (k:Bool):Prop :=
 match x with
 |.non=>k=false
 |.bl b=>k=b
 |.int i=>k=(i != 0)
 |.str y=>y.length<=sizeLine/\k=((y.length:Int) != 0)
 |.byt y=>y.size<=sizeLine/\k=((y.size:Int) != 0)
 |.ref p=>(∃ xs,SqL K H p xs/\k=!xs.isEmpty)\/(∃ xs,SqT K H p xs/\k=!xs.isEmpty)\/∃ kvs,H p=some (.dK kvs)/\k=!kvs.isEmpty
 |_=>False
theorem xw {κ:Type}{kvs:List (κ×V)}{vs:List (κ×Value)}(r:KV kvs vs):(!vs.isEmpty)=!kvs.isEmpty:=by
 cases r<;>rfl
theorem o0 {xs:List V}{its:List Value}(r:ag xs its):(!its.toArray.isEmpty)=!xs.isEmpty:=by
 cases r<;>simp
theorem dU:(sizeLine:Nat)<2 ^ 63:=by rw [sizeLine_eq];decide
theorem DJ:Jc X (λx H Q=>∃ k,uP X.K x H k/\Q k H):=by
 intro pins s U H x v Q I rx h
 obtain ⟨k,e,q⟩:=h
 have hl:=dU
 have hs:sizeLine=16777216:=sizeLine_eq
 cases x with
 |non =>
  cases rx
  have e':k=false:=e
  subst e'
  exact truthy_none ⟨H,I,q⟩
 |bl b =>
  cases rx
  have e':k=b:=e
  subst e'
  exact wpAny_truthy_bool ⟨H,I,q⟩
 |int i =>
  obtain ⟨t,rfl⟩:=rx
  have e':k=(i != 0):=e
  subst e'
  exact PySem.P.truthy_int ⟨H,I,q⟩
 |str y =>
  obtain ⟨t,rfl⟩:=rx
  obtain ⟨hy,e'⟩:y.length<=sizeLine/\k=((y.length:Int) != 0):=e
  subst e'
  exact PySem.P.truthy_str (by omega) ⟨H,I.tok _,q⟩
 |byt y =>
  obtain ⟨t,rfl⟩:=rx
  obtain ⟨hy,e'⟩:y.size<=sizeLine/\k=((y.size:Int) != 0):=e
  subst e'
  exact PySem.W.truthy_bytes (by omega) ⟨H,I.tok _,q⟩
 |ref p =>
  cases rx
  have e':(∃ xs,SqL X.K H p xs/\k=!xs.isEmpty)\/(∃ xs,SqT X.K H p xs/\k=!xs.isEmpty)\/∃ kvs,H p=some (.dK kvs)/\k=!kvs.isEmpty:=e
  rcases e' with ⟨xs,hx,e'⟩|⟨xs,hx,e'⟩|⟨kvs,hx,e'⟩
  ·subst e'
   obtain ⟨its,r,pl,hz⟩:=I.list hx
   have KS:=r.length
   exact wpAny_truthy_list pl.isList (by simp only [List.size_toArray];omega) ⟨H,I.tok _,by rw [o0 r];exact q⟩
  ·subst e'
   obtain ⟨its,r,pl,hz⟩:=I.tuple hx
   have KS:=r.length
   exact truthy_tuple pl (by simp only [List.size_toArray];omega) ⟨H,I.tok _,by rw [o0 r];exact q⟩
  ·subst e'
   obtain ⟨hz,hS,vs,r,m⟩:kvs.length<=sizeLine/\(p==sysModules)=false/\∃ vs,KV kvs vs/\s.heap.DictOf (ba X.prog X.w) p vs:=I.hok p _ hx
   have KS:kvs.length=vs.length:=Paired.length r
   exact wpAny_truthy_dict hS m (by omega) ⟨H,I.tok _,by rw [xw r];exact q⟩
 |_=>exact (show False from e).elim
theorem zl (ha:PE X a ta) (he:∀ whole,isTrue a X.env whole=(do let v <- whole;standAt a.pos;holding [v] (truthy v))) :
  PT X a (λU H Q=>ta U H λx H'=>∃ k,uP X.K x H' k/\Q k H'):=by
 intro pins s U H Q I h
 exact isTrue_plain (thn (ha pins s U H _ I h) λv s1 zz25=>by obtain ⟨x,H1,I1,r1,q1⟩:=zz25;exact DJ pins s1 U H1 x v Q I1 r1 q1) (he _)
theorem xx:OpR X (binaryOp .Add) (λx y H Q=>∃ i j,x=.str i/\y=.str j/\i.length+j.length<=sizeLine/\Q (.str (i++j)) H):=by
 intro pins s U H x y v u Q I rx ry h
 obtain ⟨i,j,rfl,rfl,hz,q⟩:=h
 obtain ⟨t,rfl⟩:=rx
 obtain ⟨t',rfl⟩:=ry
 exact add_str (λt' tk=>⟨.str (i++j),H,I.tok _,⟨_,rfl⟩,q⟩) hz
theorem wZ:OpR X (inplaceOp .Add) (λx y H Q=>∃ i j,x=.str i/\y=.str j/\i.length+j.length<=sizeLine/\Q (.str (i++j)) H):=by
 intro pins s U H x y v u Q I rx ry h
 obtain ⟨i,j,rfl,rfl,hz,q⟩:=h
 obtain ⟨t,rfl⟩:=rx
 obtain ⟨t',rfl⟩:=ry
 exact iadd_str (λt' tk=>⟨.str (i++j),H,I.tok _,⟨_,rfl⟩,q⟩) hz
theorem bW {x:V}{us:List Value}(r:ag [x] us):∃ u,us=[u]/\au x u:=by
 cases r with
 |cons r1 r2=>cases r2;exact ⟨_,rfl,r1⟩
theorem i5 {x y:V}{us:List Value}(r:ag [x,y] us):∃ u w',us=[u,w']/\au x u/\au y w':=by
 cases r with
 |cons r1 r2 =>
  cases r2 with
  |cons r3 r4=>cases r4;exact ⟨_,_,rfl,r1,r3⟩
theorem ph:bu X (.type "int") (λxs H Q=>(∃ i,xs=[.int i]/\Q (.int i) H)\/∃ k,xs=[.bl k]/\Q (.int (if k then 1 else 0)) H):=by
 intro pins s U H xs us Q I r h
 rcases h with ⟨i,rfl,q⟩|⟨k,rfl,q⟩
 ·obtain ⟨u,rfl,t,rfl⟩:=bW r
  exact call_int_int ⟨.int i,H,I,⟨_,rfl⟩,q⟩
 ·obtain ⟨u,rfl,r1⟩:=bW r
  cases r1
  exact call_int_bool ⟨.int (if k then 1 else 0),H,I.tok _,⟨_,rfl⟩,q⟩
end
structure ObjM (h:Heap) (x dx C:Addr) (mA:Str->Option Value):Prop where
 obj:h.get? x=some (PySem.W.instObj C dx)
 ns:h.Ns1 dx mA
 ne:dx≠x
theorem kW {h:Heap}{dx:Addr}{mA:Str->Option Value}(n:h.Ns1 dx mA):∃ od,h.get? dx=some od/\∀ name,PySem.W.lookIn name od=some (mA name):=by
 obtain ⟨o,es,ep,ho,hd,hk,_,hm⟩:=n
 refine ⟨o,ho,λname=>?_⟩
 have e:=hm name
 unfold nsFind findBy at e
 rw [<- Array.find?_toList] at e
 unfold PySem.W.lookIn
 rw [hd]
 dsimp only
 split
 ·rename_i y q
  rw [q] at e
  exact congrArg some e
 ·rename_i q
  rw [q] at e
  have a:es.toList.any (·.refKey)=false:=by
   rw [List.any_eq_false]
   intro y hy
   obtain ⟨z,t,QP⟩:=hk y (Array.mem_toList_iff.mp hy)
   simp [DictEntry.refKey,QP]
  have a':¬ es.toList.any (·.refKey)=true:=by rw [a];exact Bool.false_ne_true
  rw [if_neg a']
  exact congrArg some e
theorem ObjM.look {h:Heap}{x dx C:Addr}{mA:Str->Option Value}(I:ObjM h x dx C mA):∃ od,PySem.W.InstAt h x (PySem.W.instObj C dx) C (some od)/\∀ name,PySem.W.lookIn name od=some (mA name) :=
 let ⟨od,ho,hl⟩:=kW I.ns
 ⟨od,⟨I.obj,rfl,rfl,ho⟩,hl⟩
section
variable {prog:Program}{w:World}{A:Around}{E:Value->Shared->Prop}{s:Shared}{K:PySem.W.Frag}{x dx C f:Addr}{mA:Str->Option Value}{name:Str}{v:Value}
theorem A6 {Pf:Bool}{Q:Value->Shared->Prop}(X:K.In s.heap) (I:ObjM s.heap x dx C mA) (hg:PySem.W.plainGet K C name=true) (hh:PySem.W.hasDictIn K C=true)
  (ha:PySem.W.findIn K (.ref C) name=some none) (hv:mA name=some v) (OX:PySem.W.handedIn v=true) (h:Q v { s with toks:=s.toks+1 }) :
  wpAny (model prog w) A (getAttr (.ref x) name Pf) Q E s:=by
 obtain ⟨od,J,hl⟩:=I.look
 exact PySem.W.get_value X J (PySem.W.plainGet_of hg).1 (PySem.W.findObj_own hh ha rfl (by rw [hl,hv])) OX h
theorem zm {pl:Sem Bool}{Q:Value×List Value->Shared->Prop}(X:K.In s.heap) (I:ObjM s.heap x dx C mA) (hg:PySem.W.plainGet K C name=true)
  (hf:PySem.W.findIn K (.ref C) name=some (some (.ref f))) (ht:PySem.W.isFn K (.ref f)=true) (hv:mA name=none) (h:Q (.ref f,[.ref x]) s) :
  wpAny (model prog w) A (getMethod (.ref x) name pl) Q E s:=by
 obtain ⟨od,J,hl⟩:=I.look
 exact PySem.W.method_fn X J (PySem.W.plainGet_of hg).1 (PySem.W.plainGet_of hg).2 hf (beq_iff_eq.mp ht) (by show (PySem.W.lookIn name od).map (·.isSome)=some false;rw [hl,hv];rfl) h
theorem A7 {ns:List Str}{Q:Unit->Shared->Prop}(X:K.In s.heap) (I:ObjM s.heap x dx C mA)
  (hs:PySem.W.findIn K (.ref C) "__setattr__"=some (some (.builtin "object.__setattr__"))) (hp:PySem.W.plainOver K C=true) (ht:PySem.W.takerIn K C name=some none) (hh:PySem.W.hasDictIn K C=true)
  (hw:PySem.Within mA ns) (hsz:ns.length<=sizeLine)
  (h:∀ h',ObjM h' x dx C (λy=>if y=name then some v else mA y)->Heap.SameBut dx s.heap h'->Q () { s with heap:=h',toks:=s.toks+2 }) :
  wpAny (model prog w) A (setAttr (.ref x) name v) Q E s:=by
 obtain ⟨od,J,hl⟩:=I.look
 refine PySem.W.set_plain X J hs (PySem.W.osa_open (s:={ s with toks:=s.toks+1 }) (r:=none) X J hp ht λb=>?_)
 obtain ⟨cd,hc,hd'⟩:=PySem.W.any_some hh
 have hx:s.heap.get? x=some ⟨.ref C,some dx,.plain,#[]⟩:=I.obj
 refine wpAny_bind (wpAny_pure (wpAny_bind (wpAny_bind (wpAny_loadPart hx (wpAny_bind (PySem.W.Looks.here (s:={ s with toks:=s.toks+1 }) (PySem.W.looks_clsIn X hc) ?_))))))
 rw [hd']
 refine wpAny_pure (a:=some dx) (wpAny_bind (wpAny_pure (wpAny_bind ?_)))
 refine wpAny_nsSet1 (s:={ s with toks:=s.toks+1 }) I.ns λh' QQ hs2=>?_
 obtain ⟨oD,esD,epD,hoD,hdD,Ph⟩:=QQ.count (PySem.Within.cons name v hw)
 refine wpAny_bind (wpAny_lookBehind hoD (by rw [hdD];exact pastItsLine_dict (Nat.le_trans Ph (by rw [List.length_cons];omega))) ?_)
 exact wpAny_pure (h _ ⟨(hs2.2 _ (Ne.symm I.ne)).trans I.obj,QQ,I.ne⟩ hs2)
theorem zn {R:Result->Shared->Prop}{vs:List Value}{kw:List (Str×Value)}(X:K.In s.heap) (hm:PySem.W.makesIn K C=true)
  (hi:PySem.W.findIn K (.ref C) "__init__"=some (some (.ref f))) (hf:PySem.W.typeIn K (.ref f)=some (.type "function"))
  (h:codeAny (model prog w) (A.under (.builtin "type.__call__" ⟨.ref C::vs,kw⟩)) (.call (.ref f) ⟨.ref (s.heap.objs.size+1)::vs,kw⟩) (PySem.W.InitBack (s.heap.objs.size+1) R)
   { s with heap:=(s.heap.push PySem.W.emptyDict).push (PySem.W.instObj C s.heap.objs.size) }) :
  codeAny (model prog w) A (.call (.ref C) ⟨vs,kw⟩) R s:=by
 obtain ⟨hh,g,d,t,os⟩:=s
 exact PySem.W.make_core (PySem.W.makes_of X hm) (PySem.W.looks_findIn X hi) (λself=>PySem.W.bind_fn X self hf) (.inl rfl) h
end
noncomputable def bv (f:Str) (v:V):List (Str×V)->List (Str×V)
 |[]=>[(f,v)]
 |(g,x)::r=>if g=f then (g,v)::r else (g,x)::bv f v r
theorem oR (f g:Str) (v:V):∀ fs:List (Str×V),(bv f v fs).lookup g=if g=f then some v else fs.lookup g
 |[]=>by
  show List.lookup g [(f,v)]=_
  by_cases h:g=f
  ·have hb:(g==f)=true:=beq_iff_eq.mpr h
   simp only [List.lookup,hb,if_pos h]
  ·have hb:(g==f)=false:=beq_eq_false_iff_ne.mpr h
   simp only [List.lookup,hb,if_neg h]
 |(k,x)::r=>by
  have ih:=oR f g v r
  rw [show bv f v ((k,x)::r)=(if k=f then (k,v)::r else (k,x)::bv f v r) from rfl]
  by_cases hk:k=f
  ·rw [if_pos hk]
   by_cases h:g=k
   ·have hb:(g==k)=true:=beq_iff_eq.mpr h
    simp only [List.lookup,hb,if_pos (h.trans hk)]
   ·have hb:(g==k)=false:=beq_eq_false_iff_ne.mpr h
    simp only [List.lookup,hb,if_neg (λe:g=f=>h (e.trans hk.symm))]
  ·rw [if_neg hk]
   by_cases h:g=k
   ·have hb:(g==k)=true:=beq_iff_eq.mpr h
    simp only [List.lookup,hb,if_neg (λe:g=f=>hk (h.symm.trans e))]
   ·have hb:(g==k)=false:=beq_eq_false_iff_ne.mpr h
    simp only [List.lookup,hb]
    exact ih
theorem kX (f:Str) (v:V):∀ fs:List (Str×V),f∈(bv f v fs).map (·.1)/\∀ g,g∈fs.map (·.1)->g∈(bv f v fs).map (·.1)
 |[]=>⟨by simp [bv],λg h=>by simp at h⟩
 |(k,x)::r=>by
  obtain ⟨i1,i2⟩:=kX f v r
  rw [show bv f v ((k,x)::r)=(if k=f then (k,v)::r else (k,x)::bv f v r) from rfl]
  by_cases hk:k=f
  ·rw [if_pos hk]
   subst hk
   exact ⟨by simp,λg h=>by simpa using h⟩
  ·rw [if_neg hk]
   refine ⟨?_,λg h=>?_⟩
   ·rw [List.map_cons]
    exact List.mem_cons_of_mem _ i1
   ·rw [List.map_cons] at h ⊢
    rcases List.mem_cons.mp h with e|e
    ·exact List.mem_cons.mpr (.inl e)
    ·exact List.mem_cons_of_mem _ (i2 g e)
theorem oS (f:Str) (v:V):∀ fs:List (Str×V),(bv f v fs).length<=fs.length+1
 |[]=>by simp [bv]
 |(k,x)::r=>by
  have ih:=oS f v r
  rw [show bv f v ((k,x)::r)=(if k=f then (k,v)::r else (k,x)::bv f v r) from rfl]
  by_cases hk:k=f
  ·rw [if_pos hk,List.length_cons,List.length_cons];omega
  ·rw [if_neg hk,List.length_cons,List.length_cons];omega
theorem bG.some_of {v:V}{o:Option Value}(r:bG (some v) o):∃ u,o=some u/\au v u:=by
 cases o with
 |none=>exact (show False from r).elim
 |some u=>exact ⟨u,rfl,r⟩
theorem bG.none_of {o:Option Value}(r:bG none o):o=none:=by
 cases o with
 |none=>rfl
 |some u=>exact (show False from r).elim
theorem pi {v:V}{u:Value}(r:au v u):PySem.W.handedIn u=true:=by
 cases v with
 |non=>cases (show u=Value.none from r);rfl
 |bl b=>cases (show u=Value.bool b from r);rfl
 |int i=>obtain ⟨t,e⟩:=(show ∃ t,u=Value.int i t from r);cases e;rfl
 |str x=>obtain ⟨t,e⟩:=(show ∃ t,u=Value.str x t from r);cases e;rfl
 |byt b=>obtain ⟨t,e⟩:=(show ∃ t,u=Value.bytes b t from r);cases e;rfl
 |flt b=>obtain ⟨t,e⟩:=(show ∃ t,u=Value.float b t from r);cases e;rfl
 |ref a=>cases (show u=Value.ref a from r);rfl
 |ty n=>cases (show u=Value.type n from r);rfl
section
variable {P:Program}{w:World}{H H':Hp}{h h':Heap}{a C dx:Addr}{fs Mh:List (Str×V)}
theorem iB (hok:HOk P w H h) (e:H a=some (.ins C dx fs)):∃ mA,ObjM h a dx C mA/\(∀ f,bG (fs.lookup f) (mA f))/\PySem.Within mA (fs.map (·.1))/\fs.length<=1000/\H dx=some (.own a):=by
 obtain ⟨d,z,ne,ob,mA,n,r,q⟩:=(show aN P w H h a (.ins C dx fs) from hok a _ e)
 exact ⟨mA,⟨ob,n,ne⟩,r,q,z,d⟩
end
structure Cls (K:PySem.W.Frag) (C:Addr):Prop where
 pg:PySem.W.plainGet K C Str.empty=true
 hd:PySem.W.hasDictIn K C=true
 po:PySem.W.plainOver K C=true
 sa:PySem.W.findIn K (.ref C) "__setattr__"=some (some (.builtin "object.__setattr__"))
theorem Cls.get {K:PySem.W.Frag}{C:Addr}(c:Cls K C) (f:Str):PySem.W.plainGet K C f=true:=c.pg
def aC (K:PySem.W.Frag) (C:Addr) (f:Str):Prop:=PySem.W.findIn K (.ref C) f=some none
theorem aC.taker {K:PySem.W.Frag}{C:Addr}{f:Str}(n:aC K C f):PySem.W.takerIn K C f=some none:=by
 unfold PySem.W.takerIn
 rw [show PySem.W.findIn K (.ref C) f=some none from n]
 rfl
structure Con (K:PySem.W.Frag) (C:Addr) (f:Str) (v:V) (u:Value):Prop where
 at_:PySem.W.findIn K (.ref C) f=some (some u)
 rel:au v u
 get:PySem.W.specialIn K u "__get__"=some none
 cp:PySem.W.copiedNames.contains f=false
structure Meth (K:PySem.W.Frag) (C:Addr) (m:Str) (f:Addr):Prop where
 at_:PySem.W.findIn K (.ref C) m=some (some (.ref f))
 fn:PySem.W.isFn K (.ref f)=true
 kp:PySem.W.keepIn K (.ref f)=true
section
variable {X:Cx}{pins:List (Addr×Obj)}{U:St}{H:Hp}{s:Shared}{a C dx:Addr}{fs:List (Str×V)}{f:Str}{v:V}{A:Around}{E:Value->Shared->Prop}
theorem o6 {b:Bool}{Q:Value->Shared->Prop}(I:Inv X pins U H s) (e:H a=some (.ins C dx fs)) (c:Cls X.K C) (n:aC X.K C f) (l:fs.lookup f=some v)
  (h:∀ u s',Inv X pins U H s'->au v u->Q u s'):wpAny (model X.prog X.w) A (getAttr (.ref a) f b) Q E s:=by
 obtain ⟨mA,O,r,_,_,_⟩:=iB I.hok e
 obtain ⟨u,hu,ru⟩:=bG.some_of (v:=v) (o:=mA f) (by rw [<- l];exact r f)
 exact A6 I.kIn O (c.get f) c.hd n hu (pi ru) (h u _ (I.tok _) ru)
theorem fR {m:Str}{g:Addr}{pl:Sem Bool}{Q:Value×List Value->Shared->Prop}(I:Inv X pins U H s) (e:H a=some (.ins C dx fs)) (c:Cls X.K C) (k:Meth X.K C m g) (l:fs.lookup m=none)
  (h:Q (.ref g,[.ref a]) s):wpAny (model X.prog X.w) A (getMethod (.ref a) m pl) Q E s:=by
 obtain ⟨mA,O,r,_,_,_⟩:=iB I.hok e
 have hn:mA m=none:=bG.none_of (by rw [<- l];exact r m)
 exact zm I.kIn O (c.get m) k.at_ k.fn hn h
theorem o7 {y:V}{u:Value}{Q:Unit->Shared->Prop}(I:Inv X pins U H s) (e:H a=some (.ins C dx fs)) (c:Cls X.K C) (n:aC X.K C f) (hl:fs.length<1000) (ry:au y u)
  (h:∀ s',Inv X pins U (upd H a (.ins C dx (bv f y fs))) s'->Q () s'):wpAny (model X.prog X.w) A (setAttr (.ref a) f u) Q E s:=by
 obtain ⟨mA,O,r,wi,_,ho⟩:=iB I.hok e
 have hz:(fs.map (·.1)).length<=sizeLine:=by rw [List.length_map,sizeLine_eq];omega
 refine A7 I.kIn O c.sa c.po n.taker c.hd wi hz λh' O' sb=>h _ ?_
 have hd:∃ o,h'.get? dx=some o:=let ⟨o,_,_,e',_⟩:=O'.ns;⟨o,e'⟩
 refine I.write (x:=a) (e:=dx) (by rw [e];exact True.intro) (.inr ho) (λb q hb z=>(sb.2 b hb).trans z) hd ?_
 refine ⟨by rw [ao O.ne];exact ho,?_,O.ne,O'.obj,_,O'.ns,λg=>?_,λg hg=>?_⟩
 ·have:=oS f y fs;omega
 ·show bG ((bv f y fs).lookup g) (if g=f then some u else mA g)
  rw [oR]
  by_cases q:g=f
  ·rw [if_pos q,if_pos q];exact ry
  ·rw [if_neg q,if_neg q];exact r g
 ·by_cases q:g=f
  ·rw [q];exact (kX f y fs).1
  ·refine (kX f y fs).2 g (wi g λz=>hg ?_)
   show (if g=f then some u else mA g)=none
   rw [if_neg q];exact z
theorem Inv.made (I:Inv X pins U H s):Inv X pins U (upd (upd H s.heap.objs.size (.own (s.heap.objs.size+1))) (s.heap.objs.size+1) (.ins C s.heap.objs.size []))
  { s with heap:=(s.heap.push PySem.W.emptyDict).push (PySem.W.instObj C s.heap.objs.size) }:=by
 have e1:(s.heap.push PySem.W.emptyDict).get? s.heap.objs.size=some PySem.W.emptyDict:=Heap.get?_push_size s.heap rfl
 have e2:((s.heap.push PySem.W.emptyDict).push (PySem.W.instObj C s.heap.objs.size)).get? (s.heap.objs.size+1)=some (PySem.W.instObj C s.heap.objs.size):=by
  have:=Heap.get?_push_size (s.heap.push PySem.W.emptyDict) (o:=PySem.W.instObj C s.heap.objs.size) rfl
  rwa [Heap.size_push] at this
 have e3:(s.heap.push PySem.W.emptyDict).Ns s.heap.objs.size (λ_=>none):=⟨PySem.W.emptyDict,#[],_,e1,rfl,(λe he=>absurd he (by simp)),λ_=>rfl⟩
 have I1:=I.laid (a:=s.heap.objs.size) (o:=.own (s.heap.objs.size+1)) (h':=s.heap.push PySem.W.emptyDict) (t':=s.toks) (λb u q=>Heap.get?_push_of_some _ q) (Nat.le_refl _) ⟨_,e1⟩
 refine I1.laid (a:=s.heap.objs.size+1) (o:=.ins C s.heap.objs.size []) (t':=s.toks) (λb u q=>Heap.get?_push_of_some _ q) (Nat.le_of_eq (Heap.size_push _ _)) ?_
 have ne:s.heap.objs.size≠s.heap.objs.size+1:=Nat.ne_of_lt (Nat.lt_succ_self _)
 refine ⟨by rw [ao ne,aF],Nat.zero_le _,ne,e2,λ_=>none,(Heap.Ns1.of_empty e3).at λo q=>Heap.get?_push_of_some _ q,λ_=>True.intro,λy hy=>absurd rfl hy⟩
theorem qz {prog:Program}{w:World}{env:Env}{e:Expr}{f:Str}{pos:Pos}{s:Shared}{Q:Value->Shared->Prop}(hb:attributeBase e f env (eval e env)=eval e env)
  (h:wpAny (model prog w) A (eval e env) (λo Kb=>wpAny (model prog w) A (getAttr o f true) Q E Kb) E s):wpAny (model prog w) A (eval (.Attribute e f pos) env) Q E s :=
 Attribute_any_ h (by rw [arm_eval_Attribute,hb])
end
def Jd (K:PySem.W.Frag) (ta:TE) (f:Str):TE:=λU H Q=>ta U H λx H1=>∃ a C dx fs v,x=.ref a/\H1 a=some (.ins C dx fs)/\Cls K C/\aC K C f/\fs.lookup f=some v/\Q v H1
def Je (K:PySem.W.Frag) (ta tv:TE) (f:Str):TS:=λD U H=>tv U H λy H1=>ta U H1 λx H2=>∃ a C dx fs,x=.ref a/\H2 a=some (.ins C dx fs)/\Cls K C/\aC K C f/\fs.length<1000 /\
 D.nx U (upd H2 a (.ins C dx (bv f y fs)))
def uQ (X:Cx) (op:Operator) (rd:V->V->Hp->VK->Prop):Prop :=
 ∀ (pins:List (Addr×Obj)) (s:Shared) (U:St) (H:Hp) (x y:V) (u v:Value) (Q:VK),Inv X pins U H s->au x u->au y v->rd x y H Q->wpAny (model X.prog X.w) X.A (inplaceOp op u v) (EP X pins U Q) X.xe s
def A8 (K:PySem.W.Frag) (ta tv:TE) (rd:V->V->Hp->VK->Prop) (f:Str):TS:=λD U H=>ta U H λx H1=>∃ a C dx fs v,x=.ref a/\H1 a=some (.ins C dx fs)/\Cls K C/\aC K C f/\fs.lookup f=some v /\
 tv U H1 λy H2=>rd v y H2 λz H3=>∃ dx' Mh,H3 a=some (.ins C dx' Mh)/\Mh.length<1000/\D.nx U (upd H3 a (.ins C dx' (bv f z Mh)))
section
variable {X:Cx}{o e value:Expr}{f:Str}{pos KA Lf:Pos}{ta tv:TE}
theorem DK (he:PE X e ta) (hb:attributeBase e f X.env (eval e X.env)=eval e X.env):PE X (.Attribute e f pos) (Jd X.K ta f):=by
 intro pins s U H Q I h
 refine qz hb (thn (he pins s U H _ I h) λu s1 zz26=>?_)
 obtain ⟨x,H1,I1,rx,a,C,dx,fs,v,ex,ea,c,n,l,q⟩:=zz26
 subst ex
 obtain rfl:u=Value.ref a:=rx
 exact o6 I1 ea c n l λu' s2 I2 ru=>⟨v,H1,I2,ru,q⟩
theorem DL (ha:PE X o ta) (hv:PE X value tv) (hs:swapsWith value (some (.Attribute o f KA)) pos.line X.env=pure false):PS X (.Assign [.Attribute o f KA] value pos) (Je X.K ta tv f):=by
 intro pins s U H D I h
 refine plainObj_wpAny_Assign_Attribute (thn (hv pins s U H _ I h) λu s1 ⟨y,H1,I1,ry,q⟩=>thn (ha pins s1 U H1 _ I1 q) λov s2 ⟨x,H2,I2,rx,a,C,dx,fs,ex,ea,c,n,l,q2⟩=>?_) hs
 subst ex
 obtain rfl:ov=Value.ref a:=rx
 exact o7 I2 ea c n l ry λs3 I3=>⟨U,_,I3,q2⟩
theorem yd {op:Operator}{rd:V->V->Hp->VK->Prop}(ha:PE X o ta) (hv:PE X value tv) (hop:uQ X op rd):PS X (.AugAssign (.Attribute o f Lf) op value pos) (A8 X.K ta tv rd f):=by
 intro pins s U H D I h
 refine wpAny_AugAssign_AttributeAny (thn (ha pins s U H _ I h) λov s1 zz27=>?_)
 obtain ⟨x,H1,I1,rx,a,C,dx,fs,v,ex,ea,c,n,l,q⟩:=zz27
 subst ex
 obtain rfl:ov=Value.ref a:=rx
 refine o6 I1 ea c n l λu s2 I2 ru=>thn (hv pins s2 U H1 _ I2 q) λw3 s3 zz28=>?_
 obtain ⟨y,H2,I3,ry,q3⟩:=zz28
 refine thn (hop pins s3 U H2 v y u w3 _ I3 ru ry q3) λw4 s4 zz29=>?_
 obtain ⟨z,H3,I4,rz,dx',Mh,ea',l',q4⟩:=zz29
 exact o7 I4 ea' c n l' rz λs5 I5=>⟨U,_,I5,q4⟩
end
section
variable {X:Cx}{pins:List (Addr×Obj)}{U:St}{H:Hp}{s:Shared}{A:Around}{E:Value->Shared->Prop}{Q:Value->Shared->Prop}{c:Value}{b:Bool}
inductive TyOf (K:PySem.W.Frag) (H:Hp):V->Value->Prop where
 |non:TyOf K H .non (.type "NoneType")
 |bl (x:Bool):TyOf K H (.bl x) (.type "bool")
 |int (i:Int):TyOf K H (.int i) (.type "int")
 |str (x:Str):TyOf K H (.str x) (.type "str")
 |flt (x:UInt64):TyOf K H (.flt x) (.type "float")
 |lst {a:Addr}{xs:List V}(e:H a=some (.lst xs)):TyOf K H (.ref a) (.type "list")
 |frz {a:Addr}{o:Obj}{xs:List V}(e:H a=some (.frz o (.lst xs))):TyOf K H (.ref a) (.type "list")
 |tup {a:Addr}{xs:List V}(e:H a=some (.tup xs)):TyOf K H (.ref a) (.type "tuple")
 |dK {a:Addr}{kvs:List (Key×V)}(e:H a=some (.dK kvs)):TyOf K H (.ref a) (.type "dict")
 |dT {a:Addr}{kvs:List (List Key×V)}(e:H a=some (.dT kvs)):TyOf K H (.ref a) (.type "dict")
 |ins {a C dx:Addr}{fs:List (Str×V)}(e:H a=some (.ins C dx fs)) (cl:Cls K C) (ha:PySem.W.findIn K (.ref C) "__class__"=some (some (.builtin "object.__class__")))
   (hn:PySem.W.specialIn K (.builtin "object.__class__") "__get__"=some (some (.builtin "getset_descriptor.__get__"))) (htk:PySem.W.takesIn K (.builtin "object.__class__")=some true)
   (hm:PySem.W.mroIn K C (.type "object")=some true):TyOf K H (.ref a) (.ref C)
theorem ye {x:V}{u t:Value}(I:Inv X pins U H s) (rx:au x u) (ty:TyOf X.K H x t) (e:PySem.W.kitOne X.K t c=some b) (h:∀ tk,Q (.bool b) { s with toks:=tk }) :
  wpAny (model X.prog X.w) A (call (.builtin "isinstance") [u,c]) Q E s:=by
 cases ty with
 |non=>cases (show u=Value.none from rx);exact PySem.W.kia_one PySem.W.kitx_none I.kIn True.intro e (λz=>nomatch z) h
 |bl y=>cases (show u=Value.bool y from rx);exact PySem.W.kia_one PySem.W.kitx_bool I.kIn True.intro e (λz=>nomatch z) h
 |int i=>obtain ⟨t,q⟩:=(show ∃ t,u=Value.int i t from rx);cases q;exact PySem.W.kia_one PySem.W.kitx_int I.kIn True.intro e (λz=>nomatch z) h
 |str y=>obtain ⟨t,q⟩:=(show ∃ t,u=Value.str y t from rx);cases q;exact PySem.W.kia_one PySem.W.kitx_str I.kIn True.intro e (λz=>nomatch z) h
 |flt y=>obtain ⟨t,q⟩:=(show ∃ t,u=Value.float y t from rx);cases q;exact PySem.W.kia_one PySem.W.kitx_float I.kIn True.intro e (λz=>nomatch z) h
 |@lst a xs ea =>
  cases (show u=Value.ref a from rx)
  obtain ⟨_,_,n,_,h1⟩:=(show aN X.prog X.w H s.heap a (.lst xs) from I.hok a _ ea)
  exact PySem.W.kia_one PySem.W.kitx_list I.kIn ⟨_,h1,rfl⟩ e (λz=>nomatch z) h
 |@frz a ob xs ea =>
  cases (show u=Value.ref a from rx)
  obtain ⟨_,_,_,n,_,h1⟩:=(show aN X.prog X.w H s.heap a (.frz ob (.lst xs)) from I.hok a _ ea)
  exact PySem.W.kia_one PySem.W.kitx_list I.kIn ⟨_,h1,rfl⟩ e (λz=>nomatch z) h
 |@tup a xs ea =>
  cases (show u=Value.ref a from rx)
  obtain ⟨_,_,_,p⟩:=(show aN X.prog X.w H s.heap a (.tup xs) from I.hok a _ ea)
  obtain ⟨o,h1,h2,_⟩:=p
  exact PySem.W.kia_one PySem.W.kitx_tuple I.kIn ⟨o,h1,h2⟩ e (λz=>nomatch z) h
 |@dK a kvs ea =>
  cases (show u=Value.ref a from rx)
  obtain ⟨_,_,vs,_,p⟩:=(show aN X.prog X.w H s.heap a (.dK kvs) from I.hok a _ ea)
  obtain ⟨o,es,ep,h1,h2,_⟩:=p
  exact PySem.W.kia_one PySem.W.kitx_dict I.kIn ⟨o,h1,h2.1⟩ e (λz=>nomatch z) h
 |@dT a kvs ea =>
  cases (show u=Value.ref a from rx)
  obtain ⟨_,_,xs,_,o,es,ep,h1,h2,_⟩:=(show aN X.prog X.w H s.heap a (.dT kvs) from I.hok a _ ea)
  exact PySem.W.kia_one PySem.W.kitx_dict I.kIn ⟨o,h1,h2.1⟩ e (λz=>nomatch z) h
 |@ins a C dx fs ea cl ha hn htk hm =>
  cases (show u=Value.ref a from rx)
  obtain ⟨mA,O,_⟩:=iB I.hok ea
  obtain ⟨od,J,_⟩:=O.look
  exact PySem.W.kia_one (PySem.W.kitx_own (cl.get _) cl.hd ha hn htk hm) I.kIn J e (λz=>nomatch z) h
end
structure Room (k:Nat) (A:Around):Prop where
 hd:A.handled=none
 dp:A.depth+3 * k+5<recursionLimit
 un:A.units+16 * k+200<cLine
 gd:A.guards=some []
theorem Room.mono {j k:Nat}{A:Around}(r:Room k A) (h:j<=k):Room j A:=⟨r.hd,by have:=r.dp;omega,by have:=r.un;omega,r.gd⟩
theorem Room.m {j k:Nat} {A:Around} (r:Room k A) (h:j<=k:=by decide):Room j A:=r.mono h
theorem Room.deeper {k:Nat}{A:Around}(r:Room (k+1) A) (env:Env):Room k (A.deeper env) :=
 ⟨r.hd,by have:=r.dp;show A.depth+1+3 * k+5<_;omega,by have:=r.un;show A.units+3+16 * k+200<_;omega,r.gd⟩
theorem Room.in1 {k:Nat}{A:Around}(r:Room (k+1) A):Room k A.in1 :=
 ⟨r.hd,by have:=r.dp;show A.depth+3 * k+5<_;omega,by have:=r.un;show A.units+1+16 * k+200<_;omega,r.gd⟩
theorem xy {A:Around}{C:Addr}{us:List Value}{kw:List (Str×Value)}:(A.under (.builtin "type.__call__" ⟨.ref C::us,kw⟩)).depth=A.depth+1:=by
 first|rfl|simp [Around.under,Code.weight,Code.isCreation,Code.isGuard,Code.isCaller,Code.frames,Code.isFrame,guardIds]
theorem xz {A:Around}{C:Addr}{us:List Value}{kw:List (Str×Value)}:(A.under (.builtin "type.__call__" ⟨.ref C::us,kw⟩)).units=A.units+1:=by
 first|rfl|simp [Around.under,Code.cUnits,Code.frames,Code.isFrame]
theorem w4 {A:Around}{C:Addr}{us:List Value}{kw:List (Str×Value)}:(A.under (.builtin "type.__call__" ⟨.ref C::us,kw⟩)).guards=A.guards:=by
 first|rfl|simp [Around.under,Code.isGuard,guardIds]
theorem Room.make {k:Nat}{A:Around}(r:Room (k+1) A) (C:Addr) (us:List Value) (kw:List (Str×Value)):Room k (A.under (.builtin "type.__call__" ⟨.ref C::us,kw⟩)) :=
 ⟨r.hd,by have:=r.dp;rw [xy];omega,by have:=r.un;rw [xz];omega,by rw [w4];exact r.gd⟩
theorem Room.depth {k:Nat}{A:Around}(r:Room k A):A.depth<recursionLimit:=by have:=r.dp;omega
theorem Room.units {k:Nat}{A:Around}(r:Room k A):A.units+64<cLine:=by have:=r.un;omega
def dn:TA:=λ_ H Q=>Q [] H
def nt (ta:TE) (tr:TA):TA:=λU H Q=>ta U H λx H1=>tr U H1 λxs H2=>Q (x::xs) H2
section
variable {X:Cx}{e:Expr}{es:List Expr}{te:TE}{t:TA}{pos:Pos}
theorem mJ:PA X [] dn:=λ_ _ _ _ H Q I h=>Calls.spliced_nil ⟨[],H,I,.nil,h⟩
theorem lW (ha:PE X e te) (hr:PA X es t) (hs:starEach (e::es) X.env=(false,eval e X.env)::starEach es X.env:=by rfl):PA X (e::es) (nt te t):=by
 intro pos pins s U H Q I h
 rw [hs]
 show wpAny _ _ (spliced ((false,eval e X.env)::backTo pos (starEach es X.env))) _ _ s
 refine Calls.spliced_cons (thn (ha pins s U H _ I h) λu s1 zz30=>?_)
 obtain ⟨x,H1,I1,r1,q1⟩:=zz30
 exact thn (hr pos pins s1 U H1 _ I1 q1) λus s2 zz31=>by obtain ⟨xs,H2,I2,r2,q2⟩:=zz31;exact ⟨x::xs,H2,I2,.cons r1 r2,q2⟩
def Jf (t:TA):TE:=λU H Q=>t U H λxs H1=>xs.length<=sizeLine/\∀ p,H1 p=none->Q (.ref p) (upd H1 p (.tup xs))
def Jg (t:TA):TE:=λU H Q=>t U H λxs H1=>xs.length<=sizeLine/\∀ p,H1 p=none->Q (.ref p) (upd H1 p (.lst xs))
theorem DM {x1}(h:PA X es t):PE X (.Tuple es x1 pos) (Jf t):=by
 intro pins s U H Q I hq
 refine wpAny_Tuple_spliced (thn (h pos pins s U H _ I hq) λus s1 ⟨xs,H1,I1,r,z,q⟩=>⟨by rw [<- r.length];exact z,?_⟩)
 have hf:H1 s1.heap.objs.size=none:=I1.hok.fresh (Nat.le_refl _)
 refine ⟨.ref s1.heap.objs.size,upd H1 s1.heap.objs.size (.tup xs),I1.laid (t':=s1.toks) (λb u e=>Heap.get?_push_of_some _ e) (Nat.le_refl _) ?_,rfl,q _ hf⟩
 exact ⟨z,us,r,⟨_,Heap.get?_push_size _ rfl,rfl,_,rfl⟩⟩
theorem rL (h:PA X es t):PE X (.List es pos) (Jg t):=by
 intro pins s U H Q I hq
 refine wpAny_List_spliced (thn (h pos pins s U H _ I hq) λus s1 ⟨xs,H1,I1,r,z,q⟩=>⟨by rw [<- r.length];exact z,?_⟩)
 have hf:H1 s1.heap.objs.size=none:=I1.hok.fresh (Nat.le_refl _)
 refine ⟨.ref s1.heap.objs.size,upd H1 s1.heap.objs.size (.lst xs),I1.laid (t':=s1.toks) (λb u e=>Heap.get?_push_of_some _ e) (Nat.le_refl _) ?_,rfl,q _ hf⟩
 exact ⟨z,us,0,r,Heap.get?_push_size _ rfl⟩
end
abbrev Sp:=List V->Hp->VK->XK->Prop
abbrev CXT:=List Env->Hp->Shared->XK->Value->Shared->Prop
structure Env0 (P:Program) (w:World) (K:PySem.W.Frag) (mg:Str->Option Value) (base:Heap) (A:Around) (outer:List Env) (s:Shared) (H:Hp):Prop where
 frames:A.frames=some outer
 mod:Mod K mg base
 bs:∀ b o,base.get? b=some o->s.heap.get? b=some o/\H b=none
 bsz:base.objs.size<=s.heap.objs.size
 funs:s.heap.FunFrames base outer
 frf:∀ b∈frs outer,H b=none
 hok:HOk P w H s.heap
 bare:AllBare s.gens
def CE (outer:List Env) (P:Program) (w:World) (H:Hp) (s:Shared) (Q:VK) (u:Value) (s':Shared):Prop :=
 ∃ v H',s'.os=s.os/\AllBare s'.gens/\Un (frs outer) [] H H' s.heap s'.heap/\HOk P w H' s'.heap/\au v u/\Q v H'
def CR (CX:CXT) (outer:List Env) (P:Program) (w:World) (H:Hp) (s:Shared) (Q:VK) (E:XK) (r:Result) (s':Shared):Prop :=
 match r with
 |.ok (.ret u)=>CE outer P w H s Q u s'
 |.ok _=>False
 |.error e=>CX outer H s E e s'
structure FnOk (P:Program) (w:World) (K:PySem.W.Frag) (mg:Str->Option Value) (base:Heap) (CX:CXT) (k:Nat) (f:Addr) (fd:FuncData) (ps:List Str) (sp:Sp):Prop where
 len:∀ vs H Q E,sp vs H Q E->vs.length=ps.length
 run:∀ (A:Around) (outer:List Env) (s:Shared) (H:Hp) (args:Args) (us:List Value) (vs:List V) (Q:VK) (E:XK),Room k A->Env0 P w K mg base A outer s H->BindsTo s fd args (ps.zip us)->ag vs us->sp vs H Q E ->
  codeAny (model P w) A (.call (.ref f) args) (CR CX outer P w H s Q E) s
theorem FnOk.mono {P:Program}{w:World}{K:PySem.W.Frag}{mg:Str->Option Value}{base:Heap}{CX:CXT}{j k:Nat}{f:Addr}{fd:FuncData}{ps:List Str}{sp:Sp}(F:FnOk P w K mg base CX j f fd ps sp) (h:j<=k) :
  FnOk P w K mg base CX k f fd ps sp:=⟨F.len,λA outer s H args us vs Q E hr=>F.run A outer s H args us vs Q E (hr.mono h)⟩
theorem FnOk.imp {P:Program}{w:World}{K:PySem.W.Frag}{mg:Str->Option Value}{base:Heap}{CX:CXT}{k:Nat}{f:Addr}{fd:FuncData}{ps:List Str}{sp sp':Sp}(F:FnOk P w K mg base CX k f fd ps sp)
  (h:∀ vs H Q E,sp' vs H Q E->sp vs H Q E):FnOk P w K mg base CX k f fd ps sp' :=
 ⟨λvs H Q E q=>F.len vs H Q E (h _ _ _ _ q),λA outer s H args us vs Q E hr he hb hv hs=>F.run A outer s H args us vs Q E hr he hb hv (h _ _ _ _ hs)⟩
theorem Env0.make {P:Program}{w:World}{K:PySem.W.Frag}{mg:Str->Option Value}{base:Heap}{A:Around}{outer:List Env}{s:Shared}{H:Hp}(e:Env0 P w K mg base A outer s H) (C:Addr) (us:List Value) (kw:List (Str×Value)) :
  Env0 P w K mg base (A.under (.builtin "type.__call__" ⟨.ref C::us,kw⟩)) outer s H:=⟨by first|exact e.frames|(simpa [Around.under,Code.envs,Code.isFrame,pushEnvs] using e.frames),e.mod,e.bs,e.bsz,e.funs,e.frf,e.hok,e.bare⟩
theorem Env0.in1 {P:Program}{w:World}{K:PySem.W.Frag}{mg:Str->Option Value}{base:Heap}{A:Around}{outer:List Env}{s:Shared}{H:Hp}(e:Env0 P w K mg base A outer s H) :
  Env0 P w K mg base A.in1 outer s H:=⟨e.frames,e.mod,e.bs,e.bsz,e.funs,e.frf,e.hok,e.bare⟩
section
variable {X:Cx}{pins:List (Addr×Obj)}{U:St}{H:Hp}{s s':Shared}
theorem Inv.env0 (I:Inv X pins U H s):Env0 X.prog X.w X.K X.mg X.base X.A X.stack s H :=
 ⟨I.ok.frames,I.ok.mod,I.bs,Nat.le_trans I.ok.bsz I.sz,I.stack,I.stkFree,I.hok,I.bare⟩
theorem Inv.after {Q:VK}{u:Value}(I:Inv X pins U H s) (h:CE X.stack X.prog X.w H s Q u s'):EP X pins U Q u s':=by
 obtain ⟨v,H',os,bare,un,hok,r,q⟩:=h
 obtain ⟨hh,g,d,t,os'⟩:=s'
 obtain rfl:os'=s.os:=os
 exact ⟨v,H',I.call (h':=hh) (g':=g) (d':=d) (t':=t) (ch:=[]) un hok bare (λb z=>absurd z (by simp)),r,q⟩
end
def nu (sp:Sp) (dvs:List V) (E:XK) (t:TA):TE:=λU H Q=>t U H λvs H1=>sp (vs++dvs) H1 Q E
def i6 (C:Addr) (sp:Sp) (dvs:List V) (E:XK) (t:TA):TE:=λU H Q=>t U H λvs H1=>∀ x dx,H1 x=none->H1 dx=none->dx≠x ->
 sp (.ref x::(vs++dvs)) (upd (upd H1 dx (.own x)) x (.ins C dx [])) (λv H2=>v=.non/\Q (.ref x) H2) E
def ap (K:PySem.W.Frag) (fd:FuncData) (ps:List Str) (ds:List Value):Prop :=
 ∀ (s:Shared) (us:List Value),K.In s.heap->(us++ds).length=ps.length->BindsTo s fd ⟨us,[]⟩ (ps.zip (us++ds))
theorem ap.all {K:PySem.W.Frag}{fd:FuncData}{ps:List Str}(h:∀ us:List Value,us.length=ps.length->bindArgs fd ⟨us,[]⟩=pure (ps.zip us)):ap K fd ps []:=λs us _ hl=>by
 rw [List.append_nil] at hl ⊢
 exact .of_eq (h us hl)
def c7 (CX:CXT) (X:Cx) (E:XK):Prop:=∀ (pins:List (Addr×Obj)) (U:St) (H:Hp) (s:Shared) (e:Value) (s':Shared),Inv X pins U H s->CX X.stack H s E e s'->X.xe e s'
section
variable {X:Cx}{CX:CXT}{k:Nat}{f C:Addr}{fd:FuncData}{ps:List Str}{sp:Sp}{dvs:List V}{ds:List Value}{E:XK}{x m:Str}{p pos apos:Pos}{e o:Expr}{es:List Expr}{ta:TE}{t:TA}
theorem mK {pins:List (Addr×Obj)}{U:St}{H:Hp}{s:Shared}{Q:VK}{us:List Value}{vs:List V}(F:FnOk X.prog X.w X.K X.mg X.base CX k f fd ps sp) (hr:Room k X.A) (hb:ap X.K fd ps ds) (hd:ag dvs ds) (hx:c7 CX X E)
  (I:Inv X pins U H s) (r:ag vs us) (h:sp (vs++dvs) H Q E):wpAny (model X.prog X.w) X.A (call (.ref f) us) (EP X pins U Q) X.xe s:=by
 have r2:ag (vs++dvs) (us++ds):=r.append hd
 have hl:(us++ds).length=ps.length:=by rw [<- r2.length];exact F.len _ _ _ _ h
 refine wpAny_call (codeAny_mono (F.run X.A X.stack s H ⟨us,[]⟩ (us++ds) (vs++dvs) Q E hr I.env0 (hb s us I.kIn hl) r2 h) λr s' hq=>?_)
 cases r with
 |error e=>exact hx pins U H s e s' I hq
 |ok fl =>
  cases fl with
  |ret u=>exact I.after hq
  |next=>exact False.elim hq
  |brk=>exact False.elim hq
  |cont=>exact False.elim hq
theorem A9 (F:FnOk X.prog X.w X.K X.mg X.base CX k f fd ps sp) (hr:Room k X.A) (hg:Gl X x) (hm:X.mg x=some (.ref f)) (hk:PySem.W.keepIn X.K (.ref f)=true) (hb:ap X.K fd ps ds) (hd:ag dvs ds) (hx:c7 CX X E)
  (ha:PA X (e::es) t) (KC:(x==("__debug__":Str))=false:=by decide) (he:starEach (e::es) X.env=(false,eval e X.env)::starEach es X.env:=by rfl) (KL:(backTo pos (starEach es X.env)).any (·.1)=false:=by rfl) :
  PE X (.Call (.Name x p) (e::es) [] pos) (nu sp dvs E t):=by
 intro pins s U H Q I h
 refine wpAny_Call_Name_kw (cG I hg hm ?_ KC)
 refine PySem.W.callWith_K (h₀:=X.base) I.ok.mod.kin hk (thn (ha pos pins s U H _ I h) λus s1 ⟨vs,H1,I1,r,q⟩=>⟨I1.kIn,?_⟩) he KL
 exact mK F hr hb hd hx I1 r q
structure Mk (K:PySem.W.Frag) (C f:Addr):Prop where
 makes:PySem.W.makesIn K C=true
 init:PySem.W.findIn K (.ref C) "__init__"=some (some (.ref f))
 fn:PySem.W.isFn K (.ref f)=true
 kp:PySem.W.keepIn K (.ref C)=true
theorem pX {pins:List (Addr×Obj)}{U:St}{H:Hp}{s:Shared}{Q:VK}{us:List Value}{vs:List V}(M:Mk X.K C f) (F:FnOk X.prog X.w X.K X.mg X.base CX k f fd ps sp) (hr:Room (k+1) X.A) (hb:ap X.K fd ps ds) (hd:ag dvs ds)
  (hx:c7 CX X E) (I:Inv X pins U H s) (r:ag vs us)
  (h:∀ x dx,H x=none->H dx=none->dx≠x->sp (.ref x::(vs++dvs)) (upd (upd H dx (.own x)) x (.ins C dx [])) (λv H2=>v=.non/\Q (.ref x) H2) E) :
  wpAny (model X.prog X.w) X.A (call (.ref C) us) (EP X pins U Q) X.xe s:=by
 have hq:=h (s.heap.objs.size+1) s.heap.objs.size (I.hok.fresh (Nat.le_succ _)) (I.hok.fresh (Nat.le_refl _)) (Nat.ne_of_lt (Nat.lt_succ_self _))
 have I2:=Inv.made (C:=C) I
 have r2:ag (V.ref (s.heap.objs.size+1)::(vs++dvs)) (Value.ref (s.heap.objs.size+1)::(us++ds)):=.cons rfl (r.append hd)
 have hl:(Value.ref (s.heap.objs.size+1)::us++ds).length=ps.length:=by
  have e:=r2.length
  rw [F.len _ _ _ _ hq] at e
  exact e.symm
 refine wpAny_call (zn (f:=f) I.kIn M.makes M.init (beq_iff_eq.mp M.fn) (codeAny_mono (F.run _ X.stack _ _ ⟨Value.ref (s.heap.objs.size+1)::us,[]⟩ (Value.ref (s.heap.objs.size+1)::(us++ds)) _ _ E (hr.make C us [])
  (I2.env0.make C us []) (hb _ (Value.ref (s.heap.objs.size+1)::us) I2.kIn hl) r2 hq) λr s' Pj=>?_))
 cases r with
 |error e=>exact hx pins U _ _ e s' I2 Pj
 |ok fl =>
  cases fl with
  |ret u =>
   obtain ⟨v,H',I3,rv,ev,q3⟩:=I2.after Pj
   subst ev
   exact ⟨rv,⟨V.ref (s.heap.objs.size+1),H',I3,rfl,q3⟩⟩
  |next=>exact False.elim Pj
  |brk=>exact False.elim Pj
  |cont=>exact False.elim Pj
theorem Ba (M:Mk X.K C f) (F:FnOk X.prog X.w X.K X.mg X.base CX k f fd ps sp) (hr:Room (k+1) X.A) (hg:Gl X x) (hm:X.mg x=some (.ref C)) (hb:ap X.K fd ps ds) (hd:ag dvs ds) (hx:c7 CX X E)
  (ha:PA X (e::es) t) (KC:(x==("__debug__":Str))=false:=by decide) (he:starEach (e::es) X.env=(false,eval e X.env)::starEach es X.env:=by rfl) (KL:(backTo pos (starEach es X.env)).any (·.1)=false:=by rfl) :
  PE X (.Call (.Name x p) (e::es) [] pos) (i6 C sp dvs E t):=by
 intro pins s U H Q I h
 refine wpAny_Call_Name_kw (cG I hg hm ?_ KC)
 refine PySem.W.callWith_K (h₀:=X.base) I.ok.mod.kin M.kp (thn (ha pos pins s U H _ I h) λus s1 ⟨vs,H1,I1,r,q⟩=>⟨I1.kIn,?_⟩) he KL
 exact pX M F hr hb hd hx I1 r q
theorem zq (M:Mk X.K C f) (F:FnOk X.prog X.w X.K X.mg X.base CX k f fd ps sp) (hr:Room (k+1) X.A) (hg:Gl X x) (hm:X.mg x=some (.ref C)) (hb:ap X.K fd ps ds) (hd:ag dvs ds) (hx:c7 CX X E)
  (KC:(x==("__debug__":Str))=false:=by decide):PE X (.Call (.Name x p) [] [] pos) (i6 C sp dvs E dn):=by
 intro pins s U H Q I h
 refine wpAny_Call_Name_kw (cG I hg hm ?_ KC)
 exact PySem.W.callWith_K0 I.kIn M.kp (pX (us:=[]) M F hr hb hd hx I .nil h)
end
def PK (X:Cx) (Pk:List Keyword) (t:TA):Prop :=
 ∀ (pos:Pos) (pins:List (Addr×Obj)) (s:Shared) (U:St) (H:Hp) (Q:List V->Hp->Prop),Inv X pins U H s->t U H Q->wpAny (model X.prog X.w) X.A (evalAll ((backToKw pos (keywordEach Pk X.env)).map (·.2))) (AP X pins U Q) X.xe s
section
variable {X:Cx}{CX:CXT}{k:Nat}{f C:Addr}{fd:FuncData}{ps ks:List Str}{sp:Sp}{E:XK}{x m:Str}{p pos apos OY:Pos}{e o:Expr}{es:List Expr}{Pk:List Keyword}{te ta:TE}{t tk:TA}{nm:Option Str}
theorem DN:PK X [] dn:=λ_ _ _ _ H Q I h=>wpAny_evalAll_nil ⟨[],H,I,.nil,h⟩
theorem Bb (ha:PE X e te) (hr:PK X Pk t):PK X (⟨nm,e,OY⟩::Pk) (nt te t):=by
 intro pos pins s U H Q I h
 show wpAny _ _ (evalAll ((do let v <- eval e X.env;standAt pos;pure v)::(backToKw pos (keywordEach Pk X.env)).map (·.2))) _ _ s
 refine wpAny_evalAll_cons (wpAny_bind (thn (ha pins s U H _ I h) λu s1 zz32=>?_))
 obtain ⟨x,H1,I1,r1,q1⟩:=zz32
 refine wpAny_bind (wpAny_standAt (wpAny_pure ?_))
 exact thn (hr pos pins s1 U H1 _ I1 q1) λus s2 zz33=>by obtain ⟨xs,H2,I2,r2,q2⟩:=zz33;exact ⟨x::xs,H2,I2,.cons r1 r2,q2⟩
structure KBinds (K:PySem.W.Frag) (fd:FuncData) (ps ks:List Str) (g:List Value->List Value->List Value) (gV:List V->List V->List V):Prop where
 to:∀ (s:Shared) (us ws:List Value),K.In s.heap->(g us ws).length=ps.length->BindsTo s fd ⟨us,ks.zip ws⟩ (ps.zip (g us ws))
 rel:∀ {vs:List V}{us:List Value}{zs:List V}{ws:List Value},ag vs us->ag zs ws->ag (gV vs zs) (g us ws)
variable {g:List Value->List Value->List Value}{gV:List V->List V->List V}
end
structure FnScope (N P:List Str) (sc:Scope):Prop where
 kind:sc.kind=.function
 co:sc.isCoroutine=false
 gen:sc.isGenerator=false
 nd:N.Nodup
 pre:N.take P.length=P
 par:∀ x∈P,sc.names.lookup x=some .local\/sc.names.lookup x=some .cell
 nofree:∀ y∈sc.names,y.2≠.free
theorem pj {kindOf:Str->Option NameKind}{x:Str}:∀ {binds:List (Str×Value)}{m:Str->Option Value},(∀ v,(x,v)∉binds)->bindL kindOf binds m x=m x
 |[],_,_=>rfl
 |(n,v)::r,m,h=>by
  unfold bindL
  rw [pj λw hw=>h w (List.mem_cons_of_mem _ hw)]
  split
  ·have:x≠n:=by rintro rfl;exact h v List.mem_cons_self
   simp [this]
  ·rfl
theorem pq {kindOf:Str->Option NameKind}{x:Str}:∀ {binds:List (Str×Value)}{m:Str->Option Value},(∀ v,(x,v)∉binds)->bindC kindOf binds m x=m x
 |[],_,_=>rfl
 |(n,v)::r,m,h=>by
  unfold bindC
  rw [pq λw hw=>h w (List.mem_cons_of_mem _ hw)]
  split
  ·rfl
  ·have:x≠n:=by rintro rfl;exact h v List.mem_cons_self
   simp [this]
theorem pv {kindOf:Str->Option NameKind}{x:Str}{v:Value}:∀ {P:List Str}{vs:List Value}{i:Nat}{m:Str->Option Value},P.Nodup->P[i]?=some x->vs[i]?=some v->kindOf x=some .local ->
  bindL kindOf (P.zip vs) m x=some v
 |[],_,_,_,_,h,_,_=>by simp at h
 |_::_,[],_,_,_,_,h,_=>by simp at h
 |p::P,w::vs,0,m,nd,h1,h2,hk=>by
  simp at h1 h2;subst h1;subst h2
  show bindL kindOf ((p,w)::P.zip vs) m p=_
  unfold bindL
  rw [pj λv hv=>(List.nodup_cons.mp nd).1 (List.of_mem_zip hv).1,if_pos hk]
  simp
 |p::P,w::vs,i+1,m,nd,h1,h2,hk=>by
  show bindL kindOf ((p,w)::P.zip vs) m x=_
  unfold bindL
  exact pv (i:=i) (List.nodup_cons.mp nd).2 (by simpa using h1) (by simpa using h2) hk
theorem pz {kindOf:Str->Option NameKind}{x:Str}{v:Value}:∀ {P:List Str}{vs:List Value}{i:Nat}{m:Str->Option Value},P.Nodup->P[i]?=some x->vs[i]?=some v->kindOf x≠some .local ->
  bindC kindOf (P.zip vs) m x=some v
 |[],_,_,_,_,h,_,_=>by simp at h
 |_::_,[],_,_,_,_,h,_=>by simp at h
 |p::P,w::vs,0,m,nd,h1,h2,hk=>by
  simp at h1 h2;subst h1;subst h2
  show bindC kindOf ((p,w)::P.zip vs) m p=_
  unfold bindC
  rw [pq λv hv=>(List.nodup_cons.mp nd).1 (List.of_mem_zip hv).1,if_neg hk]
  simp
 |p::P,w::vs,i+1,m,nd,h1,h2,hk=>by
  show bindC kindOf ((p,w)::P.zip vs) m x=_
  unfold bindC
  exact pz (i:=i) (List.nodup_cons.mp nd).2 (by simpa using h1) (by simpa using h2) hk
noncomputable def b7 (N:List Str) (vs:List V):St:=vs.map some++List.replicate (N.length - vs.length) none
noncomputable def cK (CX:CXT) (P:Program) (w:World) (K:PySem.W.Frag) (mg:Str->Option Value) (base:Heap) (N:List Str) (qual:Str) (scope:Scope) (f:Addr) (cd:Value) (A:Around) (outer:List Env) (s:Shared) (H:Hp) (E:XK):Cx where
 prog:=P
 w:=w
 K:=K
 mg:=mg
 base:=base
 A:=A.deeper (envOfC qual scope s.heap.objs.size f cd)
 N:=N
 s₀:=s
 H₀:=H
 env:=envOfC qual scope s.heap.objs.size f cd
 outer:=outer
 stack:=envOfC qual scope s.heap.objs.size f cd::outer
 ex:=[]
 calm:=true
 fn:=λ_=>true
 pn:=[]
 xe:=λe s'=>wpAny (model P w) (A.deeper (envOfC qual scope s.heap.objs.size f cd)) (leaving (envOfC qual scope s.heap.objs.size f cd) e) (λ_ s''=>CX outer H s E e s'') (λe' s''=>CX outer H s E e' s'') s'
theorem pY {sc:Scope}{n:Nat}{x:Str}(h:sc.names.lookup x=some .cell):∃ c,(cellsFrom n sc.names []).lookup x=some c:=by
 have q:=PySem.W.cellsFrom_some sc.names n [] (.inl h)
 exact Option.isSome_iff_exists.mp q
theorem yf {CX:CXT}{P:Program}{w:World}{K:PySem.W.Frag}{mg:Str->Option Value}{base:Heap}{N ps:List Str}{qual:Str}{scope:Scope}{f:Addr}{cd:Value}{A:Around}{outer:List Env}{s s1:Shared}{H:Hp}{E:XK}{us:List Value}{vs:List V}
  (S:FnScope N ps scope) (hd:A.handled=none) (e0:Env0 P w K mg base A outer s H) (hl:vs.length=ps.length) (r:ag vs us)
  (x:InCallC s s.heap.objs.size (bindL (envOfC qual scope s.heap.objs.size f cd).kindOf (ps.zip us) λ_=>none) (cellsFrom (s.heap.objs.size+1) scope.names []) (bindC (envOfC qual scope s.heap.objs.size f cd).kindOf (ps.zip us) λ_=>none) s1) :
  Inv (cK CX P w K mg base N qual scope f cd A outer s H E) [] (b7 N vs) H s1:=by
 have KL:ps.length<=N.length:=by have:=congrArg List.length S.pre;rw [List.length_take] at this;omega
 obtain ⟨h1,tk,rfl,hk⟩:=x.done
 have noA:∀ b:Addr,b∉(cK CX P w K mg base N qual scope f cd A outer s H E).ex:=λb z=>absurd (show b∈([]:List Addr) from z) (by simp)
 refine ⟨⟨e0.mod,S.kind,rfl,rfl,Nat.le_refl _,λy z c h1 h2=>?_,λy hy=>?_,λy c _ h=>?_,λ_=>hd,Around.frames_deeper e0.frames,.inr ⟨rfl,rfl⟩,λb z=>absurd z (noA b),e0.bs,e0.bsz,λb _ _=>noA b,λb z=>absurd z (noA b),e0.funs,e0.frf⟩,
  rfl,e0.bare,Un.kept hk,⟨_,x.toInCall.ns,λi y v h1 h2 h3=>?_⟩,λy c h=>⟨_,x.cell y c h⟩,e0.hok.fresh (Nat.le_refl _),λy c h=>?_,λp hp=>absurd (show p∈([]:List (Addr×Obj)) from hp) (by simp),e0.hok.kept hk,?_⟩
 ·exact name_of_addr x.apart (PySem.mem_of_lookup h1) (PySem.mem_of_lookup h2)
 ·have hy:scope.names.lookup y=some .cell\/scope.names.lookup y=some .free:=hy
  rcases hy with hy|hy
  ·exact pY hy
  ·exact absurd rfl (S.nofree _ (PySem.mem_of_lookup hy))
 ·exact Nat.le_of_lt (x.above y c (PySem.mem_of_lookup h))
 ·have hi:i<vs.length:=by
   unfold b7 at h2
   by_cases hi:i<vs.length
   ·exact hi
   ·rw [List.getElem?_append_right (by simpa using hi)] at h2
    rw [List.getElem?_replicate] at h2
    split at h2<;>cases h2
  have ha:vs[i]?=some v:=by
   unfold b7 at h2
   rw [List.getElem?_append_left (by simpa using hi),List.getElem?_map] at h2
   cases e:vs[i]? with
   |none=>rw [e] at h2;cases h2
   |some a=>rw [e] at h2;cases h2;rfl
  obtain ⟨u,hu,rv⟩:=r.get ha
  have hp:ps[i]?=some y:=by
   rw [<- S.pre,List.getElem?_take_of_lt (by omega)];exact h1
  have ndP:ps.Nodup:=by rw [<- S.pre];exact S.nd.sublist (List.take_sublist _ _)
  refine ⟨u,rv,?_⟩
  rcases S.par y (List.mem_of_getElem? hp) with k|k
  ·exact .inl ⟨k,pv ndP hp hu k⟩
  ·obtain ⟨c,e⟩:=pY (n:=s.heap.objs.size+1) k
   refine .inr ⟨.inl k,c,e,?_⟩
   have q:=x.cell y c e
   rw [pz ndP hp hu (by show scope.names.lookup y≠_;rw [k];decide)] at q
   exact q
 ·exact e0.hok.fresh (Nat.le_of_lt (x.above y c (PySem.mem_of_lookup h)))
 ·unfold b7
  show _=N.length
  rw [List.length_append,List.length_map,List.length_replicate]
  omega
theorem ny {CX:CXT}{P:Program}{w:World}{K:PySem.W.Frag}{mg:Str->Option Value}{base:Heap}{k:Nat}{f:Addr}{name qual:Str}{params:Arguments}{body:List Stmt}{scope:Scope}{dV kV doc pm cdv ct oc:Value}{an od:Option Addr}
  {osl:Array (Option Value)}{N ps:List Str}{sp:Sp}(lk:K.lookup f=some ⟨oc,od,.func (PySem.W.fnOf name qual params body scope dV kV doc pm an cdv ct),osl⟩) (Oh:PySem.W.codeIn K cdv qual=true) (S:FnScope N ps scope)
  (len:∀ vs H Q E,sp vs H Q E->vs.length=ps.length)
  (Lg:∀ (A:Around) (outer:List Env) (s:Shared) (H:Hp) (vs:List V) (Q:VK) (E:XK),Room k (A.deeper (envOfC qual scope s.heap.objs.size f cdv))->sp vs H Q E ->
   ∃ t,PSs (cK CX P w K mg base N qual scope f cdv A outer s H E) body t/\t { nx:=λ_ H'=>Q .non H',rt:=Q } (b7 N vs) H) :
  FnOk P w K mg base CX (k+1) f (PySem.W.fnOf name qual params body scope dV kV doc pm an cdv ct) ps sp:=by
 refine ⟨len,λA outer s H args us vs Q E hr e0 hb r OU=>?_⟩
 have hl:=len _ _ _ _ OU
 have KX:K.In s.heap:=e0.mod.kin.keeps λb o e=>(e0.bs b o e).1
 have lim:s.heap.NoLimit:=e0.mod.nolimit.keeps λb o e=>(e0.bs b o e).1
 have hkind:∀ y∈ps.zip us,scope.names.lookup y.1=some .local\/(scope.names.lookup y.1=some .cell/\((cellsFrom (s.heap.objs.size+1) scope.names []).lookup y.1).isSome=true):=λzz34 hy=>by
  obtain ⟨n,v⟩:=zz34
  rcases S.par n (List.of_mem_zip hy).1 with q|q
  ·exact .inl q
  ·exact .inr ⟨q,PySem.W.cellsFrom_some _ _ _ (.inl q)⟩
 refine codeAny_call_function hr.depth (KX _ _ lk) rfl S.co S.gen rfl (PySem.W.codeRec_of KX Oh) (hb _ _ _ _ ?_)
 refine wpAny_newFunctionEnv_cells S.kind hkind λenv he s1 x=>?_
 subst he
 refine ⟨lim.keeps x.toInCall.keep,codeAny_func ?_⟩
 obtain ⟨t,ht,hq⟩:=Lg A outer s H vs Q E (hr.deeper _) OU
 have I:Inv (cK CX P w K mg base N qual scope f cdv A outer s H E) [] (b7 N vs) H s1:=yf S hr.hd e0 hl r x
 refine wpAny_mono (ht [] s1 (b7 N vs) H _ I hq) (λfl s' hs=>?_) λe s' hs=>hs
 have fin:∀ {J7:St}{H':Hp}{v:V}{u:Value},Inv (cK CX P w K mg base N qual scope f cdv A outer s H E) [] J7 H' s'->au v u->Q v H'->CE outer P w H s Q u s' :=
  fun {J7 H' v u} J rv q=>⟨v,H',J.os,J.bare,J.base,J.hok,rv,q⟩
 cases fl with
 |ret u =>
  obtain ⟨v,J7,H',J,rv,q⟩:=hs
  exact fin J rv q
 |next =>
  obtain ⟨J7,H',J,q⟩:=hs
  exact fin (v:=V.non) (u:=Value.none) J rfl q
 |brk =>
  obtain ⟨_,_,_,q⟩:=hs
  exact False.elim q
 |cont =>
  obtain ⟨_,_,_,q⟩:=hs
  exact False.elim q
section
variable {X:Cx}{x:Str}{p pos:Pos}{e:Expr}{es:List Expr}{t:TA}{id T:String}{r:List V->Hp->VK->Prop}
def tCB (r:List V->Hp->VK->Prop) (t:TA):TE:=λU H Q=>t U H λvs H1=>r vs H1 Q
theorem zr (hc:bu X (.builtin id) r) (hg:Gl X x) (hm:X.mg x=none) (hv:bootBuiltins x=some (.builtin id)) (ha:PA X (e::es) t) (hn:x ≠ "__name__":=by decide) (KC:(x==("__debug__":Str))=false:=by decide)
  (he:starEach (e::es) X.env=(false,eval e X.env)::starEach es X.env:=by rfl) (KL:(backTo pos (starEach es X.env)).any (·.1)=false:=by rfl):PE X (.Call (.Name x p) (e::es) [] pos) (tCB r t):=by
 intro pins s U H Q I h
 refine wpAny_Call_Name_kw (eT I hg hm hv ?_ hn KC)
 exact PyProof.Rows.callWith_builtin1 (thn (ha pos pins s U H _ I h) λus s1 zz35=>by obtain ⟨vs,H1,I1,r1,q1⟩:=zz35;exact hc pins s1 U H1 vs us Q I1 r1 q1) he KL
theorem yg (hc:bu X (.type T) r) (hg:Gl X x) (hm:X.mg x=none) (hv:bootBuiltins x=some (.type T)) (ha:PA X (e::es) t) (hn:x ≠ "__name__":=by decide) (KC:(x==("__debug__":Str))=false:=by decide)
  (he:starEach (e::es) X.env=(false,eval e X.env)::starEach es X.env:=by rfl) (KL:(backTo pos (starEach es X.env)).any (·.1)=false:=by rfl):PE X (.Call (.Name x p) (e::es) [] pos) (tCB r t):=by
 intro pins s U H Q I h
 refine wpAny_Call_Name_kw (eT I hg hm hv ?_ hn KC)
 exact PyProof.Rows.callWith_type1 (thn (ha pos pins s U H _ I h) λus s1 zz36=>by obtain ⟨vs,H1,I1,r1,q1⟩:=zz36;exact hc pins s1 U H1 vs us Q I1 r1 q1) he KL
end
end L2
namespace HT
open PySem PyProof.Rows
section
open PySem.SeqAt
open PySem.AutoSeq1 (wpAny_loadPart')
open PySem.MeetsSeq PySem.MeetsSeq2 PySem.MeetsSeq3
end
section
variable {prog:Program}{w:World}{A:Around}{E:Value->Shared->Prop}{s:Shared}
theorem cat_tup {t b:Addr}{vs ws:List Value}{Q:Value->Shared->Prop}(ht:IsTup s.heap t vs.toArray) (hb:IsTup s.heap b ws.toArray) (hv:vs≠[])
  (h1:ws=[]->Q (.ref t) s) (h2:ws≠[]->Q (.ref s.heap.objs.size) { s with heap:=s.heap.push { cls:=.type "tuple",data:=.seq (vs++ws).toArray } })
  (hsz:vs.length+ws.length<=sizeLine):wpAny (model prog w) A (binaryOp .Add (.ref t) (.ref b)) Q E s:=by
 obtain ⟨⟨cls,dd,data,sl⟩,ho,hc,n,hd⟩:=id ht
 obtain ⟨⟨cls2,dd2,data2,sl2⟩,ho2,hc2,n2,hd2⟩:=id hb
 simp only at hc hd hc2 hd2
 subst hc hd hc2 hd2
 have e:vs.toArray++ws.toArray=(vs++ws).toArray:=by simp
 by_cases hw:ws=[]
 ·exact concat_meets ⟨_,ho,rfl⟩ ⟨_,ho2,rfl⟩ noFill_tuple_add seq_tuple_add PySem.F.slot_tuple_add PySem.F.entry_tuple_add (PySem.F.args_tuple_add_2 _ _)
   (tuple_addW1 t b vs.toArray ws.toArray n n2 dd dd2 sl sl2 (by simpa using hv) (by simp [hw])) ⟨ho,ho2,h1 hw⟩
 ·refine concat_meets ⟨_,ho,rfl⟩ ⟨_,ho2,rfl⟩ noFill_tuple_add seq_tuple_add PySem.F.slot_tuple_add PySem.F.entry_tuple_add (PySem.F.args_tuple_add_2 _ _)
   (tuple_addW2 t b vs.toArray ws.toArray n n2 dd dd2 sl sl2 (by simpa using hv) (by simpa using hw) (by rw [List.size_toArray,List.size_toArray];exact hsz)) ⟨ho,ho2,?_⟩
  rw [e]
  exact h2 hw
noncomputable def sIx (n d:Nat):Option Int->Nat
 |none=>d
 |some v=>if v<0 then (v+(n:Int)).toNat else min v.toNat n
theorem sIx_none (n d:Nat):sIx n d none=d:=rfl
theorem sIx_nat (n d k:Nat):sIx n d (some (k:Int))=min k n:=by
 show (if (k:Int)<0 then ((k:Int)+(n:Int)).toNat else min (k:Int).toNat n)=min k n
 rw [if_neg (by omega),Int.toNat_natCast]
end
end HT
namespace L2
open PySem PySem.Spec PyProof.Rows
abbrev TO:=St->Hp->(Option Int->Hp->Prop)->Prop
def PO (X:Cx) (e:Option Expr) (t:TO):Prop :=
 ∀ (pins:List (Addr×Obj)) (s:Shared) (U:St) (H:Hp) (Q:Option Int->Hp->Prop),Inv X pins U H s->t U H Q ->
  wpAny (model X.prog X.w) X.A (evalPart e X.env) (λu s'=>∃ o H',Inv X pins U H' s'/\IsPart u o/\Q o H') X.xe s
def Bc:TO:=λ_ H Q=>Q none H
def GO (t:TE):TO:=λU H Q=>t U H λx H1=>∃ i,x=.int i/\Q (some i) H1
section
variable {X:Cx}{e:Expr}{te:TE}{lo hi:Option Expr}{tl th:TO}{pos p2:Pos}
theorem Be:PO X none Bc:=by
 intro pins s U H Q I h
 rw [evalPart_none]
 exact wpAny_pure ⟨none,H,I,.none,h⟩
theorem Bf (h:PE X e te):PO X (some e) (GO te):=by
 intro pins s U H Q I hw
 rw [evalPart_some]
 refine thn (h pins s U H _ I hw) λu s1 zz37=>?_
 obtain ⟨x,H1,I1,r1,q1⟩:=zz37
 obtain ⟨i,rfl,q⟩:=q1
 obtain ⟨t,rfl⟩:=r1
 exact ⟨some i,H1,I1,.int i t,q⟩
def SlR (X:Cx) (r:V->Option Int->Option Int->Hp->VK->Prop):Prop :=
 ∀ (pins:List (Addr×Obj)) (s:Shared) (U:St) (H:Hp) (x:V) (v vl vu:Value) (lo hi:Option Int) (sl:Addr) (Q:VK),Inv X pins U H s->au x v->s.heap.IsSliceOf sl vl vu .none->IsPart vl lo->IsPart vu hi->r x lo hi H Q ->
  ∃ T id,typeLookup (.type T) "__getitem__"=pure (some (.builtin id))/\s.TypeIs v T/\wpAny (model X.prog X.w) X.A (getItem v (.ref sl)) (EP X pins U Q) X.xe s
def tSl (r:V->Option Int->Option Int->Hp->VK->Prop) (te:TE) (tl th:TO):TE:=λU H Q=>te U H λx H1=>tl U H1 λl H2=>th U H2 λu H3=>r x l u H3 Q
theorem zt {r:V->Option Int->Option Int->Hp->VK->Prop}(hr:SlR X r) (he:PE X e te) (hl:PO X lo tl) (hu:PO X hi th):PE X (.Subscript e (.Slice lo hi none p2) pos) (tSl r te tl th):=by
 intro pins s U H Q I h
 refine Subscript_ (thn (he pins s U H _ I h) λv s1 zz38=>?_)
 obtain ⟨x,H1,I1,r1,q1⟩:=zz38
 refine wpAny_Slice (thn (hl pins s1 U H1 _ I1 q1) λvl s2 zz39=>?_)
 obtain ⟨l,H2,I2,pl,q2⟩:=zz39
 refine thn (hu pins s2 U H2 _ I2 q2) λvu s3 zz40=>?_
 obtain ⟨u,H3,I3,pu,q3⟩:=zz40
 rw [evalPart_none]
 refine wpAny_pure ?_
 have I4:Inv X pins U H3 { s3 with heap:=s3.heap.push { cls:=.type "slice",data:=.fields #[vl,vu,.none] } }:=I3.kept (t':=s3.toks) λb ob q=>Heap.get?_push_of_some _ q
 obtain ⟨T,id,hT,ht,hg⟩:=hr pins { s3 with heap:=s3.heap.push { cls:=.type "slice",data:=.fields #[vl,vu,.none] } } U H3 x v vl vu l u s3.heap.objs.size Q I4 r1 (Heap.IsSliceOf.new ..) pl pu q3
 show wpAny (model X.prog X.w) X.A (subscriptTail e (.Slice lo hi none p2) v (.ref s3.heap.objs.size)) (EP X pins U Q) X.xe { s3 with heap:=s3.heap.push { cls:=.type "slice",data:=.fields #[vl,vu,.none] } }
 exact tail_any (ops:=[.ref s3.heap.objs.size,v]) ht hT hg (by with_unfolding_all rfl)
def fG (xs:List V) (lo hi:Option Int):List V:=(xs.drop (HT.sIx xs.length 0 lo)).take (HT.sIx xs.length xs.length hi - HT.sIx xs.length 0 lo)
theorem w5 (xs:List V) (lo hi:Option Int):(fG xs lo hi).length<=xs.length:=by
 unfold fG
 rw [List.length_take,List.length_drop]
 omega
def GP (K:PySem.W.Frag):R2:=λx y H Q=>∃ a b xs ys,x=.ref a/\y=.ref b/\SqT K H a xs/\SqT K H b ys/\xs≠[]/\xs.length+ys.length<=sizeLine /\
 (ys=[]->Q (.ref a) H)/\(ys≠[]->∀ p,H p=none->Q (.ref p) (upd H p (.tup (xs++ys))))
theorem ag.nil_iff {xs:List V}{us:List Value}(r:ag xs us):us=[] ↔ xs=[]:=by
 cases r with
 |nil=>simp
 |cons _ _=>simp
theorem Bg:OpR X (binaryOp .Add) (GP X.K):=by
 intro pins s U H x y v u Q I rx ry h
 obtain ⟨a,b,xs,ys,rfl,rfl,ha,hb,hx,hz,q1,q2⟩:=h
 cases rx
 cases ry
 obtain ⟨its,r1,p1,_⟩:=I.tuple ha
 obtain ⟨QU,r2,p2,_⟩:=I.tuple hb
 refine HT.cat_tup p1 p2 (λz=>hx (r1.nil_iff.mp z)) (λz=>⟨.ref a,H,I,rfl,q1 (r2.nil_iff.mp z)⟩) (λz=>?_) (by rw [<- r1.length,<- r2.length];exact hz)
 refine ⟨.ref s.heap.objs.size,_,I.laid (t':=s.toks) (o:=.tup (xs++ys)) (λb ob q=>Heap.get?_push_of_some _ q) (Nat.le_refl _) ?_,rfl,q2 (λw=>z (r2.nil_iff.mpr w)) _ (I.hok.fresh (Nat.le_refl _))⟩
 exact ⟨by rw [List.length_append];exact hz,_,r1.append r2,IsTup.new _ _⟩
end
noncomputable def ixN (n:Nat) (i:Int):Option Nat:=if 0<=i then (if i<n then some i.toNat else none) else if -(n:Int)<=i then some (i+n).toNat else none
def atI {α:Type}(xs:List α) (i:Int):Option α:=(ixN xs.length i).bind λj=>xs[j]?
theorem qA {n:Nat}{i:Int}{j:Nat}(h:ixN n i=some j):seqIndex? i n=some j/\j<n /\ -(n:Int)<=i/\i<n:=by
 unfold ixN at h
 by_cases h0:0<=i
 ·rw [if_pos h0] at h
  by_cases h1:i<n
  ·rw [if_pos h1] at h
   have e:i.toNat=j:=Option.some.inj h
   exact ⟨by rw [seqIndex_of h0 h1,e],by omega,by omega,h1⟩
  ·rw [if_neg h1] at h;cases h
 ·rw [if_neg h0] at h
  by_cases h1:-(n:Int)<=i
  ·rw [if_pos h1] at h
   have e:(i+n).toNat=j:=Option.some.inj h
   exact ⟨by rw [seqIndex_neg (by omega) h1,e],by omega,h1,by omega⟩
  ·rw [if_neg h1] at h;cases h
theorem lX {α:Type}{xs:List α}{i:Int}{v:α}(h:atI xs i=some v):∃ j,seqIndex? i xs.length=some j/\xs[j]?=some v/\j<xs.length /\ -(xs.length:Int)<=i/\i<xs.length:=by
 unfold atI at h
 cases e:ixN xs.length i with
 |none=>rw [e] at h;cases h
 |some j =>
  rw [e] at h
  obtain ⟨h1,h2,h3,h4⟩:=qA e
  exact ⟨j,h1,h,h2,h3,h4⟩
theorem lY {α:Type}{xs:List α}{j:Nat}{v:α}(h:xs[j]?=some v):atI xs (j:Int)=some v:=by
 have hj:j<xs.length:=(List.getElem?_eq_some_iff.mp h).1
 have e:ixN xs.length (j:Int)=some j:=by
  unfold ixN
  rw [if_pos (by omega),if_pos (by omega)];simp
 unfold atI;rw [e];exact h
def lZ (b:Expr):Prop:=∀ o i,subscripted b false o i=operate [o,i] (getItem o i)
def IxR (X:Cx) (r:R2):Prop :=
 ∀ (value slice:Expr) (pins:List (Addr×Obj)) (s:Shared) (U:St) (H:Hp) (x y:V) (v u:Value) (Q:VK),Inv X pins U H s->au x v->au y u->r x y H Q ->
  subscripted slice false v u=operate [v,u] (getItem v u)->wpAny (model X.prog X.w) X.A (subscriptTail value slice v u) (EP X pins U Q) X.xe s
def MtR (X:Cx) (id:String) (r:V->List V->Hp->VK->Prop):Prop :=
 ∀ (pins:List (Addr×Obj)) (s:Shared) (U:St) (H:Hp) (x:V) (xs:List V) (v:Value) (us:List Value) (Q:VK),Inv X pins U H s->au x v->ag xs us->r x xs H Q ->
  wpAny (model X.prog X.w) X.A (call (.builtin id) (v::us)) (EP X pins U Q) X.xe s
section
variable {X:Cx}{a b:Expr}{ta tb:TE}{pos:Pos}
theorem GQ {r:R2}(hr:IxR X r) (ha:PE X a ta) (hb:PE X b tb) (hs:lZ b):PE X (.Subscript a b pos) (tOp r ta tb):=by
 intro pins s U H Q I h
 exact Subscript_ (n4 ha hb I h λv u s2 x y H2 I2 rx ry q=>hr a b pins s2 U H2 x y v u Q I2 rx ry q (hs _ _))
def Jh (K:PySem.W.Frag):R2:=λx y H Q=>∃ p xs i v,x=.ref p/\y=.int i/\SqL K H p xs/\atI xs i=some v/\Q v H
def Ji (K:PySem.W.Frag):R2:=λx y H Q=>∃ p xs i v,x=.ref p/\y=.int i/\SqT K H p xs/\atI xs i=some v/\Q v H
def Jj:R2:=λx y H Q=>∃ z i c,x=.str z/\y=.int i/\z.length<=sizeLine/\atI z.cps.toList i=some c/\Q (.str ⟨#[c]⟩) H
theorem Bi:IxR X (Jh X.K):=by
 intro value slice pins s U H x y v u Q I rx ry h hs
 obtain ⟨p,xs,i,z,rfl,rfl,hq,he,q⟩:=h
 cases rx
 obtain ⟨t,rfl⟩:=ry
 obtain ⟨its,r,pl,hz⟩:=I.list hq
 obtain ⟨j,h1,h2,h3,h4,h5⟩:=lX he
 obtain ⟨w,ew,rw'⟩:=r.get h2
 have hl:=r.length
 have hn:=dU
 have fin:EP X pins U Q w s:=⟨z,H,I,rw',q⟩
 by_cases h0:0<=i
 ·have hj:i.toNat=j:=by
   rw [seqIndex_of h0 h5] at h1
   exact Option.some.inj h1
  exact item_listR pl.isList h0 (by omega) (by rw [hj];simpa using ew) fin hs
 ·have hj:(i+(its.toArray.size:Int)).toNat=j:=by
   rw [seqIndex_neg (by omega) h4] at h1
   rw [List.size_toArray,<- hl]
   exact Option.some.inj h1
  exact subscriptTail_builtinR (x:=w) pl.isList.typeIs slot_list_getitem.lookup
   (wpAny_getItem_list_neg (Q:=λr s'=>r=w/\EP X pins U Q r s') pl.isList (by omega) (by rw [List.size_toArray]<;>omega) (by omega) (by rw [hj];simpa using ew) ⟨rfl,fin⟩) hs
theorem DO:IxR X (Ji X.K):=by
 intro value slice pins s U H x y v u Q I rx ry h hs
 obtain ⟨p,xs,i,z,rfl,rfl,hq,he,q⟩:=h
 cases rx
 obtain ⟨t,rfl⟩:=ry
 obtain ⟨its,r,pl,hz⟩:=I.tuple hq
 obtain ⟨j,h1,h2,h3,h4,h5⟩:=lX he
 obtain ⟨w,ew,rw'⟩:=r.get h2
 have hl:=r.length
 have hn:=dU
 have fin:EP X pins U Q w s:=⟨z,H,I,rw',q⟩
 exact subscriptTail_builtinR (x:=w) pl.typeIs slot_tuple_getitem.lookup
  (getItem_tuple (j:=j) (Q:=λr s'=>r=w/\EP X pins U Q r s') pl (by omega) (by omega) (by rw [List.size_toArray,<- hl];exact h1) (by simpa using ew) ⟨rfl,fin⟩) hs
theorem DP:IxR X Jj:=by
 intro value slice pins s U H x y v u Q I rx ry h hs
 obtain ⟨z,i,c,rfl,rfl,hz,he,q⟩:=h
 obtain ⟨t,rfl⟩:=rx
 obtain ⟨t',rfl⟩:=ry
 obtain ⟨j,h1,h2,h3,h4,h5⟩:=lX he
 have hl:z.cps.toList.length=z.length:=by simp [Str.length]
 rw [hl] at h1 h4 h5
 have hn:=dU
 exact tail_any (typeIs_str s z t) slot_str_getitem.lookup (getItem_str (c:=c) (by
  have e1:decide (i < -(2 ^ 63:Int))=false:=decide_eq_false (by omega)
  have e2:decide (i≥2 ^ 63)=false:=decide_eq_false (by omega)
  rw [e1,e2,Bool.or_false]) (by rw [h1];simpa using h2) ⟨.str ⟨#[c]⟩,H,I.tok _,⟨_,rfl⟩,q⟩) hs
theorem xA (its:List Value) (n j:Nat) (u:Value):Obj.mapSeq (·.setIfInBounds j u) { cls:=.type "list",data:=.seq its.toArray n }={ cls:=.type "list",data:=.seq (its.set j u).toArray n }:=by
 simp [Obj.mapSeq]
theorem Inv.lst {pins:List (Addr×Obj)}{U:St}{H:Hp}{s:Shared}{p:Addr}{xs:List V}(I:Inv X pins U H s) (h:H p=some (.lst xs)) :
  ∃ (its:List Value) (n:Nat),ag xs its/\s.heap.get? p=some { cls:=.type "list",data:=.seq its.toArray n }/\xs.length<=sizeLine:=by
 obtain ⟨z,its,n,r,e⟩:=I.hok p _ h
 exact ⟨its,n,r,e,z⟩
theorem Inv.lstUpd {pins:List (Addr×Obj)}{U:St}{H:Hp}{s:Shared}{p:Addr}{xs ys:List V}{its its':List Value}{n n':Nat}{f:Obj->Obj}(I:Inv X pins U H s) (h:H p=some (.lst xs))
  (ho:s.heap.get? p=some { cls:=.type "list",data:=.seq its.toArray n }) (hf:f { cls:=.type "list",data:=.seq its.toArray n }={ cls:=.type "list",data:=.seq its'.toArray n' }) (r:ag ys its') (hz:ys.length<=sizeLine) (t:Nat) :
  Inv X pins U (upd H p (.lst ys)) { s with heap:=s.heap.update p f,toks:=t }:=by
 have e:(s.heap.update p f).get? p=some { cls:=.type "list",data:=.seq its'.toArray n' }:=by
  rw [Heap.get?_update_self f ho (by rw [hf]<;>rfl),hf]
 refine I.write (x:=p) (e:=p) (by rw [h];trivial) (.inl rfl) (λb u hb q=>(Heap.get?_update_other _ _ (Ne.symm hb)).trans q) ⟨_,e⟩ ?_
 exact ⟨hz,its',n',r,e⟩
def GR:V->V->V->Hp->(Hp->Prop)->Prop:=λo i v H Q=>∃ p xs k j,o=.ref p/\i=.int k/\H p=some (.lst xs)/\ixN xs.length k=some j/\Q (upd H p (.lst (xs.set j v)))
theorem zv:dm X GR:=by
 intro pins s U H o i v ov iv u Q I ro ri rv h
 obtain ⟨p,xs,k,j,rfl,rfl,hp,hj,q⟩:=h
 cases ro
 obtain ⟨t,rfl⟩:=ri
 obtain ⟨its,n,r,ho,hz⟩:=I.lst hp
 obtain ⟨h1,h2,h3,h4⟩:=qA hj
 have hl:=r.length
 have hn:=dU
 have I':Inv X pins U (upd H p (.lst (xs.set j v))) { s with heap:=s.heap.update p (Obj.mapSeq (·.setIfInBounds j u)) } :=
  I.lstUpd hp ho (xA its n j u) (r.set rv j) (by rw [List.length_set];exact hz) s.toks
 by_cases h0:0<=k
 ·have hk:k.toNat=j:=by
   rw [seqIndex_of h0 h4] at h1
   exact Option.some.inj h1
  exact PySem.W.ki_setAt ho h0 (by omega) (by rw [List.size_toArray,<- hl];exact h4) (by rw [hk];exact ⟨_,I',q⟩)
 ·have hk:(k+(its.toArray.size:Int)).toNat=j:=by
   rw [seqIndex_neg (by omega) h3] at h1
   rw [List.size_toArray,<- hl]
   exact Option.some.inj h1
  exact PySem.W.ki_setBack ho (by omega) (by rw [List.size_toArray,<- hl];exact h3) (by omega) (by rw [hk];exact ⟨_,I',q⟩)
theorem wI (lo hi:Option Int) (n:Nat):(sliceBounds lo hi none n).1=((HT.sIx n 0 lo:Nat):Int)/\(sliceBounds lo hi none n).2.1=((HT.sIx n n hi:Nat):Int)/\(sliceBounds lo hi none n).2.2=1:=by
 refine ⟨?_,?_,rfl⟩
 ·cases lo with
  |none=>simp [sliceBounds,HT.sIx]
  |some i =>
   simp only [sliceBounds,HT.sIx,Option.getD_none,show (1:Int)>0 by decide,if_true]
   by_cases h:i<0
   ·simp only [h,if_true]<;>omega
   ·simp only [h,if_false]<;>omega
 ·cases hi with
  |none=>simp [sliceBounds,HT.sIx]
  |some i =>
   simp only [sliceBounds,HT.sIx,Option.getD_none,show (1:Int)>0 by decide,if_true]
   by_cases h:i<0
   ·simp only [h,if_true]<;>omega
   ·simp only [h,if_false]<;>omega
theorem wx (its:List Value) (lo hi:Option Int):slicePick its.toArray lo hi none=((its.drop (HT.sIx its.length 0 lo)).take (HT.sIx its.length its.length hi - HT.sIx its.length 0 lo)).toArray:=by
 obtain ⟨h1,h2,h3⟩:=wI lo hi its.toArray.size
 unfold slicePick
 rw [h1,h2,h3]
 simp only [sliceRange_one,pick_run,List.size_toArray]<;>rfl
def uR (K:PySem.W.Frag):V->Option Int->Option Int->Hp->VK->Prop:=λx lo hi H Q=>∃ a xs,x=.ref a/\SqL K H a xs/\∀ p,H p=none->Q (.ref p) (upd H p (.lst (fG xs lo hi)))
theorem Bj:SlR X (uR X.K):=by
 intro pins s U H x v vl vu lo hi sl Q I rx hs pl pu h
 obtain ⟨a,xs,rfl,hx,q⟩:=h
 cases rx
 obtain ⟨its,r,ht,hz⟩:=I.list hx
 have KS:=r.length
 refine ⟨"list",_,slot_list_getitem.lookup,ht.isList.typeIs,?_⟩
 refine wpAny_getItem_list_slice ht.isList hs pl pu .none (by simp) ?_ (by rw [List.size_toArray]<;>omega)
 rw [wx,<- KS]
 refine ⟨.ref s.heap.objs.size,_,I.laid (t':=s.toks) (o:=.lst (fG xs lo hi)) (λb ob q=>Heap.get?_push_of_some _ q) (Nat.le_refl _) ?_,rfl,q _ (I.hok.fresh (Nat.le_refl _))⟩
 exact ⟨Nat.le_trans (w5 xs lo hi) hz,_,0,(r.drop (HT.sIx xs.length 0 lo)).take (HT.sIx xs.length xs.length hi - HT.sIx xs.length 0 lo),Heap.get?_push_size _ rfl⟩
theorem oJ:bu X (.builtin "len") (λxs H Q=>∃ p ys,xs=[.ref p]/\(SqL X.K H p ys\/SqT X.K H p ys)/\Q (.int ys.length) H):=by
 intro pins s U H xs us Q I r h
 obtain ⟨p,ys,rfl,hq,q⟩:=h
 obtain ⟨u,rfl,rx⟩:=bW r
 cases rx
 have hn:=dU
 rcases hq with hq|hq
 ·obtain ⟨its,r',pl,hz⟩:=I.list hq
  have KS:=r'.length
  exact Calls.call_len_list pl.isList (by simp only [List.size_toArray]<;>omega) ⟨.int ys.length,H,I.tok _,⟨s.toks+1,by rw [List.size_toArray,KS]⟩,q⟩
 ·obtain ⟨its,r',pl,hz⟩:=I.tuple hq
  have KS:=r'.length
  exact len_tuple pl (by simp only [List.size_toArray]<;>omega) ⟨.int ys.length,H,I.tok _,⟨s.toks+1,by rw [List.size_toArray,KS]⟩,q⟩
theorem wJ:bu X (.builtin "len") (λxs H Q=>∃ z,xs=[.str z]/\z.length<=sizeLine/\Q (.int z.length) H):=by
 intro pins s U H xs us Q I r h
 obtain ⟨z,rfl,hz,q⟩:=h
 obtain ⟨u,rfl,t,rfl⟩:=bW r
 have hn:=dU
 exact len_str (by omega) ⟨.int z.length,H,I.tok _,⟨_,rfl⟩,q⟩
theorem oK:bu X (.type "list") (λxs H Q=>∃ p ys,xs=[.ref p]/\(SqL X.K H p ys\/SqT X.K H p ys)/\∀ l,H l=none->Q (.ref l) (upd H l (.lst ys))):=by
 intro pins s U H xs us Q I r h
 obtain ⟨p,ys,rfl,hq,q⟩:=h
 obtain ⟨u,rfl,rx⟩:=bW r
 cases rx
 have fin:∀ (its:List Value),ag ys its->ys.length<=sizeLine->∀ (h':Heap) (c':Nat),(∀ b o',s.heap.get? b=some o'->h'.get? b=some o') ->
   h'.get? s.heap.objs.size=some { cls:=.type "list",dict:=none,data:=.seq its.toArray c',slots:=#[] }->EP X pins U Q (.ref s.heap.objs.size) { s with heap:=h' }:=λits r' hz h' c' kp e =>
  ⟨.ref s.heap.objs.size,_,I.laid (t':=s.toks) kp (Nat.le_refl _) (show aN X.prog X.w _ h' _ (.lst ys) from ⟨hz,its,c',r',e⟩),rfl,q _ (I.hok.fresh (Nat.le_refl _))⟩
 rcases hq with hq|hq
 ·obtain ⟨its,r',pl,hz⟩:=I.list hq
  have KS:=r'.length
  obtain ⟨o,ho,hc,n,hd⟩:=pl.isList
  exact call_list_seq p (.inl rfl) ho hc hd (λh' c' kp e=>fin its r' hz h' c' kp e) (by simp only [List.size_toArray]<;>omega)
 ·obtain ⟨its,r',pl,hz⟩:=I.tuple hq
  have KS:=r'.length
  obtain ⟨o,ho,hc,n,hd⟩:=pl
  exact call_list_seq p (.inr rfl) ho hc hd (λh' c' kp e=>fin its r' hz h' c' kp e) (by simp only [List.size_toArray]<;>omega)
def tyV (K:PySem.W.Frag) (T:String) (x:V) (H:Hp):Prop:=match x with
 |.str _=>T="str"
 |.int _=>T="int"
 |.ref p=>(T="list" /\ ∃ xs,SqL K H p xs)\/(T="tuple" /\ ∃ o,K.lookup p=some o/\o.cls=.type "tuple" /\ o.dict=none) \/
   (T="dict" /\ ((∃ kvs,H p=some (.dK kvs))\/∃ kvs,H p=some (.dT kvs)))\/(T="set" /\ ∃ S n,H p=some (.set S n))
 |_=>False
theorem rM {pins:List (Addr×Obj)}{U:St}{H:Hp}{s:Shared}{T:String}{x:V}{v:Value}(I:Inv X pins U H s) (r:au x v) (ty:tyV X.K T x H) :
  s.TypeIs v T/\∀ a,v=.ref a->∃ ob,s.heap.get? a=some ob/\ob.dict=none:=by
 cases x with
 |str z =>
  obtain ⟨t,rfl⟩:=r
  cases (show T="str" from ty)
  exact ⟨typeIs_str s z t,λ_ e=>nomatch e⟩
 |int i =>
  obtain ⟨t,rfl⟩:=r
  cases (show T="int" from ty)
  exact ⟨typeIs_int s i t,λ_ e=>nomatch e⟩
 |ref p =>
  cases r
  rcases ty with ⟨rfl,xs,hq⟩|⟨rfl,o,hk,hc,hd⟩|⟨rfl,hk⟩|⟨rfl,S,n,hk⟩
  ·obtain ⟨its,_,pl,_⟩:=I.list hq
   refine ⟨pl.isList.typeIs,λa e=>?_⟩
   cases e
   obtain ⟨o,n,e,c,hd,_⟩:=pl
   exact ⟨o,e,hd⟩
  ·refine ⟨⟨o,I.kIn p o hk,hc⟩,λa e=>?_⟩
   cases e
   exact ⟨o,I.kIn _ o hk,hd⟩
  ·have z:∃ o,s.heap.get? p=some o/\o.ExactDict:=by
    rcases hk with ⟨kvs,hk⟩|⟨kvs,hk⟩
    ·obtain ⟨_,_,_,_,o,_,_,e,ex,_⟩:=I.hok p _ hk
     exact ⟨o,e,ex⟩
    ·obtain ⟨_,_,_,_,o,_,_,e,ex,_⟩:=I.hok p _ hk
     exact ⟨o,e,ex⟩
   obtain ⟨o,e,ex⟩:=z
   refine ⟨⟨o,e,ex.1⟩,λa e2=>?_⟩
   cases e2
   exact ⟨o,e,ex.2.1⟩
  ·obtain ⟨o,_,_,_,e,ex,_⟩:=I.hok p _ hk
   refine ⟨⟨o,e,ex.1⟩,λa e2=>?_⟩
   cases e2
   exact ⟨o,e,ex.2.1⟩
 |_=>exact False.elim ty
def Jk (K:PySem.W.Frag) (T:String) (r:V->List V->Hp->VK->Prop) (to:TE):TE:=λU H Q=>to U H λx H1=>tyV K T x H1/\r x [] H1 Q
def tBM (K:PySem.W.Frag) (T:String) (r:V->List V->Hp->VK->Prop) (to:TE) (t:TA):TE:=λU H Q=>to U H λx H1=>tyV K T x H1/\t U H1 λxs H2=>r x xs H2 Q
variable {o e:Expr}{es:List Expr}{to:TE}{t:TA}{name:Str}{apos cpos:Pos}{T id:String}{r:V->List V->Hp->VK->Prop}
theorem DQ (pa:PlainAttrs T) (slot:Slot T name id) (O8:typeOf (.builtin id)=pure (.type "method_descriptor")) (hm:MtR X id r) (ho:PE X o to)
  (KZ:attributeBase o name X.env (eval o X.env)=eval o X.env:=by rfl) (LP:(apos.endLine==cpos.line)=true:=by rfl):PE X (.Call (.Attribute o name apos) [] [] cpos) (Jk X.K T r to):=by
 intro pins s U H Q I h
 refine wpAny_Call_method0_late KZ LP (thn (ho pins s U H _ I h) λv s1 zz41=>?_)
 obtain ⟨x,H1,I1,r1,ty,q1⟩:=zz41
 obtain ⟨h1,h2⟩:=rM I1 r1 ty
 exact ⟨T,id,pa,slot,O8,h1,h2,Calls.callWith_builtin rfl (PySem.evalArgs_none (hm pins s1 U H1 x [] v [] Q I1 r1 .nil q1))⟩
theorem GU (pa:PlainAttrs T) (slot:Slot T name id) (O8:typeOf (.builtin id)=pure (.type "method_descriptor")) (hm:MtR X id r) (ho:PE X o to) (ha:PA X (e::es) t)
  (KZ:attributeBase o name X.env (eval o X.env)=eval o X.env:=by rfl)
  (QV:((backTo cpos (starEach (e::es) X.env)).all (λx=>!x.1)&&(backToKw cpos (keywordEach [] X.env)).all (λx=>x.1.isSome)
   && decide ((e::es).length+([]:List Keyword).length+(if ([]:List Keyword).isEmpty then 0 else 1)<30))=true:=by rfl)
  (LP:(apos.endLine==cpos.line)=true:=by rfl) (hs:starEach (e::es) X.env=(false,eval e X.env)::starEach es X.env:=by rfl) (LD:(backTo cpos (starEach es X.env)).any (·.1)=false:=by rfl) :
  PE X (.Call (.Attribute o name apos) (e::es) [] cpos) (tBM X.K T r to t):=by
 intro pins s U H Q I h
 refine wpAny_Call_method_late KZ QV LP rfl (thn (ho pins s U H _ I h) λv s1 zz42=>?_)
 obtain ⟨x,H1,I1,r1,ty,q1⟩:=zz42
 obtain ⟨h1,h2⟩:=rM I1 r1 ty
 refine ⟨T,id,pa,slot,O8,h1,h2,?_⟩
 have hA:=ha cpos pins s1 U H1 _ I1 q1
 rw [hs] at hA ⊢
 refine Calls.callWith_builtin (by show (false || (backTo cpos (starEach es X.env)).any (·.1))=false;rw [LD]<;>rfl) (Calls.evalArgs_plain ?_)
 exact thn hA λus s2 zz43=>by obtain ⟨vs,H2,I2,r2,q2⟩:=zz43;exact hm pins s2 U H2 x vs v us Q I2 r1 r2 q2
end
def MtM (X:Cx) (id:String) (r:V->List V->Hp->VK->Prop):Prop :=
 ∀ (pins:List (Addr×Obj)) (s:Shared) (U:St) (H:Hp) (x:V) (xs:List V) (v:Value) (us:List Value) (Q:VK),Inv X pins U H s->au x v->ag xs us->r x xs H Q ->
  wpAny (model X.prog X.w) X.A (call (.builtin id) (v::us)) (EP X pins U Q) X.xe s
theorem ag.one:∀ {x:V}{us:List Value},ag [x] us->∃ u,us=[u]/\au x u
 |_,_,.cons r .nil=>⟨_,rfl,r⟩
theorem ag.rep {xs:List V}{us:List Value}(h:ag xs us):∀ k:Nat,ag (List.replicate k xs).flatten (List.replicate k us).flatten
 |0=>.nil
 |k+1=>by
  rw [List.replicate_succ,List.replicate_succ,List.flatten_cons,List.flatten_cons]
  exact ag.append h (ag.rep h k)
theorem pA (its:List Value):∀ (k:Nat) (J9:List Value),
  List.foldl (λx1 x2=>x1++x2) J9.toArray (List.replicate k its.toArray)=(J9++(List.replicate k its).flatten).toArray
 |0,J9=>by simp
 |k+1,J9=>by
  have e:J9.toArray++its.toArray=(J9++its).toArray:=by simp
  have e2:(J9++its)++(List.replicate k its).flatten=J9++(List.replicate (k+1) its).flatten:=by
   rw [List.replicate_succ,List.flatten_cons,List.append_assoc]
  rw [<- e2,<- pA its k (J9++its),<- e,List.replicate_succ,List.foldl_cons]
section
variable {X:Cx}{pins:List (Addr×Obj)}{U:St}{H:Hp}{s:Shared}{l b:Addr}{xs ys zs:List V}
theorem Inv.lset {its its':List Value}{n:Nat}{f:Array Value->Array Value}{t':Nat}(I:Inv X pins U H s) (hH:H l=some (.lst xs))
  (e:s.heap.get? l=some { cls:=.type "list",data:=.seq its.toArray n }) (hf:f its.toArray=its'.toArray) (hv:ag ys its') (hz:ys.length<=sizeLine) :
  Inv X pins U (upd H l (.lst ys)) { s with heap:=s.heap.update l (Obj.mapSeq f),toks:=t' }:=by
 have q:=PySem.IsL.update e f
 rw [hf] at q
 refine I.write (x:=l) (e:=l) (by rw [hH];exact trivial) (.inl rfl) (λb' u hb hu=>(Heap.get?_update_other s.heap (Obj.mapSeq f) (Ne.symm hb)).trans hu) ⟨_,q⟩ ?_
 exact ⟨hz,its',_,hv,q⟩
theorem Inv.lnew {its:List Value}{t':Nat}(I:Inv X pins U H s) (hv:ag ys its) (hz:ys.length<=sizeLine) :
  Inv X pins U (upd H s.heap.objs.size (.lst ys)) { s with heap:=s.heap.push { cls:=.type "list",data:=.seq its.toArray },toks:=t' } :=
 I.laid (λ_ _ q=>Heap.get?_push_of_some _ q) (Nat.le_refl _) ⟨hz,its,0,hv,Heap.get?_push_size _ rfl⟩
theorem Inv.fresh (I:Inv X pins U H s):H s.heap.objs.size=none:=I.hok.fresh (Nat.le_refl _)
theorem Inv.lstM (I:Inv X pins U H s) (hH:H l=some (.lst xs)):xs.length<=sizeLine/\∃ (its:List Value) (n:Nat),ag xs its/\xs.length=its.length/\s.heap.get? l=some { cls:=.type "list",data:=.seq its.toArray n }:=by
 obtain ⟨z,its,n,r,e⟩:=I.hok l _ hH
 exact ⟨z,its,n,r,r.length,e⟩
theorem zw {n:Nat}(h:n<=sizeLine):Builtin.List.listTooLong n=false:=by
 unfold Builtin.List.listTooLong
 exact decide_eq_false (by omega)
end
section
variable {X:Cx}
def Bk:V->List V->Hp->VK->Prop:=λx vs H Q=>∃ l xs y,x=.ref l/\vs=[y]/\H l=some (.lst xs)/\xs.length<sizeLine/\Q .non (upd H l (.lst (xs++[y])))
theorem yh:MtM X "list.append" Bk:=by
 intro pins s U H x vs v us Q I rx rv h
 obtain ⟨l,xs,y,rfl,rfl,hH,hz,q⟩:=h
 cases rx
 obtain ⟨u,rfl,ru⟩:=rv.one
 obtain ⟨z,its,n,r,hl,e⟩:=I.lstM hH
 refine call_meets F.slot_list_append ⟨_,e,rfl⟩ F.entry_list_append (F.args_list_append_2 _ _) (PySem.list_append l its.toArray n u (by rw [List.size_toArray];omega)) ⟨e,?_⟩
 refine ⟨.non,_,I.lset (its':=its++[u]) hH e (by simp) (r.append (.cons ru .nil)) ?_,rfl,q⟩
 rw [List.length_append,List.length_singleton]
 omega
def Jl:R2:=λx y H Q=>∃ l b xs zs,x=.ref l/\y=.ref b/\H l=some (.lst xs)/\H b=some (.lst zs)/\xs.length+zs.length<=sizeLine/\∀ p,H p=none->Q (.ref p) (upd H p (.lst (xs++zs)))
theorem DR:OpR X (binaryOp .Add) Jl:=by
 intro pins s U H x y v u Q I rx ry h
 obtain ⟨l,b,xs,zs,rfl,rfl,hH,hB,hz,q⟩:=h
 cases rx
 cases ry
 obtain ⟨z,its,n,r,hl,e⟩:=I.lstM hH
 obtain ⟨z2,QU,n2,r2,hl2,e2⟩:=I.lstM hB
 refine PySem.P.add_list e e2 ?_ (by rw [List.size_toArray,List.size_toArray];omega)
 have ea:its.toArray++QU.toArray=(its++QU).toArray:=by simp
 rw [ea]
 exact ⟨.ref _,_,I.lnew (t':=s.toks) (r.append r2) (by rw [List.length_append];omega),rfl,q _ I.fresh⟩
def Jm:R2:=λx y H Q=>∃ l k xs,x=.ref l/\y=.int k/\H l=some (.lst xs) /\ -(2 ^ 63)<=k/\k<2 ^ 63/\xs.length * k.toNat<=sizeLine /\
 ∀ p,H p=none->Q (.ref p) (upd H p (.lst (List.replicate k.toNat xs).flatten))
theorem Bl {α:Type}(xs:List α) (k:Nat):(List.replicate k xs).flatten.length=k * xs.length:=by
 induction k with
 |zero=>simp
 |succ k ih=>rw [List.replicate_succ,List.flatten_cons,List.length_append,ih,Nat.succ_mul,Nat.add_comm]
theorem DS:OpR X (binaryOp .Mult) Jm:=by
 intro pins s U H x y v u Q I rx ry h
 obtain ⟨l,k,xs,rfl,rfl,hH,h1,h2,hz,q⟩:=h
 cases rx
 obtain ⟨t,rfl⟩:=ry
 obtain ⟨z,its,n,r,hl,e⟩:=I.lstM hH
 have KS:its.toArray.size * k.toNat<=sizeLine:=by rw [List.size_toArray,<- hl];exact hz
 have hcap:¬ its.toArray.size * k.toNat>(2 ^ 63 - 1) / 8:=by
  have:(sizeLine:Nat)<=(2 ^ 63 - 1) / 8:=by decide
  omega
 have hfit:¬ (!Builtin.List.listFitsIndex k)=true:=by
  rw [fitsIndex_both h1 h2]
  exact Bool.false_ne_true
 have hlong:¬ Builtin.List.listTooLong (its.toArray.size * k.toNat)=true:=by
  rw [zw KS]
  exact Bool.false_ne_true
 have hnew:List.foldl (λx1 x2=>x1++x2) #[] (List.replicate (if its.toArray.isEmpty=true then 0 else k.toNat) its.toArray)=(List.replicate k.toNat its).flatten.toArray:=by
  have f0:∀ m:Nat,List.foldl (λx1 x2=>x1++x2) #[] (List.replicate m its.toArray)=(List.replicate m its).flatten.toArray:=λm=>by
   have:=pA its m []
   rw [List.nil_append] at this
   exact this
  rw [f0]
  cases its with
  |nil=>simp
  |cons a r'=>rw [if_neg (by simp)]
 refine wpAny_binaryOp_repeat_ref (T:="list") (U:="int") (by decide) ⟨_,e,rfl⟩ (λs'=>typeIs_int s' k t) noFill_list_mul F.fills_int_mul F.slot_int_rmul repeat_list F.slot_int_index.lookup
  (call_meets F.slot_int_rmul (typeIs_int s k t) F.entry_int_rmul (F.args_int_rmul_2 _ _) (int___rmul___int_list k t l its.toArray n)
   ⟨e,rfl,⟨_,e,rfl⟩,call_meets F.slot_list_mul ⟨_,e,rfl⟩ F.entry_list_mul (F.args_list_mul_2 _ _) (AutoListH.list___mul___list_int_3 l its.toArray n k t hfit hcap hlong) ⟨e,?_⟩⟩)
 rw [hnew]
 exact ⟨.ref _,_,I.lnew (t':=s.toks) (r.rep k.toNat) (by rw [Bl,Nat.mul_comm];exact hz),rfl,q _ I.fresh⟩
end
section
variable {prog:Program}{w:World}{A:Around}{E:Value->Shared->Prop}{s:Shared}
end
section
variable {X:Cx}
end
end L2
namespace Att
open PySem PySem.W PySem.Calls PyProof.Rows
theorem vT {P:Params}{h:Heap}:∀ (ns:List Int) (vs:List Value),WellAll P h vs (ns.map WData.int)->IntsAre vs ns:=by
 intro ns
 induction ns with
 |nil =>
  intro vs w
  rw [List.map_nil] at w
  cases w
  exact .nil
 |cons n ns ih =>
  intro vs w
  rw [List.map_cons] at w
  cases w with
  |cons a b =>
   cases a
   exact .cons _ _ (ih _ b)
theorem yi {l:OpenLaw}{n:Nat}(hn:l.most=some n){P:Params}{h:Heap}{args:List WData}{vals:List Value}
  (P7:l.row.toRowW.claim.pre args=true) (hwl:WellAll P h vals args) :
  ∃ a vs ns,vals=[Value.ref a]/\args=[WData.list (ns.map WData.int)]/\h.get? a=some { cls:=.type "list",data:=.seq vs.toArray }/\IntsAre vs ns/\ns.length<=n:=by
 have hsh:WShape.hasAll [] args [.list .int]=true:=(pre_splitW P7).1
 have hc:l.pre.holds [] { args:=args }=true:=(pre_splitW P7).2
 obtain ⟨d,r,rfl,h1,h2⟩:=hasAllW_cons hsh
 obtain rfl:=hasAllW_nil h2
 obtain ⟨xs,rfl,h3⟩:=hasW_list h1
 obtain ⟨ns,rfl⟩:=items_int h3
 have KS:ns.length<=n:=by
  unfold OpenLaw.pre at hc
  have h4:(WTm.not (.lt (.lit (.int (n:Int))) (.len (.arg 0)))).holds [] { args:=[.list (ns.map .int)] }=true:=by
   have h4:=(holds_andW hc).1
   rw [hn] at h4
   exact h4
  have h5:=condW_of h4 (w_not (w_lt w_lit (w_len_list (w_arg rfl))))
  rw [List.length_map] at h5
  refine Nat.le_of_not_lt λq=>?_
  have q':(n:Int)<((ns.length:Nat):Int):=by omega
  first
   |(rw [decide_eq_true q'] at h5;exact absurd h5 (by decide))
   |(simp at h5;omega)
 cases hwl with
 |cons w1 w2 =>
  cases w2
  cases w1 with
  |list ho Pl=>exact ⟨_,_,ns,rfl,rfl,ho,vT ns _ Pl,KS⟩
theorem yj (l:OpenLaw) (args:List WData):l.row.toRowW.claim.post args (.bool true) args=true :=
 postW_of (r:=l.row.toRowW) (X:=(true==true))
  (show WShape.has [] (.bool true) .bool=true by first|rfl|decide|simp [WShape.has,WShape.arms,WShape.armsAll])
  (show (WTm.eq .res (.lit (.bool true))).value [] { args:=args,res:=some (.bool true),after:=args }=some (.bool (true==true)) from w_eq_bool (w_res rfl) w_lit) rfl
theorem attach_call {l:OpenLaw}{n:Nat}{q:Program}{loose:List Str}{XP:(Str->Option Value)->Heap->Prop}{YP:World->Heap->Prop}{d:DefRec}
  (hn:l.most=some n) (hdf:d.params.defaults=[])
  (call:∀ (w:World) (s₀ Kb:Shared) (mg mb:Str->Option Value) (fa:Addr) (o:Obj) (pm cd doc:Value) (a:Addr) (vs:List Value) (ns:List Int),
   Ground q loose [] XP w s₀ mg mb Kb.heap->YP w Kb.heap ->
   Kb.heap.get? fa=some o->o.data=.func (docDef d.name d.params d.body d.scope pm cd doc)->Kb.heap.CodeRec cd d.name->mg d.name=some (.ref fa) ->
   Kb.heap.get? a=some { cls:=.type "list",data:=.seq vs.toArray }->IntsAre vs ns->ns.length<=n->Kb.gens=#[] ->
   codeAny (model l.prog w) callerA (.call (.ref fa) ⟨[.ref a],[]⟩) (λr s'=>r=.ok (.ret (.bool true))/\OldK Kb.heap s'.heap/\s'.os=Kb.os/\AllBare s'.gens) Kb) :
  WalkO q loose XP YP l.row.toRowW d [] (λf vs=>PySem.call f vs):=by
 intro w s₀ Kb mg mb G Y fa o pm cd doc dV kV ho hd Oh hD hmg hg args vals as P7 hlay hrd hwl O9
 obtain rfl:dV=.none:=Dflts.none hD hdf
 obtain rfl:kV=.none:=Dflts.noKw hD
 obtain ⟨a,vs,ns,rfl,rfl,QX,hints,KS⟩:=yi hn P7 hwl
 refine enter_call (codeAny_mono (call w s₀ Kb mg mb fa o pm cd doc a vs ns G Y ho (fd_plain hd) Oh hmg QX hints KS hg) λr s' hq=>?_)
 obtain ⟨rfl,h2,h3,h4⟩:=hq
 exact ⟨.inl ⟨.bool true,.bool true,[],rfl,λ_=>rfl,.bool true,yj l _,λ_=>⟨List.Pairwise.nil,λ_ hm=>(nomatch hm)⟩⟩,h2,h3,h4⟩
section
variable {prog:Program}{w:World}{A:Around}{E:Value->Shared->Prop}{s:Shared}{K:Frag}
end
end Att
namespace L2
open PySem PySem.Spec PyProof.Rows
theorem pB:∀ {vs:List Value}{ns:List Int},IntsAre vs ns->ag (ns.map V.int) vs
 |_,_,.nil=>.nil
 |_,_,.cons n t h=>.cons ⟨t,rfl⟩ (pB h)
def jn (H:Hp):Prop:=∀ b,H b=none\/∃ o xs,H b=some (.frz o (.lst xs))
theorem zx {P:Program}{w:World}{K:PySem.W.Frag}{mg mb:Str->Option Value}{CX:CXT}{k:Nat}{fa a:Addr}{fd:FuncData}{x:Str}{sp:Sp}{Kb:Shared}{vs:List Value}{ns:List Int}
  (KX:K.In Kb.heap) (OB:Kb.heap.Ns mainGlobals mg) (hb:Kb.heap.Ns builtinsNs mb) (hbb:∀ x:Str,x ≠ "__name__"->mb x=bootBuiltins x) (hlim:Kb.heap.NoLimit) (hg:Kb.gens=#[])
  (ha:Kb.heap.get? a=some { cls:=.type "list",data:=.seq vs.toArray }) (hi:IntsAre vs ns) (hl:ns.length<=sizeLine) (hr:Room k callerA)
  (F:∀ base:Heap,K.In base->base.Ns mainGlobals mg->FnOk P w K mg base CX k fa fd [x] sp) (hbind:∀ (s:Shared) (u:Value),BindsTo s fd ⟨[u],[]⟩ [(x,u)])
  (OU:∀ H:Hp,jn H->SqL K H a (ns.map V.int)->sp [.ref a] H (λv _=>v=.bl true) λ_ _ _=>False)
  (hCX:∀ H e s',CX [] H Kb (λ_ _ _=>False) e s'->False) :
  codeAny (model P w) callerA (.call (.ref fa) ⟨[.ref a],[]⟩) (λr s'=>r=.ok (.ret (.bool true))/\OldK Kb.heap s'.heap/\s'.os=Kb.os/\AllBare s'.gens) Kb:=by
 have rv:=pB hi
 have lenV:=hi.length
 -- from an abstract heap in which nothing but the script may be tracked
 have core:∀ H:Hp,jn H->SqL K H a (ns.map V.int)->HOk P w H Kb.heap->(∀ b,H b≠none->b=a)->(H a≠none->K.lookup a=none) ->
   codeAny (model P w) callerA (.call (.ref fa) ⟨[.ref a],[]⟩) (λr s'=>r=.ok (.ret (.bool true))/\OldK Kb.heap s'.heap/\s'.os=Kb.os/\AllBare s'.gens) Kb:=by
  intro H hO hS hok hA hK
  have base_of:∀ {b:Addr}{o:Obj},Kb.heap.get? b=some o->H b=none->(dj Kb.heap H).get? b=some o:=λe n=>zb e n
  have noA:∀ {b:Addr}{o:Obj}{es:Array DictEntry}{ep:Nat},Kb.heap.get? b=some o->o.data=.dict es ep->H b=none:=fun {b o es ep} e d=>by
   cases q:H b with
   |none=>rfl
   |some u =>
    have e':b=a:=hA b (by rw [q];simp)
    subst e'
    rw [ha] at e;cases e
    have d':Data.seq vs.toArray _=Data.dict es ep:=d
    cases d'
  have nsK:∀ {b:Addr}{m:Str->Option Value},Kb.heap.Ns b m->(dj Kb.heap H).Ns b m:=fun {b m} ⟨o,es,ep,e,d,r⟩=>⟨o,es,ep,base_of e (noA e d),d,r⟩
  have hKb:K.In (dj Kb.heap H):=λb o e=>base_of (KX b o e) (by
   cases q:H b with
   |none=>rfl
   |some u =>
    have e':b=a:=hA b (by rw [q];simp)
    subst e'
    rw [hK (by rw [q];simp)] at e;cases e)
  have hM:Mod K mg (dj Kb.heap H):=⟨hKb,nsK OB,⟨mb,nsK hb,hbb⟩,let ⟨mc,h1,h2⟩:=hlim;⟨mc,nsK h1,h2⟩⟩
  have e0:Env0 P w K mg (dj Kb.heap H) callerA [] Kb H:=⟨rfl,hM,λb o e=>AT e,Nat.le_of_eq (x5 _ _),trivial,λb hb=>absurd (show b∈([]:List Addr) from hb) (by simp),hok,.of_eq hg⟩
  refine codeAny_mono ((F _ hKb (nsK OB)).run callerA [] Kb H ⟨[.ref a],[]⟩ [.ref a] [.ref a] _ _ hr e0 (hbind Kb (.ref a)) (.cons rfl .nil) (OU H hO hS)) λr s' h=>?_
  cases r with
  |error e=>exact (hCX H e s' h).elim
  |ok fl =>
   cases fl with
   |next=>exact False.elim h
   |brk=>exact False.elim h
   |cont=>exact False.elim h
   |ret u =>
    obtain ⟨v,H',os,bare,un,hok',r',q⟩:=h
    have q':v=.bl true:=q
    subst q'
    obtain rfl:u=Value.bool true:=r'
    refine ⟨rfl,OldK.of_keep λb o e=>?_,os,bare⟩
    cases q:H b with
    |none=>exact un.keep b o e q (by intro z;exact absurd (show b∈([]:List Addr) from z) (by simp)) (by simp)
    |some u =>
     rcases hO b with z|⟨ob,xs,z⟩
     ·rw [q] at z;cases z
     ·have z2:=un.frzs b ob _ z
      obtain ⟨e1,_⟩:=hok b _ z
      obtain ⟨e2,_⟩:=hok' b _ z2
      rw [e] at e1;cases e1
      exact e2
 cases hk:K.lookup a with
 |some o =>
  -- the script is one of the module's own objects
  have e:=KX a o hk
  rw [ha] at e
  cases e
  refine core (λ_=>none) (λ_=>.inl rfl) (.inr ⟨_,vs.toArray,_,hk,rfl,rfl,rfl,by rw [List.size_toArray,lenV];exact hl,by simpa using rv⟩) (λb u z=>by have z':(none:Option HO)=some u:=z;cases z') (λb z=>absurd rfl z) λz=>absurd rfl z
 |none =>
  refine core (λb=>if b=a then some (.frz { cls:=.type "list",data:=.seq vs.toArray } (.lst (ns.map V.int))) else none) (λb=>?_) (.inl (.inr ⟨{ cls:=.type "list",data:=.seq vs.toArray },if_pos rfl⟩)) (λb u z=>?_) (λb z=>?_) λ_=>hk
  ·by_cases hb:b=a
   ·exact .inr ⟨_,_,if_pos hb⟩
   ·exact .inl (if_neg hb)
  ·by_cases hb:b=a
   ·have z':=(if_pos hb).symm.trans z
    cases z'
    subst hb
    exact ⟨ha,by rw [List.length_map];exact hl,vs,_,rv,ha⟩
   ·have z':=(if_neg hb).symm.trans z
    cases z'
  ·by_cases hb:b=a
   ·exact hb
   ·exact absurd (if_neg hb) z
theorem Bm {l:PySem.W.OpenLaw}{n k:Nat}{q:Program}{loose:List Str}{XP:(Str->Option Value)->Heap->Prop}{YP:World->Heap->Prop}{d:DefRec}{K:Params->PySem.W.Frag}{CX:World->CXT}{sp:World->Sp}{x:Str}
  (hn:l.most=some n) (QQ:n<=sizeLine) (hdf:d.params.defaults=[]) (hr:Room k callerA)
  (hY:∀ (w:World) (h:Heap),YP w h->(K w.params).In h)
  (F:∀ (w:World) (mg:Str->Option Value) (fa:Addr) (h:Heap),(K w.params).In h->h.Ns mainGlobals mg->mg d.name=some (.ref fa) ->
   ∃ fd:FuncData,(∀ (s:Shared) (u:Value),BindsTo s fd ⟨[u],[]⟩ [(x,u)]) /\
    ∀ base:Heap,(K w.params).In base->base.Ns mainGlobals mg->FnOk l.prog w (K w.params) mg base (CX w) k fa fd [x] (sp w))
  (OU:∀ (w:World) (H:Hp) (a:Addr) (ns:List Int),ns.length<=n->jn H->SqL (K w.params) H a (ns.map V.int)->sp w [.ref a] H (λv _=>v=.bl true) λ_ _ _=>False)
  (hCX:∀ (w:World) (H:Hp) (s:Shared) (e:Value) (s':Shared),CX w [] H s (λ_ _ _=>False) e s'->False) :
  PySem.W.WalkO q loose XP YP l.row.toRowW d [] (λf vs=>PySem.call f vs):=by
 refine Att.attach_call hn hdf λw s₀ Kb mg mb fa o pm cd doc a vs ns G Y ho hd Oh hmg QX hints KS hg=>?_
 have KX:=hY w _ Y
 obtain ⟨fd,hb,hF⟩:=F w mg fa _ KX G.T.g hmg
 exact zx KX G.T.g G.T.b G.T.builtins G.T.nolimit hg QX hints (Nat.le_trans KS QQ) hr hF hb (λH hO hS=>OU w H a ns KS hO hS) λH e s'=>hCX w H Kb e s'
abbrev CX0:CXT:=λ_ _ _ _ _ _=>False
abbrev E0:XK:=λ_ _ _=>False
theorem fh {X:Cx}:c7 CX0 X E0:=λ_ _ _ _ _ _ _ h=>h.elim
structure Fun (K:PySem.W.Frag) (x qual:Str) (st:Stmt) (f:Addr) (fd:FuncData):Prop where
 ex:∃ (oc:Value) (od:Option Addr) (kV doc pm:Value) (an:Option Addr) (cdv ct:Value) (osl:Array (Option Value)),
  fd=PySem.W.fnOf x qual (cx st) (bO st) (aj st) .none kV doc pm an cdv ct/\K.lookup f=some ⟨oc,od,.func fd,osl⟩/\PySem.W.codeIn K cdv qual=true
 kp:PySem.W.keepIn K (.ref f)=true
section
variable {P:Program}{w:World}{K:PySem.W.Frag}{mg:Str->Option Value}{base:Heap}
theorem Fun.ok {x qual:Str}{st:Stmt}{f:Addr}{fd:FuncData}{N ps:List Str}{k:Nat}{sp:Sp}(F:Fun K x qual st f fd) (S:FnScope N ps (aj st)) (len:∀ vs H Q E,sp vs H Q E->vs.length=ps.length)
  (Lg:∀ (cdv:Value) (A:Around) (outer:List Env) (s:Shared) (H:Hp) (vs:List V) (Q:VK) (E:XK),Room k (A.deeper (envOfC qual (aj st) s.heap.objs.size f cdv))->sp vs H Q E ->
   ∃ t,PSs (cK CX0 P w K mg base N qual (aj st) f cdv A outer s H E).nox (bO st) t/\t { nx:=λ_ H'=>Q .non H',rt:=Q } (b7 N vs) H):FnOk P w K mg base CX0 (k+1) f fd ps sp:=by
 obtain ⟨oc,od,kV,doc,pm,an,cdv,ct,osl,rfl,lk,Oh⟩:=F.ex
 refine ny lk Oh S len λA outer s H vs Q E hr OU=>?_
 obtain ⟨t,h,q⟩:=Lg cdv A outer s H vs Q E hr OU
 exact ⟨t,h.nox,q⟩
theorem Fun.binds {x qual:Str}{st:Stmt}{f:Addr}{fd:FuncData}{ps:List Str}(F:Fun K x qual st f fd)
  (h:∀ (kV doc pm:Value) (an:Option Addr) (cdv ct:Value) (us:List Value),us.length=ps.length->bindArgs (PySem.W.fnOf x qual (cx st) (bO st) (aj st) .none kV doc pm an cdv ct) ⟨us,[]⟩=pure (ps.zip us)):ap K fd ps []:=by
 obtain ⟨oc,od,kV,doc,pm,an,cdv,ct,osl,rfl,lk,Oh⟩:=F.ex
 exact .all (h kV doc pm an cdv ct)
theorem rN {x qual:Str}{st:Stmt}{f:Addr}{oc:Value}{od an:Option Addr}{osl:Array (Option Value)}{kV doc pm cdv ct:Value}(l:K.lookup f=some ⟨oc,od,.func (PySem.W.fnOf x qual (cx st) (bO st) (aj st) .none kV doc pm an cdv ct),osl⟩)
  (c:PySem.W.codeIn K cdv qual=true) (k:PySem.W.keepIn K (.ref f)=true):Fun K x qual st f (PySem.W.fnOf x qual (cx st) (bO st) (aj st) .none kV doc pm an cdv ct):=⟨⟨oc,od,kV,doc,pm,an,cdv,ct,osl,rfl,l,c⟩,k⟩
end
theorem nz {A:Around}{k:Nat}(hr:Room k A):A.units+1<cLine:=Nat.lt_of_le_of_lt (Nat.add_le_add_left (by decide:1<=64) _) hr.units
section
variable {X:Cx}
end
def J1 (H H':Hp):Prop:=∀ b o,H b=some o->H' b=some o
def DT:Expr->Bool
 |.Starred ..=>true
 |_=>false
theorem Bn {e:Expr}{es:List Expr}{env:Env}(h:DT e=false):starEach (e::es) env=(false,eval e env)::starEach es env:=by
 cases e<;>first|rfl|cases h
section
variable {X:Cx}
theorem zy:OpR X (binaryOp .FloorDiv) (rI (λ_ j=>0<j/\j<18446744073709551616) λi j=>.int (i / j)):=opI λi j _ _ _ _ _ hc q=>by
 have h1:(0:Int)<j:=hc.1
 have h2:j<18446744073709551616:=hc.2
 refine floordiv_int (by omega) (by rw [Int.fdiv_eq_ediv_of_nonneg i (by omega)];exact q) (.inl (PyProof.noPylong_of_log2 ?_))
 have h0:j.natAbs≠0:=by omega
 have h3:j.natAbs<2 ^ 64:=by
  have e:(2:Nat) ^ 64=18446744073709551616:=by decide
  omega
 have h4:j.natAbs.log2<64:=(Nat.log2_lt h0).mpr h3
 omega
def Bo (K:PySem.W.Frag):List V->Hp->VK->Prop:=λxs H Q=>∃ x c t b,xs=[x,c]/\(∃ u,au c u/\(∀ z,au c z->z=u)/\PySem.W.kitOne K t u=some b)/\TyOf K H x t/\Q (.bl b) H
theorem w6:bu X (.builtin "isinstance") (Bo X.K):=by
 intro pins s U H xs us Q I r h
 obtain ⟨x,c,t,b,rfl,⟨u,rc,hu,e⟩,ty,q⟩:=h
 obtain ⟨u1,u2,rfl,r1,r2⟩:=i5 r
 obtain rfl:=hu _ r2
 exact ye I r1 ty e λtk=>⟨.bl b,H,I.tok tk,rfl,q⟩
end
def Kp (p:Addr) (H H':Hp):Prop:=∀ b o,H b=some o->b≠p->H' b=some o
def nA (H:Hp) (p:Addr):Prop:=∃ a b c d:Int,H p=some (.lst [.int a,.int b,.int c,.int d])
structure Df (K:PySem.W.Frag) (mg:Str->Option Value) (x:Str) (f:Addr) (fd:FuncData) (ps:List Str):Prop where
 hm:mg x=some (.ref f)
 kp:PySem.W.keepIn K (.ref f)=true
 b:ap K fd ps []
def Oth (p:Addr) (H H':Hp):Prop:=∀ b,b≠p->H' b=H b
def eV:Sp:=λvs H Q _=>∃ (p:Addr) (m:Int),vs=[.ref p,.int m]/\0<m/\m<18446744073709551616/\nA H p /\
 ∀ (r:Int) (H':Hp),0<=r->r<m->nA H' p->Oth p H H'->Q (.int r) H'
def i7:Sp:=λvs H Q _=>∃ c:Int,vs=[.int c]/\∀ p H',H p=none->nA H' p->Oth p H H'->Q (.ref p) H'
def iL (K:PySem.W.Frag):Sp:=λvs H Q _=>∃ (a:Addr) (k:Int) (ns:List Int),vs=[.ref a,.int k]/\SqL K H a (ns.map V.int)/\0<=k/\∀ z:Int,Q (.int z) H
def gj:Sp:=λvs H Q _=>∃ (t:Addr) (c e f:Int),vs=[.ref t,.int f]/\H t=some (.tup [.int c,.int e])/\e<=f/\Q (.int (c / 2 ^ (f - e).toNat)) H
section
variable {prog:Program}{w:World}{A:Around}{R:Result->Shared->Prop}{s:Shared}
theorem w9 {LY J8 iter:Expr}{Lu:List Expr}{scope:Scope}{pos:Pos}{it J9:Value}{env:Env}(I:Nat->Shared->Prop)
  (turn:∀ n s,I n s->wpAny (model prog w) A (pyNext it) (λr Kb=>match r with
   |none=>R (.ok .next) Kb
   |some v=>wpAny (model prog w) A (letOwnedTupleGo J8 it v) (λ_ Qy=>wpAny (model prog w) A (assign J8 env v) (λ_ Pe =>
     wpAny (model prog w) A (forIn Lu true λc r=>if r=true then do let ok <- isTrue c env (eval c env);pure (ForInStep.yield ok) else pure (ForInStep.yield r)) (λok Pn =>
      if ok=true then wpAny (model prog w) A (eval LY env) (λx P8 =>
       wpAny (model prog w) A (call (.builtin "list.append") [J9,x]) (λ_ s₅=>∃ m,m<n/\I m s₅) (λ_ _=>False) P8) (λ_ _=>False) Pn
      else ∃ m,m<n/\I m Pn) (λ_ _=>False) Pe) (λ_ _=>False) Qy) (λ_ _=>False) Kb) (λ_ _=>False) s)
  (n:Nat) (h:I n s) :
  codeAny (model prog w) A (.compLoop (.ListComp LY [⟨J8,iter,Lu,0⟩] scope pos) 0 it J9 env) R s:=by
 refine codeAny_loop rfl I (λn s hI=>?_) n h
 show wpAny _ A ((compTurn (.ListComp LY [⟨J8,iter,Lu,0⟩] scope pos) 0 it J9 env).onRaise (λx=>do noteFrame x env;theTreesLotGoes x)) _ _ s
 refine wpAny_noted ?_
 rw [compTurn_list]
 refine wpAny_bind (wpAny_standAt (wpAny_bind (wpAny_mono (turn n s hI) (λr Kb h₁=>?_) λ_ _ h'=>h'.elim)))
 cases r with
 |none=>exact wpAny_pure h₁
 |some v =>
  refine wpAny_bind (wpAny_mono h₁ (λ_ Qy h₁'=>?_) λ_ _ h'=>h'.elim)
  refine wpAny_bind (wpAny_mono h₁' (λ_ Pe h₂=>wpAny_bind (wpAny_mono h₂ (λok Pn h₃=>?_) λ_ _ h'=>h'.elim)) λ_ _ h'=>h'.elim)
  cases ok with
  |false=>exact wpAny_pure ⟨rfl,h₃⟩
  |true =>
   exact wpAny_bind (wpAny_bind (wpAny_mono h₃ (λx P8 h₄=>wpAny_bind (wpAny_mono h₄ (λ_ s₅ h₅=>wpAny_pure (wpAny_pure ⟨rfl,h₅⟩)) λ_ _ h'=>h'.elim)) λ_ _ h'=>h'.elim))
end
noncomputable def dL (cells:List (Str×Addr)):List (Str×NameKind)->List (Str×Addr)->List (Str×Addr)
 |[],cs=>cs
 |(n,k)::r,cs=>dL cells r (if k==.free then (match cells.lookup n with|some a=>(n,a)::cs|none=>cs) else cs)
def cM (scope:Scope) (env:Env):List (Str×Addr):=dL env.cells scope.names []
theorem qB (env:Env):∀ (ns:List (Str×NameKind)) (cs:List (Str×Addr)),(∀ y∈ns,y.2=.free->∃ a,env.cells.lookup y.1=some a) ->
  (forIn ns cs λ(x:Str×NameKind) (r:List (Str×Addr))=>(if (x.2==NameKind.free)=true then (do let a <- cellOf env x.1;pure (ForInStep.yield ((x.1,a)::r))) else pure (ForInStep.yield r):Sem (ForInStep (List (Str×Addr)))))=(pure (dL env.cells ns cs):Sem (List (Str×Addr)))
 |[],cs,_=>rfl
 |(n,k)::r,cs,h=>by
  rw [List.forIn_cons]
  have ih:=λcs'=>qB env r cs' λy hy=>h y (List.mem_cons_of_mem _ hy)
  by_cases hk:(k==NameKind.free)=true
  ·obtain ⟨a,ha⟩:=h (n,k) List.mem_cons_self (by simpa using hk)
   have ha':env.cells.lookup n=some a:=ha
   have e:cellOf env n=pure a:=by unfold cellOf;rw [ha']
   simp only [hk,if_true,e,pure_bind]
   rw [ih]
   show _=pure (dL env.cells r (if k==.free then (match env.cells.lookup n with|some a=>(n,a)::cs|none=>cs) else cs))
   rw [hk,ha']
   rfl
  ·have hk':(k==NameKind.free)=false:=by simpa using hk
   simp only [hk',Bool.false_eq_true,if_false,pure_bind]
   rw [ih]
   show _=pure (dL env.cells r (if k==.free then (match env.cells.lookup n with|some a=>(n,a)::cs|none=>cs) else cs))
   rw [hk']
   rfl
theorem Bp {scope:Scope}{env:Env}(h:∀ y∈scope.names,y.2=.free->∃ a,env.cells.lookup y.1=some a):closureFor scope env=pure (cM scope env):=by
 have e:=qB env scope.names [] h
 unfold closureFor cM
 show (forIn scope.names ([]:List (Str×Addr)) _ >>= λcs=>pure cs)=_
 rw [bind_pure]
 exact e
theorem pZ (cells:List (Str×Addr)){x:Str}{c:Addr}:∀ (ns:List (Str×NameKind)) (cs:List (Str×Addr)),(∀ c,cs.lookup x=some c->cells.lookup x=some c)->(dL cells ns cs).lookup x=some c->cells.lookup x=some c
 |[],cs,h,e=>h c e
 |(n,k)::r,cs,h,e=>by
  refine pZ cells r _ (λc' e'=>?_) e
  by_cases hk:(k==NameKind.free)=true
  ·rw [if_pos hk] at e'
   cases ha:cells.lookup n with
   |none=>rw [ha] at e';exact h c' e'
   |some a =>
    rw [ha] at e'
    by_cases hx:x==n
    ·have hx':x=n:=by simpa using hx
     subst hx'
     simp only [List.lookup_cons,beq_self_eq_true] at e'
     rw [<- e'];exact ha
    ·have hx':(x==n)=false:=by simpa using hx
     simp only [List.lookup_cons,hx'] at e'
     exact h c' e'
  ·rw [if_neg hk] at e'
   exact h c' e'
theorem fS (cells:List (Str×Addr)){x:Str}{a:Addr}(ha:cells.lookup x=some a):∀ (ns:List (Str×NameKind)) (cs:List (Str×Addr)),(cs.lookup x=some a\/ns.lookup x=some .free)->(∀ c,cs.lookup x=some c->c=a)->(dL cells ns cs).lookup x=some a
 |[],cs,h,_=>by
  rcases h with h|h
  ·exact h
  ·simp at h
 |(n,k)::r,cs,h,hu=>by
  have step:(if k==.free then (match cells.lookup n with|some a=>(n,a)::cs|none=>cs) else cs)=cs\/∃ b,k=.free/\cells.lookup n=some b/\(if k==.free then (match cells.lookup n with|some a=>(n,a)::cs|none=>cs) else cs)=(n,b)::cs:=by
   by_cases hk:(k==NameKind.free)=true
   ·rw [if_pos hk]
    cases hb:cells.lookup n with
    |none=>exact .inl rfl
    |some b=>exact .inr ⟨b,by simpa using hk,rfl,rfl⟩
   ·exact .inl (by rw [if_neg hk])
  show (dL cells r _).lookup x=some a
  by_cases hx:x=n
  ·subst hx
   rcases step with e|⟨b,hk,hb,e⟩
   ·rw [e]
    refine fS cells ha r cs ?_ hu
    rcases h with h|h
    ·exact .inl h
    ·simp only [List.lookup_cons,beq_self_eq_true] at h
     injection h with h
     subst h
     rw [if_pos (by decide),ha] at e
     have:(x,a)::cs=cs:=e
     exact absurd (congrArg List.length this) (by simp)
   ·rw [e]
    rw [ha] at hb
    injection hb with hb
    subst hb
    refine fS cells ha r _ (.inl (by simp)) λc hc=>?_
    simp at hc
    exact hc.symm
  ·have hxb:(x==n)=false:=by simpa using hx
   rcases step with e|⟨b,hk,hb,e⟩
   ·rw [e]
    refine fS cells ha r cs ?_ hu
    rcases h with h|h
    ·exact .inl h
    ·simp only [List.lookup_cons,hxb] at h
     exact .inr h
   ·rw [e]
    refine fS cells ha r _ ?_ λc hc=>?_
    ·rcases h with h|h
     ·exact .inl (by simp only [List.lookup_cons,hxb];exact h)
     ·simp only [List.lookup_cons,hxb] at h
      exact .inr h
    ·simp only [List.lookup_cons,hxb] at hc
     exact hu c hc
noncomputable def dC (sc scope:Scope):Bool:=(scope.kind==.function)&&scope.names.all λy=>(y.2 != .cell)&&((y.2 != .local) || (scope.names.lookup y.1==some .local)) &&
 ((y.2 != .free) || ((scope.names.lookup y.1==some .free)&&((sc.names.lookup y.1==some .cell) || (sc.names.lookup y.1==some .free))))
noncomputable def dY (N Nc:List Str) (scope:Scope) (n:Nat) (Kc:List Nat):Bool:=(n+Kc.length==Nc.length)&&(List.range Kc.length).all λj=>(Nc[n+j]?==(Kc[j]?).bind λi=>N[i]?)&&((Nc[n+j]?).bind (λy=>scope.names.lookup y)==some NameKind.free)
noncomputable def eW (n:Nat) (Kc:List Nat) (U:St):St:=List.replicate n none++Kc.map λi=>(U[i]?).join
def Cx.comp (X:Cx) (scope:Scope) (Nc:List Str) (C:Addr) (s₀:Shared) (H₀:Hp) (ex:List Addr):Cx :=
 { X with N:=Nc,s₀:=s₀,H₀:=H₀,env:=compEnvC scope (cM scope X.env) C X.env,outer:=X.stack,ex:=ex,fn:=λ_=>false,pn:=[],xe:=λ_ _=>False }
theorem oM {env:Env}:∀ {names:List (Str×NameKind)}{x:Str},names.lookup x=some .free ->
  (names.map λ(n,k)=>if (k==NameKind.free&&env.scope.kind==.function&&env.kindOf n==some .cell) then (n,NameKind.cell) else (n,k)).lookup x=some .cell \/
  (names.map λ(n,k)=>if (k==NameKind.free&&env.scope.kind==.function&&env.kindOf n==some .cell) then (n,NameKind.cell) else (n,k)).lookup x=some .free
 |[],_,h=>by simp at h
 |(n,k)::r,x,h=>by
  have ih:=@oM env r x
  show List.lookup x ((if (k==NameKind.free&&env.scope.kind==.function&&env.kindOf n==some .cell)=true then (n,NameKind.cell) else (n,k))::_)=_\/List.lookup x ((if (k==NameKind.free&&env.scope.kind==.function&&env.kindOf n==some .cell)=true then (n,NameKind.cell) else (n,k))::_)=_
  cases hx:x==n with
  |true =>
   simp only [List.lookup_cons,hx] at h
   cases h
   by_cases hc:(NameKind.free==NameKind.free&&env.scope.kind==.function&&env.kindOf n==some .cell)=true
   ·rw [if_pos hc];simp [List.lookup_cons,hx]
   ·rw [if_neg hc];simp [List.lookup_cons,hx]
  |false =>
   simp only [List.lookup_cons,hx] at h
   by_cases hc:(k==NameKind.free&&env.scope.kind==.function&&env.kindOf n==some .cell)=true
   ·rw [if_pos hc];simp only [List.lookup_cons,hx];exact ih h
   ·rw [if_neg hc];simp only [List.lookup_cons,hx];exact ih h
theorem oN {env:Env}:∀ {names:List (Str×NameKind)}{x:Str},(∀ y∈names,y.2≠.cell) ->
  ((names.map λ(n,k)=>if (k==NameKind.free&&env.scope.kind==.function&&env.kindOf n==some .cell) then (n,NameKind.cell) else (n,k)).lookup x=some .cell \/
  (names.map λ(n,k)=>if (k==NameKind.free&&env.scope.kind==.function&&env.kindOf n==some .cell) then (n,NameKind.cell) else (n,k)).lookup x=some .free)->names.lookup x=some .free
 |[],_,_,h=>by simp at h
 |(n,k)::r,x,hc,h=>by
  have ih:=@oN env r x λy hy=>hc y (List.mem_cons_of_mem _ hy)
  have hk:k≠.cell:=hc (n,k) List.mem_cons_self
  have h':List.lookup x ((if (k==NameKind.free&&env.scope.kind==.function&&env.kindOf n==some .cell)=true then (n,NameKind.cell) else (n,k))::_)=some NameKind.cell\/List.lookup x ((if (k==NameKind.free&&env.scope.kind==.function&&env.kindOf n==some .cell)=true then (n,NameKind.cell) else (n,k))::_)=some NameKind.free:=h
  cases hx:x==n with
  |true =>
   simp only [List.lookup_cons,hx]
   by_cases hq:(k==NameKind.free&&env.scope.kind==.function&&env.kindOf n==some .cell)=true
   ·have:k=.free:=by
     simp only [Bool.and_eq_true] at hq
     simpa using hq.1.1
    rw [this]
   ·rw [if_neg hq] at h'
    simp only [List.lookup_cons,hx] at h'
    rcases h' with h'|h'
    ·injection h' with h';exact absurd h' hk
    ·exact h'
  |false =>
   simp only [List.lookup_cons,hx]
   by_cases hq:(k==NameKind.free&&env.scope.kind==.function&&env.kindOf n==some .cell)=true
   ·rw [if_pos hq] at h'
    simp only [List.lookup_cons,hx] at h'
    exact ih h'
   ·rw [if_neg hq] at h'
    simp only [List.lookup_cons,hx] at h'
    exact ih h'
structure CompSc (X:Cx) (scope:Scope):Prop where
 kind:scope.kind=.function
 nocell:∀ y∈scope.names,y.2≠.cell
 loc:∀ y∈scope.names,y.2=.local->scope.names.lookup y.1=some .local
 fr:∀ x,scope.names.lookup x=some .free->X.env.kindOf x=some .cell\/X.env.kindOf x=some .free
 fr2:∀ y∈scope.names,y.2=.free->X.env.kindOf y.1=some .cell\/X.env.kindOf y.1=some .free
theorem mem_of_lookup {α β:Type}[BEq α] [LawfulBEq α]:∀ {l:List (α×β)}{x:α}{b:β},l.lookup x=some b->(x,b)∈l
 |[],_,_,h=>by simp at h
 |(n,k)::r,x,b,h=>by
  cases hx:x==n with
  |true =>
   simp only [List.lookup_cons,hx] at h
   injection h with h
   have:x=n:=by simpa using hx
   subst this;subst h
   exact List.mem_cons_self
  |false =>
   simp only [List.lookup_cons,hx] at h
   exact List.mem_cons_of_mem _ (mem_of_lookup h)
theorem kY {X:Cx}{scope:Scope}(h:dC X.env.scope scope=true):CompSc X scope:=by
 unfold dC at h
 rw [Bool.and_eq_true] at h
 obtain ⟨h1,h2⟩:=h
 rw [List.all_eq_true] at h2
 have h3:∀ y∈scope.names,y.2=.free->X.env.kindOf y.1=some .cell\/X.env.kindOf y.1=some .free:=λy hy e=>by
  have q:=h2 y hy
  simp only [Bool.and_eq_true,e,bne_self_eq_false,Bool.false_or,Bool.or_eq_true,beq_iff_eq] at q
  exact q.2.2
 refine ⟨by simpa using h1,λy hy e=>?_,λy hy e=>?_,λx e=>h3 _ (mem_of_lookup e) rfl,h3⟩
 ·have q:=h2 y hy
  simp [e] at q
 ·have q:=h2 y hy
  simp only [Bool.and_eq_true,e,bne_self_eq_false,Bool.false_or,beq_iff_eq] at q
  exact q.1.2
section
variable {X:Cx}{pins:List (Addr×Obj)}{U:St}{H:Hp}{s:Shared}{scope:Scope}{Nc:List Str}{fp:List Addr}{C:Addr}
theorem eX {env:Env}{x:Str}{c:Addr}(h:(cM scope env).lookup x=some c):env.cells.lookup x=some c :=
 pZ env.cells scope.names [] (λc e=>by simp at e) h
theorem qC {env:Env}{x:Str}{c:Addr}(h:env.cells.lookup x=some c) (hf:scope.names.lookup x=some .free):(cM scope env).lookup x=some c :=
 fS env.cells h scope.names [] (.inr hf) (λc e=>by simp at e)
theorem CompSc.clos (S:CompSc X scope) (ok:X.Ok):closureFor scope X.env=pure (cM scope X.env) :=
 Bp λy hy e=>ok.has y.1 (S.fr2 y hy e)
theorem Bq (I:Inv X pins U H s) (S:CompSc X scope) (hf:∀ b∈fp,bK X pins H b) (hC:s.heap.objs.size<=C) (hCf:C∉fp):(X.comp scope Nc C s H fp).Ok where
 mod:=I.ok.mod
 kind:=S.kind
 glob:=I.ok.glob
 blt:=I.ok.blt
 above:=hC
 inj:=λx y c h1 h2=>I.ok.inj x y c (eX h1) (eX h2)
 has:=λx h=>by
  have e:scope.names.lookup x=some .free:=oN S.nocell h
  obtain ⟨c,hc⟩:=I.ok.has x (S.fr x e)
  exact ⟨c,qC hc e⟩
 cab:=λx c h=>by cases h
 hd:=I.ok.hd
 frames:=I.ok.frames
 stk:=.inl rfl
 exf:=λb hb=>⟨λe=>hCf ((show b=C from e) ▸ (show b∈fp from hb)),λx c h=>(hf b hb).2.2.2.2.1 x c (eX h)⟩
 bs:=I.bs
 bsz:=Nat.le_trans I.ok.bsz I.sz
 noex:=λb o e hb=>by
  rcases (hf b hb).2.2.2.1 with z|z
  ·exact I.ok.noex b o e z
  ·exact absurd (Nat.lt_of_lt_of_le (Heap.lt_size e) (Nat.le_trans I.ok.bsz z)) (Nat.lt_irrefl _)
 exfs:=λb hb hs=>by
  rcases List.mem_cons.mp (I.stkSub b hs) with z|z
  ·exact (hf b hb).2.1 z
  ·exact (hf b hb).2.2.1 z
 funs:=I.stack
 frf:=I.stkFree
theorem xB {n:Nat}{Kc:List Nat}{h₁:Heap}{tk:Nat}(I:Inv X pins U H s) (S:CompSc X scope) (OZ:dY X.N Nc scope n Kc=true) (hf:∀ b∈fp,bK X pins H b) (P9:∀ b∈fp,b<s.heap.objs.size)
  (OB:h₁.Ns (s.heap.objs.size+1) λ_=>none) (old:∀ b o,s.heap.get? b=some o->h₁.get? b=some o) (hD:h₁.get? s.heap.objs.size=some { cls:=.type "list",data:=.seq #[] 0 }) :
  Inv (X.comp scope Nc (s.heap.objs.size+1) s H fp) [] (eW n Kc U) (upd H s.heap.objs.size (.lst [])) { s with heap:=h₁,toks:=tk }:=by
 have hCf:s.heap.objs.size+1∉fp:=λz=>Nat.not_succ_lt_self (P9 _ z)
 unfold dY at OZ
 rw [Bool.and_eq_true,List.all_eq_true] at OZ
 obtain ⟨hl,hc⟩:=OZ
 have hl':n+Kc.length=Nc.length:=by simpa using hl
 refine ⟨Bq I S hf (Nat.le_succ _) hCf,rfl,I.bare,Un.laid old (Nat.le_refl _) I.fresh,⟨_,OB,?_⟩,?_,?_,?_,?_,I.hok.laid old (Nat.le_refl _) ⟨Nat.zero_le _,[],0,.nil,hD⟩,?_⟩
 ·intro i x v hN hv _
  have hi:n<=i:=by
   rcases Nat.lt_or_ge i n with z|z
   ·exfalso
    have OX:(List.replicate n (none:Option V)++Kc.map λi=>(U[i]?).join)[i]?=some (some v):=hv
    rw [List.getElem?_append_left (by simpa using z)] at OX
    simp [z] at OX
   ·exact z
  obtain ⟨j,rfl⟩:∃ j,i=n+j:=⟨i - n,by omega⟩
  have OX:(List.replicate n (none:Option V)++Kc.map λi=>(U[i]?).join)[n+j]?=some (some v):=hv
  rw [List.getElem?_append_right (by simp)] at OX
  have e1:n+j - (List.replicate n (none:Option V)).length=j:=by simp
  rw [e1,List.getElem?_map] at OX
  cases ec:Kc[j]? with
  |none=>rw [ec] at OX;cases OX
  |some i0 =>
   rw [ec] at OX
   have hv2:(U[i0]?).join=some v:=by simpa using OX
   have hv3:U[i0]?=some (some v):=by
    cases es:U[i0]? with
    |none=>rw [es] at hv2;cases hv2
    |some o=>rw [es] at hv2;simp at hv2;rw [hv2]
   have hj:j<Kc.length:=(List.getElem?_eq_some_iff.mp ec).1
   have q:=hc j (List.mem_range.mpr hj)
   have hN':Nc[n+j]?=some x:=hN
   rw [Bool.and_eq_true,hN',ec] at q
   obtain ⟨q1,q2⟩:=q
   have q1':X.N[i0]?=some x:=by simpa using (beq_iff_eq.mp q1).symm
   have q2':scope.names.lookup x=some .free:=by simpa using q2
   obtain ⟨m,_,hm⟩:=I.loc
   have hk:=S.fr x q2'
   obtain ⟨u,ru,lk⟩:=hm i0 x v q1' hv3 (.inr hk)
   refine ⟨u,ru,?_⟩
   rcases lk with ⟨kl,_⟩|⟨_,c,hcl,ic⟩
   ·rcases hk with z|z
    ·rw [kl] at z;cases z
    ·rw [kl] at z;cases z
   ·exact .inr ⟨oM q2',c,qC hcl q2',ic.keeps old⟩
 ·intro x c h
  obtain ⟨v,ic⟩:=I.cell x c (eX h)
  exact ⟨v,ic.keeps old⟩
 ·show upd H s.heap.objs.size (.lst []) (s.heap.objs.size+1)=none
  rw [ao (Nat.succ_ne_self _)]
  exact I.hok.fresh (Nat.le_succ _)
 ·intro x c h
  obtain ⟨v,ic⟩:=I.cell x c (eX h)
  rw [ao (Nat.ne_of_lt ic.lt)]
  exact I.freeC x c (eX h)
 ·intro p hp
  exact absurd (show p∈([]:List (Addr×Obj)) from hp) (by simp)
 ·show (List.replicate n (none:Option V)++Kc.map λi=>(U[i]?).join).length=Nc.length
  rw [List.length_append,List.length_replicate,List.length_map]
  exact hl'
theorem yk {OR:List (Addr×Obj)}{J7:St}{H':Hp}{s':Shared}(I:Inv X pins U H s) (hf:∀ b∈fp,bK X pins H b) (J:Inv (X.comp scope Nc C s H fp) OR J7 H' s'):Inv X pins U H' s' :=
 I.call' J.os J.base J.hok J.bare λb hb=>⟨(hf b hb).2.2.2.1,(hf b hb).2.1,(hf b hb).2.2.2.2.1,(hf b hb).2.2.2.2.2⟩
theorem Inv.but {h':Heap}(I:Inv X pins U H s) (hs:Heap.SameBut C s.heap h') (hn:H C=none) (h0:X.s₀.heap.objs.size<=C) (hl:C≠X.env.locals) (hc:∀ x c,X.env.cells.lookup x=some c->c≠C)
  (hp:∀ p∈X.pn++pins,p.1≠C):Inv X pins U H { s with heap:=h' }:=by
 refine I.call' (s':={ s with heap:=h' }) (ch:=[C]) rfl ⟨λb o e _ _ hb=>hs.extBut b o (by simpa using hb) e,λb o e _ _ hb=>⟨o.slots,hs.extBut b o (by simpa using hb) e⟩,λb o _ n _=>n,λb o e hb=>⟨o,hs.extBut b o (by simpa using hb) e⟩,
  λ_ _ z=>z,λ_ _ _ z=>z,λb ps z=>⟨#[],by simpa using z⟩⟩ (λa o e=>?_) I.bare ?_
 ·refine (I.hok a o e).stay (λb u hb q=>hs.extBut b u ?_ q) (λ_ z=>z) λ_ _ z=>z
  rcases hb with rfl|hb
  ·exact λz=>by rw [z,hn] at e;cases e
  ·exact λz=>by rw [z,hn] at hb;cases hb
 ·intro b hb
  obtain rfl:b=C:=by simpa using hb
  exact ⟨.inr h0,hl,hc,hp⟩
def PTs (X:Cx) (Lu:List Expr) (t:TT):Prop :=
 ∀ (pins:List (Addr×Obj)) (s:Shared) (U:St) (H:Hp) (Q:Bool->Hp->Prop),Inv X pins U H s->t U H Q ->
  wpAny (model X.prog X.w) X.A (forIn Lu true λc r=>if r=true then do let ok <- isTrue c X.env (eval c X.env);pure (ForInStep.yield ok) else pure (ForInStep.yield r)) (TP X pins U Q) X.xe s
def GV:TT:=λ_ H Q=>Q true H
theorem Br:PTs X [] GV:=λ_ _ _ H _ I h=>wpAny_tests_nil ⟨H,I,h⟩
theorem Bs {c:Expr}{t:TT}(h:PT X c t):PTs X [c] t:=λpins s U H Q I hw=>wpAny_tests_one (h pins s U H Q I hw)
variable {LY iter J8:Expr}{Lu:List Expr}{pos:Pos}{n:Nat}{Kc:List Nat}{wi:TI}{g:TG}{tt:TT}{te:TE}
end
section
variable {X:Cx}{K:PySem.W.Frag}
theorem eO {es:List Expr}{k:Nat}{pos:Pos}{t:TGs}{n:Nat}(hK:X.K=K) (hc:X.calm=true) (h:PGs X es t)
  (hn:(assignEach es X.env).length=n:=by rfl) (Nb:(assignEach es X.env).findIdx? (·.1)=none:=by rfl):PG X (.Tuple es k pos) (n3 K n t):=by subst hK;exact Dx hc h hn Nb
end
section
variable {K:PySem.W.Frag}{a D:Addr}{xs:List V}{n:Nat}{Kc:List Nat}{g:TG}{tt:TT}{te:TE}{U:St}{H1:Hp}{Q:Hp->Prop}
end
mutual
inductive DatV (K:PySem.W.Frag) (H:Hp):V->PyData->Prop
 |non:DatV K H .non .none
 |bl (b:Bool):DatV K H (.bl b) (.bool b)
 |int (i:Int):DatV K H (.int i) (.int i)
 |str (x:Str):DatV K H (.str x) (.str x)
 |lst {a:Addr}{xs:List V}{ds:List PyData}:SqL K H a xs->DatVs K H xs ds->DatV K H (.ref a) (.list ds)
 |tup {a:Addr}{xs:List V}{ds:List PyData}:SqT K H a xs->DatVs K H xs ds->DatV K H (.ref a) (.tuple ds)
inductive DatVs (K:PySem.W.Frag) (H:Hp):List V->List PyData->Prop
 |nil:DatVs K H [] []
 |cons {x:V}{xs:List V}{d:PyData}{ds:List PyData}:DatV K H x d->DatVs K H xs ds->DatVs K H (x::xs) (d::ds)
end
section
variable {X:Cx}{pins:List (Addr×Obj)}{U:St}{H:Hp}{s:Shared}
mutual
theorem eK (I:Inv X pins U H s):∀ {v:V}{d:PyData}{u:Value},DatV X.K H v d->au v u->∃ as,Reads s.heap u d as
 |_,_,_,.non,r=>by cases (show _=Value.none from r);exact ⟨_,.none⟩
 |_,_,_,.bl b,r=>by cases (show _=Value.bool b from r);exact ⟨_,.bool b⟩
 |_,_,_,.int i,r=>by obtain ⟨t,rfl⟩:=r;exact ⟨_,.int i t⟩
 |_,_,_,.str x,r=>by obtain ⟨t,rfl⟩:=r;exact ⟨_,.str x t⟩
 |_,_,_,.lst (a:=a) hq hs,r=>by
  cases (show _=Value.ref a from r)
  obtain ⟨its,rv,pl,_⟩:=I.list hq
  obtain ⟨o,n,e,c,_,dd⟩:=pl
  obtain ⟨as,ra⟩:=kB I hs rv
  exact ⟨_,.list e c dd (by simpa using ra)⟩
 |_,_,_,.tup (a:=a) hq hs,r=>by
  cases (show _=Value.ref a from r)
  obtain ⟨its,rv,pl,_⟩:=I.tuple hq
  obtain ⟨o,e,c,n,dd⟩:=pl
  obtain ⟨as,ra⟩:=kB I hs rv
  exact ⟨_,.tuple e c dd (by simpa using ra)⟩
theorem kB (I:Inv X pins U H s):∀ {xs:List V}{ds:List PyData}{us:List Value},DatVs X.K H xs ds->ag xs us->∃ as,ReadsAll s.heap us ds as
 |_,_,_,.nil,.nil=>⟨_,.nil⟩
 |_,_,_,.cons h hs,.cons r rs=>by
  obtain ⟨as,ra⟩:=eK I h r
  obtain ⟨bs,rb⟩:=kB I hs rs
  exact ⟨_,.cons ra rb⟩
end
def uS (K:PySem.W.Frag) (neg:Bool):R2:=λx y H Q=>∃ dx dy,DatV K H x dx/\DatV K H y dy/\dx.canLay0=true/\dy.canLay0=true/\min dx.depth dy.depth<=64/\Q (.bl (neg ^^ PyData.eqv dx dy)) H
theorem DU (hu:X.A.units+64<cLine):OpR X (compareOp .Eq) (uS X.K false):=by
 intro pins s U H x y v u Q I rx ry h
 obtain ⟨dx,dy,h1,h2,c1,c2,hd,q⟩:=h
 obtain ⟨as,ra⟩:=eK I h1 rx
 obtain ⟨bs,rb⟩:=eK I h2 ry
 exact PySem.SeqAt.compareEq_reads ra rb c1 c2 (by omega) ⟨.bl (PyData.eqv dx dy),H,I,rfl,by simpa using q⟩
theorem DV (hu:X.A.units+64<cLine):OpR X (compareOp .NotEq) (uS X.K true):=by
 intro pins s U H x y v u Q I rx ry h
 obtain ⟨dx,dy,h1,h2,c1,c2,hd,q⟩:=h
 obtain ⟨as,ra⟩:=eK I h1 rx
 obtain ⟨bs,rb⟩:=eK I h2 ry
 exact PySem.SeqAt.compareNe_reads ra rb c1 c2 (by omega) ⟨.bl (!PyData.eqv dx dy),H,I,rfl,by simpa using q⟩
end
section
variable {prog:Program}{w:World}{A:Around}{R:Result->Shared->Prop}{I:Addr}{fp wr:List Addr}{n:Nat}{P:Nat->Value->Prop}{St:Nat->Heap->Prop}
theorem oO {E:Value->Shared->Prop}{s:Shared}{id:String}{b:Builtin}{args:List Value}{kw:List (Str×Value)}{Q:Value->Shared->Prop}(hk:builtinKind id=none) (hp:plainId id=true)
  (hb:entryFor table id=some b) (ha:argsOk id ⟨args,kw⟩)
  (hc:wpAny (model prog w) A.in1 (b ⟨args,kw⟩) (λfin s'=>match fin with
   |.done f=>(match (Except.ok f:Result) with|.ok (.ret v)=>Q v s'|.ok _=>False|.error e=>E e s')
   |.again c'=>c'.quiet=true/\codeAny (model prog w) A c' (λr s'=>match r with|.ok (.ret v)=>Q v s'|.ok _=>False|.error e=>E e s') s') E s) :
  wpAny (model prog w) A (call (.builtin id) args kw) Q E s:=by
 refine wpAny_call (codeAny_call_builtin hp hb ?_)
 simp only [checkBuiltinCall,hk]
 cases hsig:Manifest.signature? id with
 |none=>exact wpAny_pure hc
 |some sig =>
  simp only [argsOk,hsig] at ha
  have h2:Bind.checkArgs id sig ⟨args,kw⟩=pure ():=ha
  show wpAny _ A.in1 (Bind.checkArgs id sig ⟨args,kw⟩) _ _ s
  rw [h2];exact wpAny_pure hc
end
theorem qD {α:Type}{l:List α}{i:Nat}{d:α}(h:i<l.length):l.getD i d=l[i]:=by simp [h]
theorem Bt {s:Shared}{b:Addr}{o:Obj}(e:s.heap.get? b=some o):b∉[s.heap.objs.size]:=λz=>by
 have h:=Heap.lt_size e
 rw [List.mem_singleton.mp z] at h
 exact Nat.lt_irrefl _ h
section
variable {X:Cx}
def rO (X:Cx) (f:Value) (ks:List Str) (r:List V->List V->Hp->VK->Prop):Prop :=
 ∀ (pins:List (Addr×Obj)) (s:Shared) (U:St) (H:Hp) (xs zs:List V) (us ws:List Value) (Q:VK),Inv X pins U H s->ag xs us->ag zs ws->r xs zs H Q ->
  wpAny (model X.prog X.w) X.A (call f us (ks.zip ws)) (EP X pins U Q) X.xe s
def uT (r:List V->List V->Hp->VK->Prop) (t tk:TA):TE:=λU H Q=>t U H λvs H1=>tk U H1 λzs H2=>r vs zs H2 Q
theorem yn {x:Str}{p pos:Pos}{e:Expr}{es:List Expr}{Pk:List Keyword}{t tk:TA}{id:String}{ks:List Str}{r:List V->List V->Hp->VK->Prop}(hc:rO X (.builtin id) ks r) (hg:Gl X x) (hm:X.mg x=none)
  (hv:bootBuiltins x=some (.builtin id)) (ha:PA X (e::es) t) (hkw:PK X Pk tk) (hks:(backToKw pos (keywordEach Pk X.env)).filterMap (·.1)=ks:=by rfl) (hn:x ≠ "__name__":=by decide) (KC:(x==("__debug__":Str))=false:=by decide)
  (he:backTo pos (starEach (e::es) X.env)=(false,eval e X.env)::backTo pos (starEach es X.env):=by rfl)
  (LD:(backTo pos (starEach (e::es) X.env)).any (·.1)=false:=by rfl)
  (Pl:(backToKw pos (keywordEach Pk X.env)).all (·.1.isSome)=true:=by rfl)
  (QY:(backToKw pos (keywordEach Pk X.env)).any (·.1.isNone)=false:=by rfl):PE X (.Call (.Name x p) (e::es) Pk pos) (uT r t tk):=by
 intro pins s U H Q I h
 refine wpAny_Call_Name_kw (eT I hg hm hv ?_ hn KC)
 refine PyProof.Rows.callWith_kw (thn (ha pos pins s U H _ I h) λus s1 ⟨vs,H1,I1,r1,q1⟩=>thn (hkw pos pins s1 U H1 _ I1 q1) λws s2 ⟨zs,H2,I2,r2,q2⟩=>?_) he LD Pl QY
 rw [hks]
 exact hc pins s2 U H2 vs zs us ws Q I2 r1 r2 q2
end
def Its (x:Str):It:=⟨λi _=>i<x.cps.toList.length,λi H v H'=>H'=H/\∃ c,x.cps.toList[i]?=some c/\v=.str ⟨#[c]⟩,λi _=>x.cps.toList.length<=i⟩
theorem p5 {P:Program}{w:World}{K:PySem.W.Frag}{tg:Expr}(it:Addr) (x:Str) (t:Tok) (ty:String) (O8:ty="str_ascii_iterator" \/ ty="str_iterator"):Turn P w K tg (Its x) [it] it (λi h=>h.IsStrIter it ty x t i) where
 mem:=by simp
 obj:=λi h st b hb=>by
  have e:b=it:=by simpa using hb
  subst e
  obtain ⟨o,e,c,d⟩:=st
  exact ⟨o,e,λv z=>by rw [d] at z;cases z⟩
 keep:=λi h h' st k=>let ⟨o,ho,r⟩:=st;⟨o,k it (by simp) o ho,r⟩
 item:=by
  intro X hP hw hK hc i pins s U H E I hf st hg
  subst hP hw hK
  obtain ⟨f0,f1,f2,f3,f4,f5⟩:=hf it (by simp)
  have hi:i<x.cps.size:=by simpa [Its] using hg
  have hx:x.cps[i]?=some x.cps[i]:=by simp [hi]
  have fin:∀ h',h'.IsStrIter it ty x t (i+1)->Heap.SameBut it s.heap h'->(∃ u,some (Value.str ⟨#[x.cps[i]]⟩ s.toks)=some u /\
    wpAny (model X.prog X.w) X.A (letOwnedTupleGo tg (.ref it) u) (λ_ s2=>∃ y H',Inv X pins U H' s2/\au y u/\(Its x).yld i H y H'/\s2.heap.IsStrIter it ty x t (i+1)/\∀ b∈[it],H' b=none) E { s with heap:=h',toks:=s.toks+1 }):=λh' OS sb=>by
   have I1:Inv X pins U H { s with heap:=h',toks:=s.toks+1 }:=I.turned (λb o hb e=>(sb.2 b hb).trans e) f0 f1 f3 f4 f5
   obtain ⟨o,e,c,d⟩:=id OS
   refine ⟨_,rfl,m8 (s:={ s with heap:=h',toks:=s.toks+1 }) (n:=ty) e c d (by rcases O8 with rfl|rfl<;>decide) ⟨.str ⟨#[x.cps[i]]⟩,H,I1,⟨_,rfl⟩,⟨rfl,x.cps[i],by simp [hi],rfl⟩,OS,λb hb=>(hf b hb).1⟩⟩
  rcases O8 with rfl|rfl
  ·exact wpAny_pyNext_ascii_item st hx λh' OS sb=>fin h' OS sb
  ·exact wpAny_pyNext_wide_item st hx λh' OS sb=>fin h' OS sb
 done:=by
  intro X hP hw hK hc i pins s U H E I hf st hg
  subst hP hw hK
  obtain ⟨f0,f1,f2,f3,f4,f5⟩:=hf it (by simp)
  have hi:x.cps.size<=i:=by simpa [Its] using hg
  have hx:x.cps[i]?=none:=by simp [hi]
  rcases O8 with rfl|rfl
  ·exact wpAny_pyNext_ascii_end (I.ok.hd hc) st hx λh' eb=>⟨rfl,I.turned (t':=s.toks) (λb o hb e=>eb b o hb e) f0 f1 f3 f4 f5⟩
  ·exact wpAny_pyNext_wide_end (I.ok.hd hc) st hx λh' eb=>⟨rfl,I.turned (t':=s.toks) (λb o hb e=>eb b o hb e) f0 f1 f3 f4 f5⟩
 self:=λ_ _ _ _ _ st h=>by
  rcases O8 with rfl|rfl
  ·exact wpAny_pyIter_striter_ascii st h
  ·exact wpAny_pyIter_striter_wide st h
section
variable {X:Cx}{tg:Expr}
def Jn (tl:TE):TI:=λU H R=>tl U H λx H1=>∃ z,x=.str z/\R (Its z) H1
theorem DW {l:Expr}{tl:TE}(hl:PE X l tl):PI X tg l (Jn tl):=by
 intro pins s U H R I h
 refine thn (hl pins s U H _ I h) λv s1 zz44=>?_
 obtain ⟨x,H1,I1,r1,q1⟩:=zz44
 obtain ⟨z,e,q⟩:=q1
 subst e
 obtain ⟨t,rfl⟩:=r1
 have fp:∀ b∈[s1.heap.objs.size],bK X pins H1 b:=λb hb=>by
  have e:b=s1.heap.objs.size:=by simpa using hb
  subst e
  exact I1.fpOk (Nat.le_refl _) (I1.hok.fresh (Nat.le_refl _))
 cases ha:z.cps.all (·<128)
 ·exact wpAny_pyIter_wide ha ⟨s1.heap.objs.size,[s1.heap.objs.size],_,_,H1,rfl,I1.kept (t':=s1.toks) λb o e=>Heap.get?_push_of_some _ e,p5 _ z t "str_iterator" (.inr rfl),⟨_,Heap.get?_push_size _ rfl,rfl,rfl⟩,fp,q⟩
 ·exact wpAny_pyIter_ascii ha ⟨s1.heap.objs.size,[s1.heap.objs.size],_,_,H1,rfl,I1.kept (t':=s1.toks) λb o e=>Heap.get?_push_of_some _ e,p5 _ z t "str_ascii_iterator" (.inl rfl),⟨_,Heap.get?_push_size _ rfl,rfl,rfl⟩,fp,q⟩
end
section
variable {X:Cx}
theorem yo:OpR X (compareOp .LtE) (λx y H Q=>∃ i j,x=.str i/\y=.str j/\Q (.bl (!decide (j.cps.toList<i.cps.toList))) H):=by
 intro pins s U H x y v u Q I rx ry h
 obtain ⟨i,j,rfl,rfl,q⟩:=h
 obtain ⟨t,rfl⟩:=rx
 obtain ⟨t',rfl⟩:=ry
 exact PySem.P.le_str (aR I q rfl)
def Jo:V->Option Int->Option Int->Hp->VK->Prop:=λx lo hi H Q=>∃ z,x=.str z/\z.length<=sizeLine/\Q (.str (Txt.slice z lo hi)) H
theorem iC {v:Value}{o:Option Int}(p:IsPart v o):∃ q:Option (Int×Tok),v=partValue q/\q.map (·.1)=o:=by
 cases p with
 |none=>exact ⟨none,rfl,rfl⟩
 |int i t=>exact ⟨some (i,t),rfl,rfl⟩
theorem DX:SlR X Jo:=by
 intro pins s U H x v vl vu lo hi sl Q I rx hs pl pu h
 obtain ⟨z,rfl,hz,q⟩:=h
 obtain ⟨t,rfl⟩:=rx
 obtain ⟨ql,rfl,rfl⟩:=iC pl
 obtain ⟨qu,rfl,rfl⟩:=iC pu
 obtain ⟨o,ho,hc,hd⟩:=hs
 refine ⟨"str",_,F.slot_str_getitem.lookup,typeIs_str _ _ _,wpAny_getItem_str_slice (l:=ql) (u:=qu) (st:=none) ⟨o,ho,hc,hd⟩ rfl (post_val_or_str ⟨Nat.le_trans (Txt.slice_le z _ _) hz,λt' k=>?_⟩)⟩
 exact ⟨.str (Txt.slice z (ql.map (·.1)) (qu.map (·.1))),H,I.tok k,⟨t',rfl⟩,q⟩
theorem yq (hc:X.calm=true):bu X (.builtin "all") (λxs H Q=>∃ (p:Addr) (bs:List Bool),xs=[.ref p]/\SqL X.K H p (bs.map V.bl)/\Q (.bl (bs.all id)) H):=by
 intro pins s U H xs us Q I r h
 obtain ⟨p,bs,rfl,hS,q⟩:=h
 obtain ⟨u,rfl,ru⟩:=bW r
 cases ru
 obtain ⟨its,rv,pl,hz⟩:=I.list hS
 have il:=pl.isList
 have hl:=rv.length
 rw [List.length_map] at hl
 have bAt:∀ {i:Nat}{v:Value},its.toArray[i]?=some v->v=.bool (bs.getD i true):=fun {i v} h=>by
  have h':its[i]?=some v:=by simpa using h
  have hi:i<its.length:=(List.getElem?_eq_some_iff.mp h').1
  have hb:i<bs.length:=by omega
  obtain ⟨u,h1,h2⟩:=rv.get (i:=i) (x:=.bl (bs.getD i true)) (by simp [hb])
  rw [h'] at h1
  injection h1 with h1
  subst h1
  exact h2
 have W:=Walks.list (prog:=X.prog) (w:=X.w) (A:=X.A.in1) (I.ok.hd hc) s.heap.objs.size p (by
  obtain ⟨o,n,e,_⟩:=pl
  exact Nat.ne_of_lt (Heap.lt_size e)) its.toArray
 refine call_all_walk (wpAny_pyIter_list il ⟨_,_,_,_,_,_,λi=>bs.getD i true,rfl,W,⟨⟨_,Heap.get?_push_size _ rfl,rfl,rfl⟩,il.push _⟩,λi v s Q E hv hq=>?_,λh' tk hk=>?_⟩)
 ·rw [bAt hv]
  exact wpAny_truthy_bool hq
 ·refine ⟨.bl _,H,I.kept λb o e=>hk b o (Bt e) (Heap.get?_push_of_some _ e),?_,q⟩
  show Value.bool _=Value.bool _
  congr 1
  have e1:its.toArray.size=bs.length:=by rw [List.size_toArray];omega
  rw [e1]
  clear q hS rv bAt W hl e1
  rw [Bool.eq_iff_iff,List.all_eq_true,List.all_eq_true]
  constructor
  ·intro h b hb
   obtain ⟨i,hi,rfl⟩:=List.mem_iff_getElem.mp hb
   have:=h i (List.mem_range.mpr hi)
   rw [qD hi] at this
   exact this
  ·intro h i hi
   have hi':=List.mem_range.mp hi
   rw [qD hi']
   exact h _ (List.getElem_mem hi')
def DY:V->List V->Hp->VK->Prop:=λx vs H Q=>∃ a b,x=.str a/\vs=[.str b]/\b.length≠0/\a.length<=1000/\∀ l,H l=none->Q (.ref l) (upd H l (.lst ((Txt.split a b).map V.str)))
theorem pC:∀ {l:List (Str×Tok)},ag (l.map λp=>V.str p.1) (strValues l)
 |[]=>.nil
 |(x,t)::r=>.cons ⟨t,rfl⟩ pC
theorem zA:MtR X "str.split" DY:=by
 intro pins s U H x vs v us Q I rx rv h
 obtain ⟨a,b,rfl,rfl,hb,hz,q⟩:=h
 obtain ⟨t,rfl⟩:=rx
 obtain ⟨u,rfl,t2,rfl⟩:=bW rv
 have KS:=PyProof.Rows.split_le a b
 have hy:(b.length==0)=false:=by simpa using hb
 have hbig:1002<=sizeLine:=by decide
 have hsz:a.length<=sizeLine:=by omega
 have fin:∀ (l:List (Str×Tok)) (k:Nat),l.map (·.1)=Txt.split a b->EP X pins U Q (.ref s.heap.objs.size) { s with heap:=s.heap.push { cls:=.type "list",data:=.seq (strValues l).toArray },toks:=k }:=λl k e=>by
  have e1:l.length=(Txt.split a b).length:=by rw [<- e,List.length_map]
  have e2:(l.map λp=>V.str p.1)=(Txt.split a b).map V.str:=by rw [<- e,List.map_map];rfl
  refine ⟨.ref _,_,I.lnew (its:=strValues l) (ys:=l.map λp=>V.str p.1) pC (by rw [List.length_map];omega),rfl,?_⟩
  rw [e2]
  exact q _ I.fresh
 cases h1:(decide (a.length<b.length) || decide (Builtin.Str.strKind a<Builtin.Str.strKind b))
 ·cases hf:(Builtin.Str.occurrences a b 0 a.length (a.length+1)).isEmpty
  ·have e3:Txt.split a b=Builtin.Str.partsBetween a (Builtin.Str.occurrences a b 0 a.length (a.length+1)) b.length:=(if_neg (ne_true_of_eq_false h1)).trans (if_neg (ne_true_of_eq_false hf))
   have hsz2:(Builtin.Str.partsBetween a (Builtin.Str.occurrences a b 0 a.length (a.length+1)) b.length).length<=sizeLine:=by rw [<- e3];omega
   refine call_meets F.slot_str_split (typeIs_str _ _ _) F.entry_str_split (F.args_str_split_2 _ _) (meets_str_split_sep a b t t2 h1 hy hf hsz hsz2) ?_
   show wants _ _ _ { s with toks:=_,heap:=s.heap.push { cls:=.type "list",data:=.seq (strsFrom s.toks (Builtin.Str.partsBetween a (Builtin.Str.occurrences a b 0 a.length (a.length+1)) b.length)).toArray } }
   rw [strsFrom_eq]
   exact fin (numbered s.toks _) _ ((numbered_texts _ _).trans e3.symm)
  ·exact call_meets F.slot_str_split (typeIs_str _ _ _) F.entry_str_split (F.args_str_split_2 _ _) (meets_str_split_not_found a b t t2 h1 hy hf)
    (fin [(a,t)] s.toks ((if_neg (ne_true_of_eq_false h1)).trans (if_pos hf)).symm)
 ·exact call_meets F.slot_str_split (typeIs_str _ _ _) F.entry_str_split (F.args_str_split_2 _ _) (meets_str_split_cannot_occur a b t t2 h1)
   (fin [(a,t)] s.toks (if_pos h1).symm)
theorem qE:∀ {zs:List Str}{its:List Value},ag (zs.map V.str) its->∃ l:List (Str×Tok),its=strValues l/\l.map (·.1)=zs
 |[],_,r=>by
  rw [List.map_nil] at r
  cases r
  exact ⟨[],rfl,rfl⟩
 |z::zs,_,r=>by
  rw [List.map_cons] at r
  cases r with
  |cons r1 r2 =>
   obtain ⟨t,rfl⟩:=r1
   obtain ⟨l,rfl,e⟩:=qE r2
   exact ⟨(z,t)::l,rfl,by rw [List.map_cons,e]⟩
def GW (K:PySem.W.Frag):V->List V->Hp->VK->Prop:=λx vs H Q=>∃ (a:Str) (p:Addr) (zs:List Str),x=.str a/\vs=[.ref p]/\SqL K H p (zs.map V.str)/\JoinOk a zs=true/\Q (.str (Txt.join a zs)) H
theorem Bu:MtR X "str.join" (GW X.K):=by
 intro pins s U H x vs v us Q I rx rv h
 obtain ⟨a,p,zs,rfl,rfl,hS,hok,q⟩:=h
 obtain ⟨t,rfl⟩:=rx
 obtain ⟨u,rfl,ru⟩:=bW rv
 cases ru
 obtain ⟨its,r,pl,hz⟩:=I.list hS
 obtain ⟨l,rfl,e⟩:=qE r
 exact SC.join pl.isList e hok λt' k=>⟨.str (Txt.join a zs),H,I.tok k,⟨t',rfl⟩,q⟩
end
section
variable {κ:Type}[DecidableEq κ]
noncomputable def bw (kvs:List (κ×V)) (k:κ):Option V:=(kvs.find? λkv=>decide (kv.1=k)).map (·.2)
noncomputable def cu (kvs:List (κ×V)) (k:κ) (v:V):List (κ×V) :=
 if (kvs.any λkv=>decide (kv.1=k))=true then kvs.map (λkv=>if kv.1=k then (kv.1,v) else kv) else kvs++[(k,v)]
noncomputable def J0 (kvs:List (κ×V)) (k:κ):List (κ×V):=kvs.filter λkv=>decide (kv.1≠k)
theorem lj {p:κ×V}{r:List (κ×V)}{k:κ}(e:p.1=k):bw (p::r) k=some p.2:=by simp [bw,List.find?_cons,e]
theorem lq {p:κ×V}{r:List (κ×V)}{k:κ}(e:¬ p.1=k):bw (p::r) k=bw r k:=by simp [bw,List.find?_cons,e]
theorem p6 (k:κ):∀ kvs:List (κ×V),(kvs.any λkv=>decide (kv.1=k))=(bw kvs k).isSome
 |[]=>rfl
 |p::r=>by
  rw [List.any_cons]
  by_cases e:p.1=k
  ·simp only [lj e,decide_eq_true e,Bool.true_or,Option.isSome_some]
  ·rw [lq e,decide_eq_false e,Bool.false_or];exact p6 k r
theorem oU (kvs:List (κ×V)) (k:κ) (v:V):(cu kvs k v).length<=kvs.length+1:=by
 unfold cu
 split
 ·rw [List.length_map];omega
 ·rw [List.length_append,List.length_cons,List.length_nil];omega
theorem bG.isSome_eq {o:Option V}{u:Option Value}(r:bG o u):o.isSome=u.isSome:=by
 cases o with
 |none=>cases u with
  |none=>rfl
  |some _=>exact (show False from r).elim
 |some _=>cases u with
  |none=>exact (show False from r).elim
  |some _=>rfl
theorem bG.getD {o:Option V}{u:Option Value}{d:V}{d':Value}(r:bG o u) (rd:au d d'):au (o.getD d) (u.getD d'):=by
 cases o with
 |none=>cases u with
  |none=>exact rd
  |some _=>exact (show False from r).elim
 |some _=>cases u with
  |none=>exact (show False from r).elim
  |some _=>exact r
theorem KV.val {kvs:List (κ×V)}{vs:List (κ×Value)}(r:KV kvs vs) (k:κ):bG (bw kvs k) (valueAt vs k):=by
 unfold KV at r
 induction r with
 |nil=>exact True.intro
 |@cons p q ps qs h t ih =>
  obtain ⟨h1,h2⟩:=h
  by_cases e:p.1=k
  ·have e':q.1=k:=h1.symm.trans e
   have b:valueAt (q::qs) k=some q.2:=by simp [valueAt,List.find?_cons,e']
   rw [lj e,b];exact h2
  ·have e':¬ q.1=k:=λz=>e (h1.trans z)
   have b:valueAt (q::qs) k=valueAt qs k:=by simp [valueAt,List.find?_cons,e']
   rw [lq e,b];exact ih
theorem KV.any {kvs:List (κ×V)}{vs:List (κ×Value)}(r:KV kvs vs) (k:κ):(kvs.any λkv=>decide (kv.1=k))=vs.any λkv=>decide (kv.1=k):=by
 unfold KV at r
 induction r with
 |nil=>rfl
 |cons h t ih=>rw [List.any_cons,List.any_cons,ih,h.1]
theorem KV.repl {kvs:List (κ×V)}{vs:List (κ×Value)}(r:KV kvs vs) (k:κ){y:V}{u:Value}(ry:au y u) :
  KV (kvs.map λkv=>if kv.1=k then (kv.1,y) else kv) (vs.map λkv=>if kv.1=k then (kv.1,u) else kv):=by
 unfold KV at r ⊢
 induction r with
 |nil=>exact .nil
 |@cons p q ps qs h t ih =>
  rw [List.map_cons,List.map_cons]
  refine .cons ?_ ih
  obtain ⟨h1,h2⟩:=h
  by_cases e:p.1=k
  ·rw [if_pos e,if_pos (h1.symm.trans e)];exact ⟨h1,ry⟩
  ·rw [if_neg e,if_neg (λz=>e (h1.trans z))];exact ⟨h1,h2⟩
theorem KV.put {kvs:List (κ×V)}{vs:List (κ×Value)}(r:KV kvs vs) (k:κ){y:V}{u:Value}(ry:au y u):KV (cu kvs k y) (stored vs k u):=by
 unfold cu stored
 rw [r.any k]
 by_cases e:(vs.any λkv=>decide (kv.1=k))=true
 ·rw [if_pos e,if_pos e];exact r.repl k ry
 ·rw [if_neg e,if_neg e];exact Paired.snoc r ⟨rfl,ry⟩
theorem KV.length {kvs:List (κ×V)}{vs:List (κ×Value)}(r:KV kvs vs):kvs.length=vs.length:=Paired.length r
end
theorem gM {P:Program}{w:World}{k:Key}{u:Value}(r:au (kV k) u):(ba P w).is k u=true:=by
 cases k with
 |inl i=>obtain ⟨t,e⟩:=(show ∃ t,u=Value.int i t from r);subst e;exact wX P w i t
 |inr x=>obtain ⟨t,e⟩:=(show ∃ t,u=Value.str x t from r);subst e;exact wY P w x t
theorem pD {P:Program}{w:World}:∀ {ks:List Key}{us:List Value},ag (ks.map kV) us->ItemsAre (ba P w) ks us
 |[],_,r=>by rw [List.map_nil] at r;cases r;exact .nil
 |k::ks,_,r=>by
  rw [List.map_cons] at r
  cases r with
  |cons h t=>exact .cons (gM h) (pD t)
abbrev KT (H:Hp):List (List Key×V)->List (List Key×Addr×Value)->Prop:=Paired λp q=>p.1=q.1/\H q.2.1=some (.tup (p.1.map kV))/\au p.2 q.2.2
theorem KT.val {H:Hp}{kvs:List (List Key×V)}{xs:List (List Key×Addr×Value)}(r:KT H kvs xs) (k:List Key):bG (bw kvs k) ((atKey xs k).map (·.2)):=by
 induction r with
 |nil=>exact True.intro
 |@cons p q ps qs h t ih =>
  obtain ⟨h1,_,h2⟩:=h
  by_cases e:p.1=k
  ·have e':q.1=k:=h1.symm.trans e
   have b:atKey (q::qs) k=some q.2:=by simp [atKey,List.find?_cons,e']
   rw [lj e,b];exact h2
  ·have e':¬ q.1=k:=λz=>e (h1.trans z)
   have b:atKey (q::qs) k=atKey qs k:=by simp [atKey,List.find?_cons,e']
   rw [lq e,b];exact ih
theorem KT.repl {H:Hp}{kvs:List (List Key×V)}{xs:List (List Key×Addr×Value)}(r:KT H kvs xs) (k:List Key){y:V}{u:Value}(ry:au y u) :
  KT H (kvs.map λkv=>if kv.1=k then (kv.1,y) else kv) (xs.map (putAt k u)):=by
 induction r with
 |nil=>exact .nil
 |@cons p q ps qs h t ih =>
  rw [List.map_cons,List.map_cons]
  refine .cons ?_ ih
  obtain ⟨h1,h2,h3⟩:=h
  unfold putAt
  by_cases e:p.1=k
  ·rw [if_pos e,if_pos (h1.symm.trans e)];exact ⟨h1,h2,ry⟩
  ·rw [if_neg e,if_neg (λz=>e (h1.trans z))];exact ⟨h1,h2,h3⟩
theorem KT.put {H:Hp}{kvs:List (List Key×V)}{xs:List (List Key×Addr×Value)}(r:KT H kvs xs) (k:List Key){b:Addr}{y:V}{u:Value}(hb:H b=some (.tup (k.map kV))) (ry:au y u) :
  KT H (cu kvs k y) (storedH xs k b u):=by
 have e:(kvs.any λkv=>decide (kv.1=k))=(atKey xs k).isSome:=by
  rw [p6,(r.val k).isSome_eq,Option.isSome_map]
 unfold cu storedH
 rw [e]
 by_cases q:(atKey xs k).isSome=true
 ·rw [if_pos q,if_pos q];exact r.repl k ry
 ·rw [if_neg q,if_neg q];exact Paired.snoc r ⟨rfl,hb,ry⟩
theorem KT.keeps {H H':Hp}{kvs:List (List Key×V)}{xs:List (List Key×Addr×Value)}(r:KT H kvs xs) (ht:∀ b ys,H b=some (.tup ys)->H' b=some (.tup ys)):KT H' kvs xs :=
 Paired.mapP r λ_ _ z=>⟨z.1,ht _ _ z.2.1,z.2.2⟩
section
variable {P:Program}{w:World}{H:Hp}{h:Heap}{a:Addr}
theorem tm {u:HO}(ok:HOk P w H h) (e:Rd H a u):aN P w H h a u:=e.ok ok
theorem tq {kvs:List (Key×V)}(ok:HOk P w H h) (e:Rd H a (.dK kvs)):kvs.length<=sizeLine/\(a==sysModules)=false/\∃ vs,KV kvs vs/\h.DictOf (ba P w) a vs :=
 show aN P w H h a (.dK kvs) from tm ok e
theorem i8 {kvs:List (Key×V)}(ok:HOk P w H h) (e:H a=some (.dK kvs)):kvs.length<=sizeLine/\(a==sysModules)=false/\∃ vs,KV kvs vs/\h.DictOf (ba P w) a vs:=tq ok (.inl e)
theorem mL {ks:List Key}(ok:HOk P w H h) (e:H a=some (.tup (ks.map kV))):(tupleKind (ba P w)).is h ks a:=by
 obtain ⟨_,its,r,o,h1,h2,n,h3⟩:=(show aN P w H h a (.tup (ks.map kV)) from ok a _ e)
 exact ⟨o,its.toArray,n,h1,h2,h3,by simpa using pD r⟩
theorem tw {kvs:List (List Key×V)}(ok:HOk P w H h) (e:Rd H a (.dT kvs)):kvs.length<=sizeLine/\(a==sysModules)=false /\
  ∃ xs,KT H kvs xs/\h.DictOfH (tupleKind (ba P w)) a xs:=by
 obtain ⟨z,y,xs,r,o,es,ep,h1,h2,h3,h4,h5⟩:=(show aN P w H h a (.dT kvs) from tm ok e)
 refine ⟨z,y,xs,r,o,es,ep,h1,h2,h3,h4,λx hx=>?_,h5⟩
 have all:∀ {l:List (List Key×V)}{m:List (List Key×Addr×Value)},KT H l m->∀ x∈m,(tupleKind (ba P w)).is h x.1 x.2.1:=by
  intro l m q
  induction q with
  |nil=>intro x hx;exact nomatch hx
  |@cons p q ps qs hq t ih =>
   intro x hx
   rcases List.mem_cons.mp hx with e|hx
   ·subst e
    exact mL ok (by rw [<- hq.1];exact hq.2.1)
   ·exact ih x hx
 exact all r x hx
theorem GY {kvs:List (List Key×V)}(ok:HOk P w H h) (e:H a=some (.dT kvs)):kvs.length<=sizeLine/\(a==sysModules)=false /\
  ∃ xs,KT H kvs xs/\h.DictOfH (tupleKind (ba P w)) a xs:=tw ok (.inl e)
end
def jo (H:Hp) (a:Addr) (y:V) (r:Option V):Prop :=
 (∃ kvs k,Rd H a (.dK kvs)/\y=kV k/\r=bw kvs k)\/∃ kvs k b,Rd H a (.dT kvs)/\y=.ref b/\H b=some (.tup (k.map kV))/\r=bw kvs k
def jp (H:Hp) (a:Addr) (y v:V) (H':Hp):Prop :=
 (∃ kvs k,H a=some (.dK kvs)/\y=kV k/\kvs.length<sizeLine/\H'=upd H a (.dK (cu kvs k v))) \/
 ∃ kvs k b,H a=some (.dT kvs)/\y=.ref b/\H b=some (.tup (k.map kV))/\kvs.length<sizeLine/\H'=upd H a (.dT (cu kvs k v))
theorem jo.t {H:Hp}{a b:Addr}{kvs:List (List Key×V)}{k:List Key}(e:H a=some (.dT kvs)) (eb:H b=some (.tup (k.map kV))):jo H a (.ref b) (bw kvs k):=.inr ⟨kvs,k,b,.inl e,rfl,eb,rfl⟩
theorem jp.k {H:Hp}{a:Addr}{kvs:List (Key×V)}{k:Key}{v:V}(e:H a=some (.dK kvs)) (hl:kvs.length<sizeLine):jp H a (kV k) v (upd H a (.dK (cu kvs k v))):=.inl ⟨kvs,k,e,rfl,hl,rfl⟩
section
variable {X:Cx}{pins:List (Addr×Obj)}{U:St}{H:Hp}{s:Shared}{a:Addr}{y v:V}{u r:Value}{o:Option V}{A:Around}{E:Value->Shared->Prop}
theorem Inv.big (I:Inv X pins U H s):sysModules<s.heap.objs.size:=by
 have h:mainGlobals<s.heap.objs.size:=(I.mod.glob.keeps I.bk).lt
 exact Nat.lt_trans (by decide) h
theorem qF {h':Heap}{t':Nat}{ob:HO}(I:Inv X pins U H s) (mu:Mut (H a)) (hs:Heap.SameBut a s.heap h') (he:∃ q,h'.get? a=some q) (new:aN X.prog X.w (upd H a ob) h' a ob) :
  Inv X pins U (upd H a ob) { s with heap:=h',toks:=t' } :=
 I.write (x:=a) (e:=a) mu (.inl rfl) (λb q hb z=>(hs.2 b hb).trans z) he new
theorem DZ {P:Program}{w:World}{H':Hp}{h':Heap}{kvs:List (Key×V)}{vs:List (Key×Value)}(z:kvs.length<=sizeLine) (hd:(a==sysModules)=false) (rel:KV kvs vs) (dd:h'.DictOf (ba P w) a vs) :
  aN P w H' h' a (.dK kvs):=⟨z,hd,vs,rel,dd⟩
theorem yr {H':Hp}{Q:Unit->Shared->Prop}(hu:A.units+1<cLine) (I:Inv X pins U H s) (g:jp H a y v H') (ry:au y u) (rv:au v r) (h:∀ s',Inv X pins U H' s'->Q () s') :
  wpAny (model X.prog X.w) A (setItem (.ref a) u r) Q E s:=by
 rcases g with ⟨kvs,k,e,ey,l,eH⟩|⟨kvs,k,b,e,ey,eb,l,eH⟩
 ·subst ey eH
  obtain ⟨z,hd,vs,rel,dd⟩:=i8 I.hok e
  have hz:vs.length<=sizeLine:=by rw [<- rel.length];exact z
  have hl:(cu kvs k v).length<=sizeLine:=by have:=oU kvs k v;omega
  refine wpAny_setItem_pairs (hsz:=hz) (gM ry) dd λh' dd' hs=>h _ ?_
  have he:∃ q,h'.get? a=some q:=let ⟨q,_,_,hq,_⟩:=dd';⟨q,hq⟩
  exact qF I (by rw [e];exact True.intro) hs he (DZ hl hd (rel.put k rv) dd')
 ·subst ey eH
  cases (show u=Value.ref b from ry)
  obtain ⟨z,hd,xs,rel,dd⟩:=GY I.hok e
  have hz:xs.length<=sizeLine:=by rw [<- Paired.length rel];exact z
  have hl:(cu kvs k v).length<=sizeLine:=by have:=oU kvs k v;omega
  refine wpAny_setItem_heap (hsz:=hz) (tupleKind_room_in1 hu) (mL I.hok eb) dd λh' dd' hs=>h _ ?_
  obtain ⟨q,es,ep,hq,h2,h3,h4,_,h5⟩:=dd'
  refine qF I (by rw [e];exact True.intro) hs ⟨q,hq⟩ ⟨hl,hd,_,(rel.put k eb rv).keeps λc ys ec=>?_,q,es,ep,hq,h2,h3,h4,h5⟩
  rw [ao (bJ ec e (λz=>nomatch z))]
  exact ec
end
section
variable {X:Cx}{pins:List (Addr×Obj)}{U:St}{H:Hp}{s:Shared}{a:Addr}{kvs:List (Key×V)}{k:Key}{u:Value}{A:Around}{E:Value->Shared->Prop}
end
section
variable {X:Cx}{o i e value:Expr}{pos KA Lf:Pos}{td ty tv:TE}
end
theorem zB {P:Program}{w:World}{H:Hp}(h:Heap) (hb:sysModules<h.objs.size):aN P w H (h.push { cls:=.type "dict",data:=.dict #[] }) h.objs.size (.dK []) :=
 ⟨Nat.zero_le _,beq_eq_false_iff_ne.mpr (Ne.symm (Nat.ne_of_lt hb)),[],.nil,Heap.DictOf.new h⟩
theorem zC {P:Program}{w:World}{H:Hp}(h:Heap) (hb:sysModules<h.objs.size):aN P w H (h.push { cls:=.type "dict",data:=.dict #[] }) h.objs.size (.dT []) :=
 ⟨Nat.zero_le _,beq_eq_false_iff_ne.mpr (Ne.symm (Nat.ne_of_lt hb)),[],.nil,_,#[],0,Heap.get?_push_size _ rfl,⟨rfl,rfl,rfl⟩,rfl,rfl,List.nodup_nil⟩
def D0:TE:=λ_ H Q=>∀ p,H p=none->Q (.ref p) (upd H p (.dK []))
def D6:TE:=λ_ H Q=>∀ p,H p=none->Q (.ref p) (upd H p (.dT []))
section
variable {X:Cx}{pos:Pos}
theorem zD:PE X (.Dict [] [] pos) D0:=λpins s U H Q I h =>
 wpAny_Dict_empty ⟨.ref s.heap.objs.size,_,I.laid (a:=s.heap.objs.size) (o:=.dK []) (t':=s.toks) (λ_ _ q=>Heap.get?_push_of_some _ q) (Nat.le_refl _) (zB s.heap I.big),rfl,h _ (I.hok.fresh (Nat.le_refl _))⟩
theorem zE:PE X (.Dict [] [] pos) D6:=λpins s U H Q I h =>
 wpAny_Dict_empty ⟨.ref s.heap.objs.size,_,I.laid (a:=s.heap.objs.size) (o:=.dT []) (t':=s.toks) (λ_ _ q=>Heap.get?_push_of_some _ q) (Nat.le_refl _) (zC s.heap I.big),rfl,h _ (I.hok.fresh (Nat.le_refl _))⟩
end
structure M1 (X:Cx) (o:Expr) (m:Str) (apos:Pos) (e:Expr) (cpos:Pos):Prop where
 base:attributeBase o m X.env (eval o X.env)=eval o X.env
 few:((backTo cpos (starEach [e] X.env)).all (λx=>!x.1)&&(backToKw cpos (keywordEach [] X.env)).all (λx=>x.1.isSome)
  && decide (([e]:List Expr).length+([]:List Keyword).length+(if ([]:List Keyword).isEmpty then 0 else 1)<30))=true
 line:(apos.endLine==cpos.line)=true
 trees:backTo cpos (starEach [e] X.env)=[(false,eval e X.env)]
structure M2 (X:Cx) (o:Expr) (m:Str) (apos:Pos) (e f:Expr) (cpos:Pos):Prop where
 base:attributeBase o m X.env (eval o X.env)=eval o X.env
 few:((backTo cpos (starEach [e,f] X.env)).all (λx=>!x.1)&&(backToKw cpos (keywordEach [] X.env)).all (λx=>x.1.isSome)
  && decide (([e,f]:List Expr).length+([]:List Keyword).length+(if ([]:List Keyword).isEmpty then 0 else 1)<30))=true
 line:(apos.endLine==cpos.line)=true
 trees:backTo cpos (starEach [e,f] X.env)=[(false,eval e X.env),(false,eval f X.env)]
section
variable {X:Cx}{pins:List (Addr×Obj)}{U:St}{H:Hp}{s:Shared}{a:Addr}{y d:V}{u r:Value}{o:Option V}{A:Around}{E:Value->Shared->Prop}
theorem D7 {Q:Value->Shared->Prop}(hu:A.units+1<cLine) (I:Inv X pins U H s) (g:jo H a y o) (ry:au y u) (rd:au d r) (h:∀ w' s',Inv X pins U H s'->au (o.getD d) w'->Q w' s') :
  wpAny (model X.prog X.w) A (call (.builtin "dict.get") [.ref a,u,r]) Q E s:=by
 rcases g with ⟨kvs,k,e,ey,l⟩|⟨kvs,k,b,e,ey,eb,l⟩
 ·subst ey
  obtain ⟨z,hd,vs,rel,dd⟩:=tq I.hok e
  refine call_meetsIn PySem.F.slot_dict_get dd.typeIs PySem.F.entry_dict_get (PySem.F.args_dict_get_3 _ _ _) (meets_dict_get_default (ba X.prog X.w) a (gM ry) hd r) ⟨_,dd.mapOf,h _ _ (I.tok _) ?_⟩
  rw [l]
  exact (rel.val k).getD rd
 ·subst ey
  cases (show u=Value.ref b from ry)
  obtain ⟨z,hd,xs,rel,dd⟩:=tw I.hok e
  refine call_meetsIn PySem.F.slot_dict_get dd.typeIs PySem.F.entry_dict_get (PySem.F.args_dict_get_3 _ _ _) (meetsH_dict_get_default (tupleKind (ba X.prog X.w)) a b hd r) ⟨tupleKind_room_in1 hu,k,xs,mL I.hok eb,dd,h _ _ (I.tok _) ?_⟩
  rw [l]
  exact (rel.val k).getD rd
end
section
variable {X:Cx}{o e f:Expr}{apos cpos:Pos}{td ty tx:TE}
end
section
variable {X:Cx}{pins:List (Addr×Obj)}{U:St}{H:Hp}{s:Shared}{a:Addr}{kvs:List (Key×V)}{A:Around}{E:Value->Shared->Prop}
end
section
variable {X:Cx}{pins:List (Addr×Obj)}{U:St}{H:Hp}{s:Shared}{a:Addr}{y:V}{u:Value}{A:Around}{E:Value->Shared->Prop}
end
section
variable {κ:Type}[DecidableEq κ]
end
def bC (D:Addr) (zs:List V):HO:=.ext λh=>zs.length<=sizeLine/\∃ (its:List Value) (n:Nat),ag zs its/\h.get? D=some { cls:=.type "list",data:=.seq its.toArray n }
theorem Inv.toAcc {X:Cx}{pins:List (Addr×Obj)}{U:St}{H:Hp}{s:Shared}{D:Addr}{zs:List V}(I:Inv X pins U H s) (h:H D=some (.lst zs)):Inv X pins U (upd H D (bC D zs)) s:=by
 obtain ⟨z,its,n,r,e⟩:=I.hok D _ h
 obtain ⟨hh,g,d,t,os⟩:=s
 exact I.write (t':=t) (h':=hh) (x:=D) (e:=D) (by rw [h];trivial) (.inl rfl) (λb u _ q=>q) ⟨_,e⟩ ⟨⟨z,its,n,r,e⟩,⟨_,e⟩,λh1 h2 zz45 k=>by obtain ⟨z',its',n',r',e'⟩:=zz45;exact ⟨z',its',n',r',k _ e'⟩⟩
theorem Inv.ofAcc {X:Cx}{pins:List (Addr×Obj)}{U:St}{H:Hp}{s:Shared}{D:Addr}{zs:List V}(I:Inv X pins U H s) (h:H D=some (bC D zs)):Inv X pins U (upd H D (.lst zs)) s:=by
 obtain ⟨⟨z,its,n,r,e⟩,_,_⟩:=I.hok D _ h
 obtain ⟨hh,g,d,t,os⟩:=s
 exact I.write (t':=t) (h':=hh) (x:=D) (e:=D) (by rw [h];trivial) (.inl rfl) (λb u _ q=>q) ⟨_,e⟩ ⟨z,its,n,r,e⟩
section
variable {X:Cx}{pins:List (Addr×Obj)}{U:St}{H:Hp}{s:Shared}{scope:Scope}{Nc:List Str}{fp:List Addr}{C:Addr}
def rP (J:It) (n:Nat) (Kc:List Nat) (g:TG) (tt:TT) (te:TE) (U:St) (H1:Hp) (Q:VK):Prop:=∀ D,H1 D=none->∃ W:Nat->Nat->List V->St->Hp->Prop,(∃ m,W 0 m [] (eW n Kc U) (upd H1 D (bC D [])))/\∀ i m zs σc H,W i m zs σc H ->
 H D=some (bC D zs)/\((J.stop i H/\Q (.ref D) (upd H D (.lst zs)))\/(J.go i H/\∃ N:List V->St->Hp->Prop,(∀ zs' J7 H',N zs' J7 H'->∃ m',m'<m/\W (i+1) m' zs' J7 H')/\∀ x H',J.yld i H x H'->g x σc H' λKO H2=>tt KO H2 λb H3 =>
  if b=true then te KO H3 λy H4=>H4 D=some (bC D zs)/\zs.length<sizeLine/\N (zs++[y]) KO (upd H4 D (bC D (zs++[y]))) else N zs KO H3))
def mM (wi:TI) (n:Nat) (Kc:List Nat) (g:TG) (tt:TT) (te:TE):TE:=λU H Q=>wi U H λJ H1=>rP J n Kc g tt te U H1 Q
variable {LY iter J8:Expr}{Lu:List Expr}{pos:Pos}{n:Nat}{Kc:List Nat}{wi:TI}{g:TG}{tt:TT}{te:TE}
theorem oV {J:It}{it:Addr}{tn:Nat->Heap->Prop}{Q:VK}{E:Value->Shared->Prop}{RR:Value->Addr->Result->Shared->Prop}(Lv:X.calm=true) (S:CompSc X scope) (OZ:dY X.N Nc scope n Kc=true)
  (hg:∀ C s₀ H₀ ex,PG (X.comp scope Nc C s₀ H₀ ex) J8 g) (ht:∀ C s₀ H₀ ex,PTs (X.comp scope Nc C s₀ H₀ ex) Lu tt) (he:∀ C s₀ H₀ ex,PE (X.comp scope Nc C s₀ H₀ ex) LY te)
  (I:Inv X pins U H s) (T:Turn X.prog X.w X.K J8 J fp it tn) (t0:tn 0 s.heap) (hf:∀ b∈fp,bK X pins H b) (hw:rP J n Kc g tt te U H Q)
  (fin:∀ (D:Addr) (s':Shared) (H':Hp) (m:Str->Option Value),Inv X pins U H' s'->H' (s.heap.objs.size+1)=none->s'.heap.Ns (s.heap.objs.size+1) m->Q (.ref D) H'->RR (.ref D) (s.heap.objs.size+1) (.ok .next) s') :
  wpAny (model X.prog X.w) X.A (newList []) (λJ9 Pn=>wpAny (model X.prog X.w) X.A (newFunctionEnv scope X.env.globals (cM scope X.env) [] X.env.qual none .none (some X.env)) (λcenv P8 =>
   codeAny (model X.prog X.w) X.A (.compStart (.ListComp LY [⟨J8,iter,Lu,0⟩] scope pos) 0 (.ref it) J9 { cenv with scope:=relabel scope X.env }) (RR J9 cenv.locals) P8) E Pn) E s:=by
 refine wpAny_newObj_type (wpAny_newFunctionEnv S.nocell (by intro y hy;simp at hy) (λh₁ NP ME=>?_) S.kind)
 dsimp only at NP ME ⊢
 generalize hH2:s.heap.push { cls:=.type "list",dict:=none,data:=.seq ([]:List Value).toArray }=H2 at NP ME ⊢
 have hC:H2.objs.size=s.heap.objs.size+1:=by rw [<- hH2,Heap.size_push]
 rw [hC] at NP ME
 have P9:∀ b∈fp,b<s.heap.objs.size:=λb hb=>by
  obtain ⟨o,e,_⟩:=T.obj _ _ t0 b hb
  exact Heap.lt_size e
 have old:∀ b o,s.heap.get? b=some o->h₁.get? b=some o:=λb o e=>ME.extBut b o (Nat.ne_of_lt (Nat.lt_succ_of_lt (Heap.lt_size e))) (Heap.get?_push_of_some _ (hH2 ▸ Heap.get?_push_of_some _ e))
 have hD:h₁.get? s.heap.objs.size=some { cls:=.type "list",data:=.seq #[] 0 }:=ME.extBut _ _ (Nat.ne_of_lt (Nat.lt_succ_self _)) (Heap.get?_push_of_some _ (hH2 ▸ Heap.get?_push_size _ rfl))
 have I0:Inv (X.comp scope Nc (s.heap.objs.size+1) s H fp) [] (eW n Kc U) (upd H s.heap.objs.size (.lst [])) { s with heap:=h₁,toks:=s.toks+([]:List (Str×Value)).length } :=
  xB I S OZ hf P9 NP old hD
 replace I0:=I0.toAcc (D:=s.heap.objs.size) aF
 rw [gi] at I0
 obtain ⟨W,⟨m0,w0⟩,turn⟩:=hw s.heap.objs.size I.fresh
 have fr0:∀ b∈fp,upd H s.heap.objs.size (bC s.heap.objs.size []) b=none:=λb hb=>by
  rw [ao (Nat.ne_of_lt (P9 b hb))]
  exact (hf b hb).1
 have stat:∀ {H':Hp},(∀ b∈fp,H' b=none)->∀ b∈fp,bK (X.comp scope Nc (s.heap.objs.size+1) s H fp) [] H' b:=λhn b hb =>
  ⟨hn b hb,(λe=>Nat.ne_of_lt (Nat.lt_succ_of_lt (P9 b hb)) e),I0.ok.exfs b hb,.inl hb,(I0.ok.exf b hb).2,λp hp=>absurd (show p∈([]:List (Addr×Obj)) from hp) (by simp)⟩
 have loop:codeAny (model X.prog X.w) X.A (.compLoop (.ListComp LY [⟨J8,iter,Lu,0⟩] scope pos) 0 (.ref it) (.ref s.heap.objs.size) (compEnvC scope (cM scope X.env) (s.heap.objs.size+1) X.env))
   (RR (.ref s.heap.objs.size) (s.heap.objs.size+1)) { s with heap:=h₁,toks:=s.toks+([]:List (Str×Value)).length }:=by
  refine w9 (λm s'=>∃ i zs J7 H',Inv (X.comp scope Nc (s.heap.objs.size+1) s H fp) [] J7 H' s'/\tn i s'.heap/\(∀ b∈fp,H' b=none)/\W i m zs J7 H') ?_ m0
   ⟨0,_,_,_,I0,T.keep _ _ _ t0 λb _ o e=>old b o e,fr0,w0⟩
  rintro m s3 ⟨i,zs,OT,H3,I3,QM,QN,w3⟩
  obtain ⟨hD3,w3'⟩:=turn i m zs OT H3 w3
  rcases w3' with ⟨stop,qn⟩|⟨go,N,hN,step⟩
  ·refine thn (T.done (X.comp scope Nc (s.heap.objs.size+1) s H fp) rfl rfl rfl Lv i [] s3 OT H3 _ I3 (stat QN) QM stop) λr s4 ⟨hr,I4⟩=>?_
   subst hr
   obtain ⟨m4,hn4,_⟩:=I4.loc
   have I4':=I4.ofAcc hD3
   exact fin _ s4 _ m4 (yk I hf I4') I4'.free hn4 qn
  ·refine thn (T.item (X.comp scope Nc (s.heap.objs.size+1) s H fp) rfl rfl rfl Lv i [] s3 OT H3 _ I3 (stat QN) QM go) λr s4 ⟨u,hr,h4⟩=>?_
   subst hr
   refine thn h4 λ_ s5 zz46=>?_
   obtain ⟨x,H5,I5,r5,y5,Pd,fr5⟩:=zz46
   have I5':=I5.pinned (stat fr5) (T.obj _ _ Pd)
   refine thn (hg _ _ _ _ _ s5 OT H5 x u _ I5' r5 (step x H5 y5)) λ_ s6 zz47=>?_
   obtain ⟨O7,H6,I6,q6⟩:=zz47
   refine thn (ht _ _ _ _ _ s6 O7 H6 _ I6 q6) λok s7 zz48=>?_
   obtain ⟨H7,I7,q7⟩:=zz48
   have again:∀ {s8:Shared}{H8:Hp}{zs8:List V},Inv (X.comp scope Nc (s.heap.objs.size+1) s H fp) ([]++eU fp s5.heap) O7 H8 s8->N zs8 O7 H8 ->
     ∃ m',m'<m/\∃ i zs J7 H',Inv (X.comp scope Nc (s.heap.objs.size+1) s H fp) [] J7 H' s8/\tn i s8.heap/\(∀ b∈fp,H' b=none)/\W i m' zs J7 H':=fun {s8 H8 zs8} I8 n8=>by
    obtain ⟨m',hm,w8⟩:=hN zs8 O7 H8 n8
    refine ⟨m',hm,i+1,zs8,O7,H8,I8.unpinned,T.keep _ _ _ Pd λb hb o e=>(I8.pin (b,o) (List.mem_append_right _ (List.mem_append_right _ (eI hb e)))).1,λb hb=>?_,w8⟩
    obtain ⟨o,e,d⟩:=T.obj _ _ Pd b hb
    exact (I8.pin (b,o) (List.mem_append_right _ (List.mem_append_right _ (eI hb e)))).2.1
   cases ok with
   |false =>
    rw [if_neg Bool.false_ne_true] at q7 ⊢
    exact again I7 q7
   |true =>
    rw [if_pos rfl] at q7 ⊢
    refine thn (he _ _ _ _ _ s7 O7 H7 _ I7 q7) λy s8 zz49=>?_
    obtain ⟨v8,H8,I8,r8,hz,hl,q8⟩:=zz49
    refine thn (yh _ s8 O7 _ (.ref s.heap.objs.size) [v8] (.ref s.heap.objs.size) [y] (λ_ H9=>H9=upd H8 s.heap.objs.size (.lst (zs++[v8]))) (I8.ofAcc hz) rfl (.cons r8 .nil) ⟨_,zs,v8,rfl,rfl,aF,hl,by rw [gi]⟩) λ_ s9 zz50=>?_
    obtain ⟨_,H9,I9,_,q9⟩:=zz50
    subst q9
    have I9':=I9.toAcc (D:=s.heap.objs.size) aF
    rw [gi] at I9'
    exact again I9' q8
 have e2:({ newEnv scope H2.objs.size X.env.globals (cM scope X.env) X.env.qual none .none (some X.env) builtinsNs with scope:=relabel scope X.env }:Env)=compEnvC scope (cM scope X.env) (s.heap.objs.size+1) X.env:=by
  rw [hC];rfl
 have e3:(newEnv scope H2.objs.size X.env.globals (cM scope X.env) X.env.qual none .none (some X.env) builtinsNs).locals=s.heap.objs.size+1:=hC
 rw [e2,e3]
 exact codeAny_compStart_list loop (T.self _ 0 _ _ _ (T.keep _ _ _ t0 λb _ o e=>old b o e) loop)
theorem zF (Nc:List Str) (n:Nat) (Kc:List Nat) (Lv:X.calm=true) (hi:PI X J8 iter wi) (hg:∀ C s₀ H₀ ex,PG (X.comp scope Nc C s₀ H₀ ex) J8 g) (ht:∀ C s₀ H₀ ex,PTs (X.comp scope Nc C s₀ H₀ ex) Lu tt)
  (he:∀ C s₀ H₀ ex,PE (X.comp scope Nc C s₀ H₀ ex) LY te) (Po:dC X.env.scope scope=true:=by rfl) (OZ:dY X.N Nc scope n Kc=true:=by rfl) (hs:∀ x,foldedSetIterable iter X.env x=pure x:=by intro _;rfl) :
  PE X (.ListComp LY [⟨J8,iter,Lu,0⟩] scope pos) (mM wi n Kc g tt te):=by
 intro pins s U H Q I h
 have S:=kY Po
 rw [eval_ListComp]
 refine wpAny_comprehension_free (use:=none) rfl hs (S.clos I.ok) S.kind S.loc (thn (hi pins s U H _ I h) λv s1 h1=>thn h1 λitv s2 h2=>?_)
 obtain ⟨it,fp,tn,J,H2,e,I2,T,t2,f2,hw⟩:=h2
 subst e
 refine oV (RR:=λJ9 C=>compPost (model X.prog X.w) X.A X.xe none (EP X pins U Q) J9 C) Lv S OZ hg ht he I2 T t2 f2 hw ?_
 intro D s' H' m I' hn OB q
 refine ⟨m,OB,λh' QZ=>⟨.ref D,H',?_,rfl,q⟩⟩
 refine I'.but QZ hn (Nat.le_trans I2.sz (Nat.le_succ _)) (λe=>?_) (λx c hc e=>?_) λp hp e=>?_
 ·exact Nat.ne_of_lt (Nat.lt_succ_of_lt I2.lt) e.symm
 ·obtain ⟨v,ic⟩:=I2.cell x c hc
  exact Nat.ne_of_lt (Nat.lt_succ_of_lt ic.lt) e
 ·exact Nat.ne_of_lt (Nat.lt_succ_of_lt (Heap.lt_size (I2.pin p hp).1)) e
theorem zG {i:Nat}{x:Str}{px MF:Pos}(Nc:List Str) (n:Nat) (Kc:List Nat) (Lv:X.calm=true) (hN:X.N.Nodup) (hix:X.N[i]?=some x) (hx:Loc X.env.scope x) (hi:PI X J8 iter wi) (hg:∀ C s₀ H₀ ex,PG (X.comp scope Nc C s₀ H₀ ex) J8 g)
  (ht:∀ C s₀ H₀ ex,PTs (X.comp scope Nc C s₀ H₀ ex) Lu tt) (he:∀ C s₀ H₀ ex,PE (X.comp scope Nc C s₀ H₀ ex) LY te)
  (Q0:swapsWith (.ListComp LY [⟨J8,iter,Lu,0⟩] scope pos) (some (.Name x px)) MF.line X.env=pure true:=by rfl) (Po:dC X.env.scope scope=true:=by rfl) (OZ:dY X.N Nc scope n Kc=true:=by rfl)
  (hs:∀ x,foldedSetIterable iter X.env x=pure x:=by intro _;rfl) (hf:X.fn x=true\/X.env.scope.names.lookup x=some .local:=by first|exact .inl rfl|exact .inr rfl|assumption) :
  PS X (.Assign [.Name x px] (.ListComp LY [⟨J8,iter,Lu,0⟩] scope pos) MF) (fF (mM wi n Kc g tt te) (i4 i)):=by
 intro pins s U H D I h
 have S:=kY Po
 rw [exec_Assign_Name_used _ _ _ _ Q0]
 refine wpAny_bind (wpAny_standAt (wpAny_bind ?_))
 show wpAny _ X.A (do let _ <- comprehension (.ListComp LY [⟨J8,iter,Lu,0⟩] scope pos) scope X.env _ (newList []) false (eval iter X.env) (some (assign (.Name x px) X.env))) _ _ s
 refine wpAny_bind (thn (wpAny_comprehension_free (use:=some (assign (.Name x px) X.env)) (Q:=λ_ s'=>SP X pins D .next s') rfl hs (S.clos I.ok) S.kind S.loc
  (thn (hi pins s U H _ I h) λv s1 h1=>thn h1 λitv s2 h2=>?_)) λ_ s' hq=>wpAny_pure (wpAny_pure hq))
 obtain ⟨it,fp,tn,J,H2,e,I2,T,t2,f2,hw⟩:=h2
 subst e
 refine oV (RR:=λJ9 C=>compPost (model X.prog X.w) X.A X.xe (some (assign (.Name x px) X.env)) (λ_ s'=>SP X pins D .next s') J9 C) Lv S OZ hg ht he I2 T t2 f2 hw ?_
 intro Da s' H' m I' hn OB q
 show wpAny _ X.A (assign (.Name x px) X.env (.ref Da)) _ _ s'
 obtain ⟨oC,es,ep,eo,ed,rC⟩:=id OB
 have nl:s2.heap.objs.size+1≠X.env.locals:=λe=>Nat.ne_of_lt (Nat.lt_succ_of_lt I2.lt) e.symm
 have nc:∀ y c,X.env.cells.lookup y=some c->c≠s2.heap.objs.size+1:=λy c hc e=>by
  obtain ⟨v,ic⟩:=I2.cell y c hc
  exact Nat.ne_of_lt (Nat.lt_succ_of_lt ic.lt) e
 have np:∀ p∈X.pn++pins,p.1≠s2.heap.objs.size+1:=λp hp e=>Nat.ne_of_lt (Nat.lt_succ_of_lt (Heap.lt_size (I2.pin p hp).1)) e
 have I3:Inv X (pins++[(s2.heap.objs.size+1,oC)]) U H' s':=I'.pins_of λp hp=>by
  rcases List.mem_append.mp hp with z|z
  ·exact I'.pin p (List.mem_append_right _ z)
  ·obtain rfl:p=(s2.heap.objs.size+1,oC):=by simpa using z
   refine ⟨eo,hn,nl,λhb=>?_,λv e=>?_⟩
   ·have h1:=I2.nofs (a:=s2.heap.objs.size+1) (Nat.le_succ _)
    exact h1 hb
   ·rw [ed] at e;cases e
 refine wpAny_assign_Name (fV I3 hN hix hx (u:=.ref Da) (v:=.ref Da) rfl (λs4 I4=>?_) hf)
 have g4:s4.heap.get? (s2.heap.objs.size+1)=some oC:=(I4.pin (s2.heap.objs.size+1,oC) (List.mem_append_right _ (List.mem_append_right _ (by simp)))).1
 refine ⟨m,⟨oC,es,ep,g4,ed,rC⟩,λh' QZ=>?_⟩
 exact ⟨_,H',I4.unpinned.but QZ hn (Nat.le_trans I2.sz (Nat.le_succ _)) nl nc np,q⟩
end
def uU (w:World) (od:Obj) (kvs:List (Key×V)):Prop:=kvs.length<=sizeLine/\∀ P:Program,∃ vs,KV kvs vs/\od.IsDictOf (ba P w) vs
noncomputable def fzH (w:World) (a:Addr) (od:Obj) (kvs:List (Key×V)):HO:=.ext λh=>h.get? a=some od/\uU w od kvs/\(a==sysModules)=false
theorem yu {P P':Program}{w:World}{es:List DictEntry}{vs:List (Key×Value)}(d:Pairs (ba P w) es vs):Pairs (ba P' w) es vs:=by
 induction d with
 |nil=>exact .nil
 |cons h1 h2 _ ih=>exact .cons h1 h2 ih
theorem jq {α β:Type}{F:α->β->Prop}:∀ {l:List α}{m:List β}{i:Nat}{b:β},Paired F l m->m[i]?=some b->∃ a,l[i]?=some a/\F a b
 |_,_,_,_,.nil,e=>by simp at e
 |_,_,0,_,.cons h _,e=>by simp at e;subst e;exact ⟨_,rfl,h⟩
 |_,_,i+1,_,.cons _ t,e=>by
  obtain ⟨a,h1,h2⟩:=jq (i:=i) t (by simpa using e)
  exact ⟨a,by simpa using h1,h2⟩
theorem Bv {P P':Program}{w:World}{od:Obj}{vs:List (Key×Value)}(h:od.IsDictOf (ba P w) vs):od.IsDictOf (ba P' w) vs:=by
 obtain ⟨es,ep,a,b,c,d,e⟩:=h
 exact ⟨es,ep,a,b,c,yu d,e⟩
theorem qG:∀ {xs:List V}{us:List Value},xs.length=us.length->(∀ (j:Nat) x u,xs[j]?=some x->us[j]?=some u->au x u)->ag xs us
 |[],[],_,_=>.nil
 |[],_::_,h,_=>by simp at h
 |_::_,[],h,_=>by simp at h
 |x::xs,u::us,h,f=>.cons (f 0 x u rfl rfl) (qG (by simpa using h) λj y v e1 e2=>f (j+1) y v (by simpa using e1) (by simpa using e2))
section
variable {X:Cx}{pins:List (Addr×Obj)}{U:St}{H:Hp}{s:Shared}{a d:Addr}{od:Obj}{kvs:List (Key×V)}{k:Key}{y v:V}{u r:Value}{A:Around}{E:Value->Shared->Prop}
theorem tD {P:Program}{w:World}{k:Key}{u:Value}(h:(ba P w).is k u=true):au (kV k) u:=by
 rcases cO h with ⟨i,t,rfl,rfl⟩|⟨x,t,rfl,rfl⟩
 ·exact ⟨t,rfl⟩
 ·exact ⟨t,rfl⟩
theorem Inv.toFz (I:Inv X pins U H s) (e:H a=some (.dK kvs)):∃ od,Inv X pins U (upd H a (fzH X.w a od kvs)) s:=by
 obtain ⟨z,hd,vs,rel,dd⟩:=i8 I.hok e
 obtain ⟨od,ho,hio⟩:=Heap.dictOf_iff.mp dd
 obtain ⟨hh,g,dr,t,os⟩:=s
 refine ⟨od,I.write (t':=t) (h':=hh) (x:=a) (e:=a) (by rw [e];trivial) (.inl rfl) (λb u _ q=>q) ⟨_,ho⟩ ⟨⟨ho,⟨z,λP=>⟨vs,rel,Bv hio⟩⟩,hd⟩,⟨_,ho⟩,λh1 h2 p k=>⟨k _ p.1,p.2⟩⟩⟩
theorem gN (I:Inv X pins U H s) (e:H a=some (fzH X.w a od kvs)):s.heap.get? a=some od/\uU X.w od kvs/\(a==sysModules)=false:=(I.hok a _ e).1
theorem Inv.ofFz (I:Inv X pins U H s) (e:H a=some (fzH X.w a od kvs)):Inv X pins U (upd H a (.dK kvs)) s:=by
 obtain ⟨ho,⟨z,dz⟩,hd⟩:=gN I e
 obtain ⟨vs,rel,dd⟩:=dz X.prog
 obtain ⟨hh,g,dr,t,os⟩:=s
 exact I.write (t':=t) (h':=hh) (x:=a) (e:=a) (by rw [e];trivial) (.inl rfl) (λb u _ q=>q) ⟨_,ho⟩ ⟨z,hd,vs,rel,Heap.dictOf_iff.mpr ⟨od,ho,dd⟩⟩
def RdK (w:World) (H:Hp) (a:Addr) (kvs:List (Key×V)):Prop:=H a=some (.dK kvs)\/∃ od,H a=some (fzH w a od kvs)
theorem rdK (I:Inv X pins U H s) (e:RdK X.w H a kvs):kvs.length<=sizeLine/\(a==sysModules)=false/\∃ vs,KV kvs vs/\s.heap.DictOf (ba X.prog X.w) a vs:=by
 rcases e with e|⟨od,e⟩
 ·exact i8 I.hok e
 ·obtain ⟨ho,⟨z,dz⟩,hd⟩:=gN I e
  obtain ⟨vs,rel,dd⟩:=dz X.prog
  exact ⟨z,hd,vs,rel,Heap.dictOf_iff.mpr ⟨od,ho,dd⟩⟩
theorem Jp {Q:Value->Shared->Prop}(I:Inv X pins U H s) (g:RdK X.w H a kvs) (ry:au (kV k) u) (h:∀ s',Inv X pins U H s'->Q (.bool (bw kvs k).isSome) s'):wpAny (model X.prog X.w) A (compareOp .In u (.ref a)) Q E s:=by
 obtain ⟨z,hd,vs,rel,dd⟩:=rdK I g
 refine wpAny_in_of (gM ry) hd dd.mapOf ?_
 rw [<- (rel.val k).isSome_eq]
 exact h _ (I.tok _)
theorem Bw {Q:Value->Shared->Prop}(I:Inv X pins U H s) (g:RdK X.w H a kvs) (ry:au (kV k) u) (h:∀ s',Inv X pins U H s'->Q (.bool (!(bw kvs k).isSome)) s'):wpAny (model X.prog X.w) A (compareOp .NotIn u (.ref a)) Q E s:=by
 obtain ⟨z,hd,vs,rel,dd⟩:=rdK I g
 refine wpAny_notIn_of (gM ry) hd dd.mapOf ?_
 rw [<- (rel.val k).isSome_eq]
 exact h _ (I.tok _)
def gO (p d:Addr):HO:=.ext λh=>h.get? p=some { cls:=.type "dict_items",data:=.fields #[.ref d] }
def D8 (w:World):V->List V->Hp->VK->Prop:=λx xs H Q=>∃ d kvs,x=.ref d/\xs=[]/\H d=some (.dK kvs)/\∀ p,H p=none->Q (.ref p) (upd H p (gO p d))
theorem zH:MtR X "dict.items" (D8 X.w):=by
 rintro pins s U H x xs v us Q I rx rs ⟨d,kvs,ex,exs,ed,q⟩
 subst ex exs
 cases rs
 cases (show v=Value.ref d from rx)
 obtain ⟨z,hd,vs,rel,dd⟩:=i8 I.hok ed
 refine call_meetsIn PySem.F.slot_dict_items dd.typeIs PySem.F.entry_dict_items (PySem.F.args_dict_items_1 _) (meets_dict_items (ba X.prog X.w) d hd) ⟨⟨vs,dd⟩,?_⟩
 refine ⟨.ref s.heap.objs.size,_,I.laid (o:=gO s.heap.objs.size d) (t':=s.toks) (λb u e=>Heap.get?_push_of_some _ e) (Nat.le_refl _) ⟨Heap.get?_push_size _ rfl,⟨_,Heap.get?_push_size _ rfl⟩,λh1 h2 p k=>k _ p⟩,rfl,q _ (I.hok.fresh (Nat.le_refl _))⟩
def ItP (w:World) (d:Addr) (od:Obj) (kvs:List (Key×V)):It :=
 ⟨λi H=>H d=some (fzH w d od kvs)/\i<kvs.length,λi H x H'=>∃ p kv,kvs[i]?=some kv/\H p=none/\x=.ref p/\H'=upd H p (.tup [kV kv.1,kv.2]),λi H=>H d=some (fzH w d od kvs)/\kvs.length<=i⟩
theorem xC {P:Program}{w:World}{K:PySem.W.Frag}{L4:List Expr}{x1:Nat}{Lf:Pos}{vs:List (Key×Value)}{ep:Nat}(d it:Addr) (od:Obj) (kvs:List (Key×V)) (rel:KV kvs vs) (NQ:d≠it) (hod:∀ h:Heap,h.get? d=some od->h.DictAt (ba P w) d vs ep) :
  Turn P w K (.Tuple L4 x1 Lf) (ItP w d od kvs) [it] it (λi h=>∃ ok ov,IsItemIter h it d i vs.length ep ok ov) where
 mem:=by simp
 obj:=λi h st b hb=>by
  obtain rfl:b=it:=by simpa using hb
  obtain ⟨ok,ov,e⟩:=st
  exact ⟨_,e,λv z=>by cases z⟩
 keep:=λi h h' zz51 k=>by obtain ⟨ok,ov,e⟩:=zz51;exact ⟨ok,ov,k it (by simp) _ e⟩
 item:=by
  rintro X hP hw hK hc i pins s U H E I hf ⟨ok,ov,st⟩ ⟨hg,hi⟩
  subst hP hw hK
  have hl:i<vs.length:=by rw [<- rel.length];exact hi
  obtain ⟨⟨k,x⟩,hx⟩:∃ p,vs[i]?=some p:=⟨vs[i],by simp [hl]⟩
  obtain ⟨f0,f1,f2,f3,f4,f5⟩:=hf it (by simp)
  refine wpAny_pyNext_items_item st (hod _ (gN I hg).1) hx λL5 h' QP OS ht hsz sb=>?_
  refine ⟨_,rfl,wpAny_letOwnedTupleGo_items OS λh2 QK Qz=>?_⟩
  have hit:it<s.heap.objs.size:=Heap.lt_size st
  obtain ⟨kv,e1,e2,e3⟩:∃ kv,kvs[i]?=some kv/\kv.1=k/\au kv.2 x:=by
   obtain ⟨kv,z1,z2⟩:=jq rel hx
   exact ⟨kv,z1,z2.1,z2.2⟩
  have ht2:h2.get? s.heap.objs.size=some { cls:=.type "tuple",data:=.seq #[L5,x] }:=(Qz.2 _ (Nat.ne_of_gt hit)).trans ht
  have Im:Inv X pins U (upd H s.heap.objs.size (.tup [kV kv.1,kv.2])) { s with heap:=s.heap.push { cls:=.type "tuple",data:=.seq #[L5,x] },toks:=s.toks } :=
   I.laid (t':=s.toks) (λb u e=>Heap.get?_push_of_some _ e) (Nat.le_refl _) ⟨by show 2<=sizeLine;decide,[L5,x],.cons (by rw [e2];exact tD QP) (.cons e3 .nil),⟨_,Heap.get?_push_size _ rfl,rfl,_,rfl⟩⟩
  have I2:Inv X pins U (upd H s.heap.objs.size (.tup [kV kv.1,kv.2])) { s with heap:=h2 }:=by
   refine Im.turned (t':=s.toks) (λb o hb e=>?_) (by rw [ao (Nat.ne_of_lt hit)];exact f0) f1 f3 f4 f5
   by_cases hbs:b=s.heap.objs.size
   ·subst hbs
    rw [show ({ s with heap:=s.heap.push { cls:=.type "tuple",data:=.seq #[L5,x] },toks:=s.toks }:Shared).heap.get? s.heap.objs.size=some { cls:=.type "tuple",data:=.seq #[L5,x] } from Heap.get?_push_size _ rfl] at e
    cases e;exact ht2
   ·exact (Qz.2 b hb).trans (sb b o hb (by rw [<- Heap.get?_push_ne _ _ _ hbs];exact e))
  refine ⟨.ref s.heap.objs.size,_,I2,rfl,⟨s.heap.objs.size,kv,e1,I.hok.fresh (Nat.le_refl _),rfl,rfl⟩,⟨_,_,QK⟩,λb hb=>?_⟩
  obtain rfl:b=it:=by simpa using hb
  rw [ao (Nat.ne_of_lt hit)];exact f0
 done:=by
  rintro X hP hw hK hc i pins s U H E I hf ⟨ok,ov,st⟩ ⟨hg,hi⟩
  subst hP hw hK
  obtain ⟨f0,f1,f2,f3,f4,f5⟩:=hf it (by simp)
  refine wpAny_pyNext_items_end (I.ok.hd hc) st (hod _ (gN I hg).1) (List.getElem?_eq_none (by rw [<- rel.length];exact hi)) λh' eb=>⟨rfl,I.turned (t':=s.toks) (λb o hb e=>eb b o hb e) f0 f1 f3 f4 f5⟩
 self:=λA i s Q E zz52 h=>by obtain ⟨ok,ov,st⟩:=zz52;exact PySem.W.kcp_self st h
def tiP (w:World) (te:TE):TI:=λU H R=>te U H λx H1=>∃ p d kvs,x=.ref p/\H1 p=some (gO p d)/\H1 d=some (.dK kvs)/\∀ od,R (ItP w d od kvs) (upd H1 d (fzH w d od kvs))
theorem zI {e:Expr}{te:TE}{L4:List Expr}{x1:Nat}{Lf:Pos}(he:PE X e te):PI X (.Tuple L4 x1 Lf) e (tiP X.w te):=by
 intro pins s U H R I h
 refine thn (he pins s U H _ I h) λv s1 zz53=>?_
 obtain ⟨x,H1,I1,r1,p,d,kvs,ex,ep,ed,hR⟩:=zz53
 subst ex
 cases (show v=Value.ref p from r1)
 have hv:s1.heap.get? p=some { cls:=.type "dict_items",data:=.fields #[.ref d] }:=(I1.hok p _ ep).1
 obtain ⟨od,I2⟩:=I1.toFz ed
 obtain ⟨ho,⟨z,dz⟩,hd⟩:=gN I2 aF
 obtain ⟨vs,rel,es,ep',q1,q2,q3,q4,q5⟩:=dz X.prog
 have at_:∀ h:Heap,h.get? d=some od->h.DictAt (ba X.prog X.w) d vs ep':=λh e=>⟨od,es,e,q1,q2,q3,q4,q5⟩
 refine wpAny_pyIter_items ⟨_,hv,rfl,rfl⟩ (at_ _ ho) ?_
 have P9:d<s1.heap.objs.size:=Heap.lt_size ho
 have I3:Inv X pins U (upd H1 d (fzH X.w d od kvs)) { s1 with heap:=s1.heap.push { cls:=.type "dict_itemiterator",data:=.fields #[.none,.bool false,.ref d,.int 0 0,.int vs.length 0,.int ep' 0,.none,.none] } }:=I2.kept (t':=s1.toks) λb u e=>Heap.get?_push_of_some _ e
 refine ⟨s1.heap.objs.size,[s1.heap.objs.size],_,_,_,rfl,I3,xC d _ od kvs rel (Nat.ne_of_lt P9) at_,⟨.none,.none,Heap.get?_push_size _ rfl⟩,λb hb=>?_,hR od⟩
 obtain rfl:b=s1.heap.objs.size:=by simpa using hb
 exact I2.fpOk (Nat.le_refl _) (I2.hok.fresh (Nat.le_refl _))
theorem PE.unf {e:Expr}{t:TE}(h:PE X e t):PE X e (λU H Q=>t U H λv H'=>∃ d od kvs,H' d=some (fzH X.w d od kvs)/\Q v (upd H' d (.dK kvs))):=λpins s U H Q I q =>
 thn (h pins s U H _ I q) λu s' zz54=>by obtain ⟨v,H',I',r,d,od,kvs,e,q'⟩:=zz54;exact ⟨v,_,I'.ofFz e,r,q'⟩
end
end L2
namespace T2
open PySem L2
inductive T where
 |non|bl (b:Bool)|int (i:Int)|str (x:Str)|tup (ts:List T)|lst (ts:List T)|scr (ns:List Int)|ref (a:Addr)|ty (n:String)
inductive O where
 |lst (ts:List T)|dK (kvs:List (Key×T))|dT (kvs:List (List Key×T))|ins (C:Addr) (fs:List (Str×T))
  |fK (w:World) (od:Obj) (vs:List (Key×V)) (kvs:List (Key×T))
  |exc (C:Addr) (fs:List (Str×T))
  |exg (C:Addr) (r:Option Int)
def d8 (C t0:Addr) (dx:Option Addr):Obj:={ cls:=.ref C,dict:=dx,data:=.fields #[.ref t0,.none,.none,.none,.bool false,.none] }
def xH (C a:Addr) (dx:Option Addr):HO:=.ext λh=>∃ t0,h.get? a=some (d8 C t0 dx)
def _root_.L2.xG (C a:Addr) (dx:Option Addr):HO:=.ext λh=>∃ ob,h.get? a=some ob/\ob.cls=.ref C/\ob.dict=dx/\∃ vs,ob.data=.fields vs
abbrev Sto:=Addr->Option O
noncomputable def put (S:Sto) (a:Addr) (o:O):Sto:=λb=>if b=a then some o else S b
theorem aA {S:Sto}{a:Addr}{o:O}:put S a o a=some o:=by unfold put;rw [if_pos rfl]
theorem av {S:Sto}{a b:Addr}{o:O}(h:b≠a):put S a o b=S b:=by unfold put;rw [if_neg h]
theorem dB {S:Sto}{a:Addr}{o u:O}:put (put S a o) a u=put S a u:=by
 funext b;unfold put;split<;>rfl
abbrev Fg:=PySem.W.Frag
def Scr (K:Fg) (H:Hp) (S:Sto) (p:Addr) (ns:List Int):Prop:=(S p=none/\∃ o,H p=some (.frz o (.lst (ns.map V.int))))\/SqL K (λ_=>none) p (ns.map V.int)
mutual
inductive Rp (K:Fg) (H:Hp) (S:Sto):T->V->Prop
 |non:Rp K H S .non .non
 |bl {b}:Rp K H S (.bl b) (.bl b)
 |int {i}:Rp K H S (.int i) (.int i)
 |str {x}:Rp K H S (.str x) (.str x)
 |ty {n}:Rp K H S (.ty n) (.ty n)
 |ref {a}:Rp K H S (.ref a) (.ref a)
 |tup {p ts vs}:S p=none->H p=some (.tup vs)->Rps K H S ts vs->Rp K H S (.tup ts) (.ref p)
 |lst {p ts vs}:S p=none->H p=some (.lst vs)->Rps K H S ts vs->Rp K H S (.lst ts) (.ref p)
 |scr {p ns}:Scr K H S p ns->Rp K H S (.scr ns) (.ref p)
inductive Rps (K:Fg) (H:Hp) (S:Sto):List T->List V->Prop
 |nil:Rps K H S [] []
 |cons {t v ts vs}:Rp K H S t v->Rps K H S ts vs->Rps K H S (t::ts) (v::vs)
end
def Fr (H:Hp) (S:Sto) (H':Hp) (S':Sto):Prop:=∀ a o,H a=some o->S a=none->H' a=some o/\S' a=none
theorem Fr.refl {H S}:Fr H S H S:=λ_ _ h n=>⟨h,n⟩
theorem Fr.trans {H S H1 S1 H2 S2}(f:Fr H S H1 S1) (g:Fr H1 S1 H2 S2):Fr H S H2 S2:=λa o h n=>by
 obtain ⟨h1,n1⟩:=f a o h n
 exact g a o h1 n1
section
variable {K:Fg}{H H':Hp}{S S':Sto}
theorem Scr.fr {p ns}(h:Scr K H S p ns) (f:Fr H S H' S'):Scr K H' S' p ns:=by
 rcases h with ⟨n,o,e⟩|h
 ·obtain ⟨e',n'⟩:=f p _ e n
  exact .inl ⟨n',o,e'⟩
 ·exact .inr h
theorem Scr.sq {p ns}(h:Scr K H S p ns):SqL K H p (ns.map V.int):=by
 rcases h with ⟨_,o,e⟩|h
 ·exact .inl (.inr ⟨o,e⟩)
 ·rcases h with (h|⟨o,h⟩)|h
  ·cases h
  ·cases h
  ·exact .inr h
mutual
theorem Rp.fr (f:Fr H S H' S'):∀ {t v},Rp K H S t v->Rp K H' S' t v
 |_,_,.non=>.non
 |_,_,.bl=>.bl
 |_,_,.int=>.int
 |_,_,.str=>.str
 |_,_,.ty=>.ty
 |_,_,.ref=>.ref
 |_,_,.tup n h r=>.tup (f _ _ h n).2 (f _ _ h n).1 (Rps.fr f r)
 |_,_,.lst n h r=>.lst (f _ _ h n).2 (f _ _ h n).1 (Rps.fr f r)
 |_,_,.scr h=>.scr (h.fr f)
theorem Rps.fr (f:Fr H S H' S'):∀ {ts vs},Rps K H S ts vs->Rps K H' S' ts vs
 |_,_,.nil=>.nil
 |_,_,.cons a b=>.cons (Rp.fr f a) (Rps.fr f b)
end
theorem Rps.length:∀ {ts vs},Rps K H S ts vs->vs.length=ts.length
 |_,_,.nil=>rfl
 |_,_,.cons _ b=>by simp [Rps.length b]
theorem Rps.append:∀ {ts vs us ws},Rps K H S ts vs->Rps K H S us ws->Rps K H S (ts++us) (vs++ws)
 |_,_,_,_,.nil,r=>r
 |_,_,_,_,.cons a b,r=>.cons a (Rps.append b r)
theorem Rps.drop:∀ {ts vs}(n:Nat),Rps K H S ts vs->Rps K H S (ts.drop n) (vs.drop n)
 |_,_,0,r=>r
 |_,_,_+1,.nil=>.nil
 |_,_,n+1,.cons _ b=>Rps.drop n b
theorem Rps.take:∀ {ts vs}(n:Nat),Rps K H S ts vs->Rps K H S (ts.take n) (vs.take n)
 |_,_,0,_=>.nil
 |_,_,_+1,.nil=>.nil
 |_,_,n+1,.cons a b=>.cons a (Rps.take n b)
theorem Rps.set {t v}(r:Rp K H S t v):∀ {ts vs}(i:Nat),Rps K H S ts vs->Rps K H S (ts.set i t) (vs.set i v)
 |_,_,_,.nil=>.nil
 |_,_,0,.cons _ b=>.cons r b
 |_,_,i+1,.cons a b=>.cons a (Rps.set r i b)
theorem Rps.get:∀ {ts vs}{i:Nat}{t},Rps K H S ts vs->ts[i]?=some t->∃ v,vs[i]?=some v/\Rp K H S t v
 |_,_,_,_,.nil,e=>by simp at e
 |_,_,0,_,.cons a _,e=>by simp at e;subst e;exact ⟨_,rfl,a⟩
 |_,_,i+1,_,.cons _ b,e=>by
  obtain ⟨v,h1,h2⟩:=Rps.get (i:=i) b (by simpa using e)
  exact ⟨v,by simpa using h1,h2⟩
theorem Rps.getV:∀ {ts vs}{i:Nat}{v},Rps K H S ts vs->vs[i]?=some v->∃ t,ts[i]?=some t/\Rp K H S t v
 |_,_,_,_,.nil,e=>by simp at e
 |_,_,0,_,.cons a _,e=>by simp at e;subst e;exact ⟨_,rfl,a⟩
 |_,_,i+1,_,.cons _ b,e=>by
  obtain ⟨v,h1,h2⟩:=Rps.getV (i:=i) b (by simpa using e)
  exact ⟨v,by simpa using h1,h2⟩
theorem Rps.ints {ns:List Int}:Rps K H S (ns.map T.int) (ns.map V.int):=by
 induction ns with
 |nil=>exact .nil
 |cons a l ih=>exact .cons .int ih
theorem Rps.strs {ns:List Str}:Rps K H S (ns.map T.str) (ns.map V.str):=by
 induction ns with
 |nil=>exact .nil
 |cons a l ih=>exact .cons .str ih
end
inductive ORp (K:Fg) (H:Hp) (S:Sto) (a:Addr):O->Prop
 |lst {ts vs}:H a=some (.lst vs)->Rps K H S ts vs->ORp K H S a (.lst ts)
 |dK {kvs kts}:H a=some (.dK kvs)->Paired (λ(p:Key×T) (q:Key×V)=>p.1=q.1/\Rp K H S p.2 q.2) kts kvs->ORp K H S a (.dK kts)
 |dT {kvs kts}:H a=some (.dT kvs)->Paired (λ(p:List Key×T) (q:List Key×V)=>p.1=q.1/\Rp K H S p.2 q.2) kts kvs->ORp K H S a (.dT kts)
 |fK {w od kvs kts}:H a=some (fzH w a od kvs)->Paired (λ(p:Key×T) (q:Key×V)=>p.1=q.1/\Rp K H S p.2 q.2) kts kvs->ORp K H S a (.fK w od kvs kts)
 |ins {C dx fs fts}:H a=some (.ins C dx fs)->Paired (λ(p:Str×T) (q:Str×V)=>p.1=q.1/\Rp K H S p.2 q.2) fts fs->ORp K H S a (.ins C fts)
 |exc0 {C}:H a=some (xH C a none)->ORp K H S a (.exc C [])
 |exc {C dx fs fts}:fts≠[]->H a=some (xH C a (some dx))->S dx=none->H dx=some (.xd fs)->Paired (λ(p:Str×T) (q:Str×V)=>p.1=q.1/\Rp K H S p.2 q.2) fts fs->ORp K H S a (.exc C fts)
 |exg0 {C}:H a=some (xG C a none)->ORp K H S a (.exg C none)
 |exg {C dx r}:H a=some (xG C a (some dx))->S dx=none->H dx=some (.xd [("row",.int r)])->ORp K H S a (.exg C (some r))
section
variable {K:Fg}{H:Hp}{S:Sto}{v:V}{a:Addr}
theorem Rp.iint {i:Int}(r:Rp K H S (.int i) v):v=.int i:=by cases r;rfl
end
def SRp (K:Fg) (H:Hp) (S:Sto):Prop:=∀ a o,S a=some o->ORp K H S a o
section
variable {K:Fg}{H H':Hp}{S S':Sto}{a:Addr}{o:O}
theorem ORp.some (r:ORp K H S a o):∃ u,H a=some u:=by cases r<;>exact ⟨_,‹H a=some _›⟩
theorem SRp.fresh (s:SRp K H S) (h:H a=none):S a=none:=by
 cases e:S a with
 |none=>rfl
 |some o=>obtain ⟨u,q⟩:=(s a o e).some;rw [h] at q;cases q
theorem ORp.fr (r:ORp K H S a o) (f:Fr H S H' S') (h:H' a=H a):ORp K H' S' a o:=by
 cases r with
 |lst e q=>exact .lst (h.trans e) (q.fr f)
 |dK e q=>exact .dK (h.trans e) (Paired.mapP q λ_ _ z=>⟨z.1,z.2.fr f⟩)
 |dT e q=>exact .dT (h.trans e) (Paired.mapP q λ_ _ z=>⟨z.1,z.2.fr f⟩)
 |fK e q=>exact .fK (h.trans e) (Paired.mapP q λ_ _ z=>⟨z.1,z.2.fr f⟩)
 |ins e q=>exact .ins (h.trans e) (Paired.mapP q λ_ _ z=>⟨z.1,z.2.fr f⟩)
 |exc0 e=>exact .exc0 (h.trans e)
 |exc ne e n ed q=>exact .exc ne (h.trans e) (f _ _ ed n).2 (f _ _ ed n).1 (Paired.mapP q λ_ _ z=>⟨z.1,z.2.fr f⟩)
 |exg0 e=>exact .exg0 (h.trans e)
 |exg e n ed=>exact .exg (h.trans e) (f _ _ ed n).2 (f _ _ ed n).1
theorem Fr.new {p:Addr}{u:HO}(h:H p=none):Fr H S (upd H p u) S:=λa o e n=>⟨by rw [ao (bt e h)];exact e,n⟩
theorem SRp.new {p:Addr}{u:HO}(s:SRp K H S) (h:H p=none):SRp K (upd H p u) S:=λa o e=>by
 obtain ⟨x,hx⟩:=(s a o e).some
 exact (s a o e).fr (Fr.new h) (ao (bt hx h))
theorem Fr.newT {p:Addr}{u:HO}{o:O}(h:H p=none):Fr H S (upd H p u) (put S p o):=λa _ e n =>
 ⟨by rw [ao (bt e h)];exact e,by rw [av (bt e h)];exact n⟩
theorem SRp.newT {p:Addr}{u:HO}{o:O}(s:SRp K H S) (h:H p=none) (n:ORp K (upd H p u) (put S p o) p o):SRp K (upd H p u) (put S p o):=λa o' e=>by
 by_cases ha:a=p
 ·subst ha;rw [aA] at e;cases e;exact n
 ·rw [av ha] at e
  exact (s a o' e).fr (Fr.newT h) (ao ha)
theorem Fr.write {p:Addr}{u:HO}{o:O}(h:S p≠none):Fr H S (upd H p u) (put S p o):=λa _ e n =>
 have ne:a≠p:=λz=>by subst z;exact h n
 ⟨by rw [ao ne];exact e,by rw [av ne];exact n⟩
theorem SRp.write {p:Addr}{u:HO}{o:O}(s:SRp K H S) (h:S p≠none) (n:ORp K (upd H p u) (put S p o) p o):SRp K (upd H p u) (put S p o):=λa o' e=>by
 by_cases ha:a=p
 ·subst ha;rw [aA] at e;cases e;exact n
 ·rw [av ha] at e
  exact (s a o' e).fr (Fr.write h) (ao ha)
def Le (S0 S:Sto):Prop:=∀ a o,S0 a=some o->S a=some o
theorem Le.refl {S}:Le S S:=λ_ _ h=>h
theorem Le.none {S0 S:Sto}(l:Le S0 S){a:Addr}(h:S a=none):S0 a=none:=by
 cases e:S0 a with
 |none=>rfl
 |some o=>rw [l a o e] at h;cases h
theorem Fr.le {S0:Sto}(l:Le S0 S):Fr H S H S0:=λ_ _ h n=>⟨h,l.none n⟩
theorem SRp.le {S0:Sto}(s:SRp K H S) (l:Le S0 S):SRp K H S0:=λa o e=>(s a o (l a o e)).fr (Fr.le l) rfl
end
abbrev StT:=List (Option T)
abbrev WE:=StT->Sto->(T->Sto->Prop)->Prop
abbrev WT:=StT->Sto->(Bool->Sto->Prop)->Prop
abbrev WA:=StT->Sto->(List T->Sto->Prop)->Prop
structure EndsT where
 nx:StT->Sto->Prop
 rt:T->Sto->Prop
 bk:StT->Sto->Prop:=λ_ _=>False
 ct:StT->Sto->Prop:=λ_ _=>False
abbrev WS:=EndsT->StT->Sto->Prop
def Cov (K:Fg) (H:Hp) (S:Sto) (U:St) (J6:StT):Prop:=J6.length=U.length/\∀ (i:Nat) (t:T),J6[i]?=some (some t)->∃ v:V,U[i]?=some (some v)/\Rp K H S t v
theorem Cov.fr {K H S H' S' U J6}(c:Cov K H S U J6) (f:Fr H S H' S'):Cov K H' S' U J6:=⟨c.1,λi t e=>by
 obtain ⟨v,h,r⟩:=c.2 i t e
 exact ⟨v,h,r.fr f⟩⟩
theorem Cov.set {K H S U J6 t v}(c:Cov K H S U J6) (r:Rp K H S t v) (i:Nat):Cov K H S (U.set i (some v)) (J6.set i (some t)):=by
 refine ⟨by simp [c.1],λj u e=>?_⟩
 by_cases h:i=j
 ·subst h
  by_cases hl:i<J6.length
  ·rw [List.getElem?_set_self hl] at e
   cases e
   exact ⟨v,List.getElem?_set_self (by rw [<- c.1];exact hl),r⟩
  ·rw [List.getElem?_eq_none (by simp;omega)] at e;cases e
 ·rw [List.getElem?_set_ne h] at e ⊢
  exact c.2 j u e
abbrev Bh (K:Fg) (H:Hp) (S:Sto) (Qt:T->Sto->Prop) (Q:VK):Prop:=∀ v H' t S',Fr H S H' S'->SRp K H' S'->Rp K H' S' t v->Qt t S'->Q v H'
def lE (K:Fg) (w:WE):TE:=λU H Q=>∃ S J6 Qt,SRp K H S/\Cov K H S U J6/\w J6 S Qt/\Bh K H S Qt Q
def lT (K:Fg) (w:WT):TT:=λU H Q=>∃ S J6 Qt,SRp K H S/\Cov K H S U J6/\w J6 S Qt/\∀ b H' S',Fr H S H' S'->SRp K H' S'->Qt b S'->Q b H'
def lA (K:Fg) (w:WA):TA:=λU H Q=>∃ S J6 Qt,SRp K H S/\Cov K H S U J6/\w J6 S Qt/\∀ vs H' ts S',Fr H S H' S'->SRp K H' S'->Rps K H' S' ts vs->Qt ts S'->Q vs H'
structure EndsOk (K:Fg) (H:Hp) (S:Sto) (Dt:EndsT) (D:Ends):Prop where
 nx:∀ J7 H' Kd S',Fr H S H' S'->SRp K H' S'->Cov K H' S' J7 Kd->Dt.nx Kd S'->D.nx J7 H'
 rt:∀ v H' t S',Fr H S H' S'->SRp K H' S'->Rp K H' S' t v->Dt.rt t S'->D.rt v H'
 bk:∀ J7 H' Kd S',Fr H S H' S'->SRp K H' S'->Cov K H' S' J7 Kd->Dt.bk Kd S'->D.bk J7 H'
 ct:∀ J7 H' Kd S',Fr H S H' S'->SRp K H' S'->Cov K H' S' J7 Kd->Dt.ct Kd S'->D.ct J7 H'
theorem EndsOk.fr {K H S H' S' Dt D}(e:EndsOk K H S Dt D) (f:Fr H S H' S'):EndsOk K H' S' Dt D :=
 ⟨λJ7 H2 Kd S2 g=>e.nx J7 H2 Kd S2 (f.trans g),λv H2 t S2 g=>e.rt v H2 t S2 (f.trans g),λJ7 H2 Kd S2 g=>e.bk J7 H2 Kd S2 (f.trans g),λJ7 H2 Kd S2 g=>e.ct J7 H2 Kd S2 (f.trans g)⟩
def lS (K:Fg) (w:WS):TS:=λD U H=>∃ S J6 Dt,SRp K H S/\Cov K H S U J6/\w Dt J6 S/\EndsOk K H S Dt D
def QE (K:Fg) (X:Cx) (e:Expr) (w:WE):Prop:=PE X e (lE K w)
def QT (K:Fg) (X:Cx) (e:Expr) (w:WT):Prop:=PT X e (lT K w)
def QW (K:Fg) (X:Cx) (e:Expr) (w:WT):Prop:=PW X e (lT K w)
def QA (K:Fg) (X:Cx) (es:List Expr) (w:WA):Prop:=PA X es (lA K w)
def QS (K:Fg) (X:Cx) (st:Stmt) (w:WS):Prop:=PS X st (lS K w)
def QSs (K:Fg) (X:Cx) (st:List Stmt) (w:WS):Prop:=PSs X st (lS K w)
theorem PE.of {X:Cx}{e:Expr}{t t':TE}(h:PE X e t) (i:∀ U H Q,t' U H Q->t U H Q):PE X e t':=λpins s U H Q I q=>h pins s U H Q I (i U H Q q)
theorem PT.of {X:Cx}{e:Expr}{t t':TT}(h:PT X e t) (i:∀ U H Q,t' U H Q->t U H Q):PT X e t':=λpins s U H Q I q=>h pins s U H Q I (i U H Q q)
theorem PW.of {X:Cx}{e:Expr}{t t':TT}(h:PW X e t) (i:∀ U H Q,t' U H Q->t U H Q):PW X e t':=λwh pins s U H Q I q=>h wh pins s U H Q I (i U H Q q)
theorem PA.of {X:Cx}{e:List Expr}{t t':TA}(h:PA X e t) (i:∀ U H Q,t' U H Q->t U H Q):PA X e t':=λp pins s U H Q I q=>h p pins s U H Q I (i U H Q q)
theorem PS.of {X:Cx}{e:Stmt}{t t':TS}(h:PS X e t) (i:∀ D U H,t' D U H->t D U H):PS X e t':=λpins s U H D I q=>h pins s U H D I (i D U H q)
theorem PSs.of {X:Cx}{e:List Stmt}{t t':TS}(h:PSs X e t) (i:∀ D U H,t' D U H->t D U H):PSs X e t':=λpins s U H D I q=>h pins s U H D I (i D U H q)
section
variable {K:Fg}{X:Cx}{a b c e:Expr}{wa wb wc:WE}{pos:Pos}
def wV (i:Nat):WE:=λU S Q=>∃ t,U[i]?=some (some t)/\Q t S
def wC (t:T):WE:=λ_ S Q=>Q t S
theorem GZ {i:Nat}{x:Str}(h:PE X (.Name x pos) (uL i)):QE K X (.Name x pos) (wV i):=PE.of h λU H Q zz55=>by
 obtain ⟨S,J6,Qt,s,c,⟨t,e,q⟩,hq⟩:=zz55
 obtain ⟨v,e2,r⟩:=c.2 i t e
 exact ⟨v,e2,hq v H t S .refl s r q⟩
theorem ae {i j}:QE K X (.Constant (.int i) j pos) (wC (.int i)):=PE.of Dk λU H Q zz56=>by obtain ⟨S,J6,Qt,s,c,q,hq⟩:=zz56;exact hq _ H _ S .refl s .int q
theorem fH {i j}:QE K X (.Constant (.bool i) j pos) (wC (.bl i)):=PE.of Gv λU H Q zz57=>by obtain ⟨S,J6,Qt,s,c,q,hq⟩:=zz57;exact hq _ H _ S .refl s .bl q
theorem dZ {j}:QE K X (.Constant .none j pos) (wC .non):=PE.of Dl λU H Q zz58=>by obtain ⟨S,J6,Qt,s,c,q,hq⟩:=zz58;exact hq _ H _ S .refl s .non q
theorem aw {x j}:QE K X (.Constant (.str x) j pos) (wC (.str x)):=PE.of rJ λU H Q zz59=>by obtain ⟨S,J6,Qt,s,c,q,hq⟩:=zz59;exact hq _ H _ S .refl s .str q
theorem mO {x:Str}{t:T}{v:V}(h:PE X (.Name x pos) (tC v)) (r:∀ H S,Rp K H S t v):QE K X (.Name x pos) (wC t):=PE.of h λU H Q zz60=>by obtain ⟨S,J6,Qt,s,c,q,hq⟩:=zz60;exact hq _ H _ S .refl s (r _ _) q
abbrev G2:=T->T->Sto->(T->Sto->Prop)->Prop
def l2 (K:Fg) (g:G2):R2:=λx y H Q=>∃ S tx ty Qt,SRp K H S/\Rp K H S tx x/\Rp K H S ty y/\g tx ty S Qt/\Bh K H S Qt Q
def w2 (g:G2) (wa wb:WE):WE:=λU S Q=>wa U S λx S1=>wb U S1 λy S2=>g x y S2 Q
theorem i9 {g:G2}{U H Q}(h:lE K (w2 g wa wb) U H Q):tOp (l2 K g) (lE K wa) (lE K wb) U H Q:=by
 obtain ⟨S,J6,Qt,s,c,q,hq⟩:=h
 refine ⟨S,J6,_,s,c,q,λx H1 tx S1 f1 s1 r1 q1=>?_⟩
 refine ⟨S1,J6,_,s1,c.fr f1,q1,λy H2 ty S2 f2 s2 r2 q2=>?_⟩
 exact ⟨S2,tx,ty,Qt,s2,r1.fr f2,r2,q2,λv H' t S' f=>hq v H' t S' ((f1.trans f2).trans f)⟩
theorem aB {op:Operator}{g:G2}(ho:OpR X (binaryOp op) (l2 K g)) (ha:QE K X a wa) (hb:QE K X b wb):QE K X (.BinOp a op b pos) (w2 g wa wb):=PE.of (GH ho ha hb) λ_ _ _ h=>i9 h
theorem d3 {op:CmpOp}{g:G2}(ho:OpR X (compareOp op) (l2 K g)) (ha:QE K X a wa) (hb:QE K X b wb) (hm:behindInMarks op b=false:=by exact L2.mH _):QE K X (.Compare a [op] [b] pos) (w2 g wa wb):=PE.of (A4 ho ha hb hm) λ_ _ _ h=>i9 h
def wB (w:WE):WT:=λU S Q=>w U S λx S1=>∃ k,x=.bl k/\Q k S1
theorem G0 {w:WE}{U H Q}(h:lT K (wB w) U H Q):nj (lE K w) U H Q:=by
 obtain ⟨S,J6,Qt,s,c,q,hq⟩:=h
 refine ⟨S,J6,_,s,c,q,λx H1 tx S1 f1 s1 r1 q1=>?_⟩
 obtain ⟨k,rfl,q1⟩:=q1
 cases r1
 exact ⟨k,rfl,hq k H1 S1 f1 s1 q1⟩
theorem bo {op:CmpOp}{g:G2}(ho:OpR X (compareOp op) (l2 K g)) (ha:QE K X a wa) (hb:QE K X b wb) (hm:behindInMarks op b=false:=by exact L2.mH _):QT K X (.Compare a [op] [b] pos) (wB (w2 g wa wb)) :=
 PT.of (A5 ho ha hb hm) λU H Q h=>by
  obtain ⟨S,J6,Qt,s,c,q,hq⟩:=h
  exact i9 ⟨S,J6,_,s,c,q,λv H' t S' f s' r zz61=>by obtain ⟨k,e,q'⟩:=zz61;exact by subst e;cases r;exact ⟨k,rfl,hq k H' S' f s' q'⟩⟩
def iM (g g':G2) (wa wb wc:WE):WE:=λU S Q=>wa U S λx S1=>wb U S1 λy S2=>g x y S2 λz S3=>∃ k,z=.bl k/\if k=true then wc U S3 λu S4=>g' y u S4 Q else Q (.bl false) S3
theorem pE {g g':G2}{U H Q}(h:lE K (iM g g' wa wb wc) U H Q):mI (l2 K g) (l2 K g') (lE K wa) (lE K wb) (lE K wc) U H Q:=by
 obtain ⟨S,J6,Qt,s,c,q,hq⟩:=h
 refine ⟨S,J6,_,s,c,q,λx H1 tx S1 f1 s1 r1 q1=>?_⟩
 refine ⟨S1,J6,_,s1,c.fr f1,q1,λy H2 ty S2 f2 s2 r2 q2=>?_⟩
 refine ⟨S2,tx,ty,_,s2,r1.fr f2,r2,q2,λz H3 tz S3 f3 s3 r3 q3=>?_⟩
 obtain ⟨k,rfl,q3⟩:=q3
 cases r3
 refine ⟨k,rfl,?_⟩
 cases k with
 |false=>exact hq _ _ _ _ ((f1.trans f2).trans f3) s3 .bl q3
 |true =>
  refine ⟨S3,J6,_,s3,c.fr ((f1.trans f2).trans f3),q3,λu H4 tu S4 f4 s4 r4 q4=>?_⟩
  exact ⟨S4,ty,tu,Qt,s4,(r2.fr f3).fr f4,r4,q4,λv H' t S' f=>hq v H' t S' ((((f1.trans f2).trans f3).trans f4).trans f)⟩
theorem l7 {op OA:CmpOp}{g g':G2}(ho:OpR X (compareOp op) (l2 K g)) (Oz:OpR X (compareOp OA) (l2 K g')) (ha:QE K X a wa) (hb:QE K X b wb) (hc:QE K X c wc) (hm:lastMarks [op,OA] [b,c]=false:=by with_unfolding_all rfl) :
  QE K X (.Compare a [op,OA] [b,c] pos) (iM g g' wa wb wc):=PE.of (zi ho Oz ha hb hc hm) λ_ _ _ h=>pE h
theorem io {op OA:CmpOp}{g g':G2}(ho:OpR X (compareOp op) (l2 K g)) (Oz:OpR X (compareOp OA) (l2 K g')) (ha:QE K X a wa) (hb:QE K X b wb) (hc:QE K X c wc) (hm:lastMarks [op,OA] [b,c]=false:=by with_unfolding_all rfl) :
  QT K X (.Compare a [op,OA] [b,c] pos) (wB (iM g g' wa wb wc)):=PT.of (zj ho Oz ha hb hc hm) λU H Q h=>by
  obtain ⟨S,J6,Qt,s,c,q,hq⟩:=h
  exact pE ⟨S,J6,_,s,c,q,λv H' t S' f s' r zz62=>by obtain ⟨k,e,q'⟩:=zz62;exact by subst e;cases r;exact ⟨k,rfl,hq k H' S' f s' q'⟩⟩
theorem bj (h:QE K X e wa) (he:∀ whole,isTrue e X.env whole=(do let v <- whole;standAt e.pos;holding [v] (truthy v)):=by intro _;rfl):QT K X e (wB wa):=PT.of (Dm h he) λ_ _ _ h=>G0 h
def uV (t u:WT):WT:=λU S Q=>t U S λc S1=>if c=true then u U S1 Q else Q false S1
def wOr (t u:WT):WT:=λU S Q=>t U S λc S1=>if c=true then Q true S1 else u U S1 Q
def uW (t:WT):WT:=λU S Q=>t U S λc S1=>Q (!c) S1
variable {ta tb:WT}{rest:List Expr}
theorem dD (ha:QT K X a ta):QW K X (.BoolOp .And [a] pos) ta:=AW ha
theorem d4 (ha:QT K X a ta):QW K X (.BoolOp .Or [a] pos) ta:=Do ha
theorem dE (ha:QT K X a ta) (hb:QW K X (.BoolOp .And (b::rest) pos) tb):QW K X (.BoolOp .And (a::b::rest) pos) (uV ta tb):=PW.of (Dp ha hb) λU H Q zz63=>by
 obtain ⟨S,J6,Qt,s,c,q,hq⟩:=zz63
 refine ⟨S,J6,_,s,c,q,λk H1 S1 f1 s1 q1=>?_⟩
 cases k with
 |true=>exact ⟨S1,J6,_,s1,c.fr f1,q1,λb H' S' f=>hq b H' S' (f1.trans f)⟩
 |false=>exact hq false H1 S1 f1 s1 q1
theorem d9 (ha:QT K X a ta) (hb:QW K X (.BoolOp .Or (b::rest) pos) tb):QW K X (.BoolOp .Or (a::b::rest) pos) (wOr ta tb):=PW.of (Gw ha hb) λU H Q zz64=>by
 obtain ⟨S,J6,Qt,s,c,q,hq⟩:=zz64
 refine ⟨S,J6,_,s,c,q,λk H1 S1 f1 s1 q1=>?_⟩
 cases k with
 |false=>exact ⟨S1,J6,_,s1,c.fr f1,q1,λb H' S' f=>hq b H' S' (f1.trans f)⟩
 |true=>exact hq true H1 S1 f1 s1 q1
theorem bY (h:QW K X e ta):QT K X e ta:=h _
theorem bx (ha:QT K X a ta):QT K X (.UnaryOp .Not a pos) (uW ta):=PT.of (Dq ha) λU H Q zz65=>by obtain ⟨S,J6,Qt,s,c,q,hq⟩:=zz65;exact ⟨S,J6,_,s,c,q,λk H1 S1 f1 s1 q1=>hq _ H1 S1 f1 s1 q1⟩
def tE (wa wb:WE):WE:=λU S Q=>wa U S λx S1=>∃ k,x=.bl k/\if k=true then wb U S1 Q else Q (.bl false) S1
def uX (wa wb:WE):WE:=λU S Q=>wa U S λx S1=>∃ k,x=.bl k/\if k=true then Q (.bl true) S1 else wb U S1 Q
def tF (wa:WE):WE:=λU S Q=>wa U S λx S1=>∃ k,x=.bl k/\Q (.bl (!k)) S1
theorem gP {op}(h:QE K X a wa):QE K X (.BoolOp op [a] pos) wa:=Ds h
theorem iN (ha:QE K X a wa) (hb:QE K X (.BoolOp .And (b::rest) pos) wb):QE K X (.BoolOp .And (a::b::rest) pos) (tE wa wb):=PE.of (Du ha hb) λU H Q zz66=>by
 obtain ⟨S,J6,Qt,s,c,q,hq⟩:=zz66
 refine ⟨S,J6,_,s,c,q,λx H1 tx S1 f1 s1 r1 q1=>?_⟩
 obtain ⟨k,rfl,q1⟩:=q1
 cases r1
 refine ⟨k,rfl,?_⟩
 cases k with
 |true=>exact ⟨S1,J6,_,s1,c.fr f1,q1,λv H' t S' f=>hq v H' t S' (f1.trans f)⟩
 |false=>exact hq _ H1 _ S1 f1 s1 .bl q1
theorem G5 (ha:QE K X a wa) (hb:QE K X (.BoolOp .Or (b::rest) pos) wb):QE K X (.BoolOp .Or (a::b::rest) pos) (uX wa wb):=PE.of (Gz ha hb) λU H Q zz67=>by
 obtain ⟨S,J6,Qt,s,c,q,hq⟩:=zz67
 refine ⟨S,J6,_,s,c,q,λx H1 tx S1 f1 s1 r1 q1=>?_⟩
 obtain ⟨k,rfl,q1⟩:=q1
 cases r1
 refine ⟨k,rfl,?_⟩
 cases k with
 |false=>exact ⟨S1,J6,_,s1,c.fr f1,q1,λv H' t S' f=>hq v H' t S' (f1.trans f)⟩
 |true=>exact hq _ H1 _ S1 f1 s1 .bl q1
theorem mP (ha:QE K X a wa):QE K X (.UnaryOp .Not a pos) (tF wa):=PE.of (Dv ha) λU H Q zz68=>by
 obtain ⟨S,J6,Qt,s,c,q,hq⟩:=zz68
 refine ⟨S,J6,_,s,c,q,λx H1 tx S1 f1 s1 r1 q1=>?_⟩
 obtain ⟨k,rfl,q1⟩:=q1
 cases r1
 exact ⟨k,rfl,hq _ H1 _ S1 f1 s1 .bl q1⟩
def wIf (t:WT) (wa wb:WE):WE:=λU S Q=>t U S λc S1=>if c=true then wa U S1 Q else wb U S1 Q
theorem ja {c:Expr}(hc:QT K X c ta) (ha:QE K X a wa) (hb:QE K X b wb):QE K X (.IfExp c a b pos) (wIf ta wa wb):=PE.of (zc hc ha hb) λU H Q zz69=>by
 obtain ⟨S,J6,Qt,s,c,q,hq⟩:=zz69
 refine ⟨S,J6,_,s,c,q,λk H1 S1 f1 s1 q1=>?_⟩
 cases k with
 |true=>exact ⟨S1,J6,_,s1,c.fr f1,q1,λv H' t S' f=>hq v H' t S' (f1.trans f)⟩
 |false=>exact ⟨S1,J6,_,s1,c.fr f1,q1,λv H' t S' f=>hq v H' t S' (f1.trans f)⟩
def dM:WA:=λ_ S Q=>Q [] S
def tG (wa:WE) (wr:WA):WA:=λU S Q=>wa U S λx S1=>wr U S1 λxs S2=>Q (x::xs) S2
variable {es:List Expr}{wr:WA}
theorem af:QA K X [] dM:=PA.of mJ λU H Q zz70=>by obtain ⟨S,J6,Qt,s,c,q,hq⟩:=zz70;exact hq [] H [] S .refl s .nil q
theorem ac (ha:QE K X e wa) (hr:QA K X es wr) (hs:starEach (e::es) X.env=(false,eval e X.env)::starEach es X.env:=by exact L2.Bn rfl):QA K X (e::es) (tG wa wr):=PA.of (lW ha hr hs) λU H Q zz71=>by
 obtain ⟨S,J6,Qt,s,c,q,hq⟩:=zz71
 refine ⟨S,J6,_,s,c,q,λx H1 tx S1 f1 s1 r1 q1=>?_⟩
 exact ⟨S1,J6,_,s1,c.fr f1,q1,λvs H2 ts S2 f2 s2 r2 q2=>hq _ H2 _ S2 (f1.trans f2) s2 (.cons (r1.fr f2) r2) q2⟩
def uY (wr:WA):WE:=λU S Q=>wr U S λts S1=>ts.length<=sizeLine/\Q (.tup ts) S1
theorem bX {x1}(h:QA K X es wr):QE K X (.Tuple es x1 pos) (uY wr):=PE.of (DM h) λU H Q zz72=>by
 obtain ⟨S,J6,Qt,s,c,q,hq⟩:=zz72
 refine ⟨S,J6,_,s,c,q,λvs H1 ts S1 f1 s1 r1 q1=>?_⟩
 refine ⟨by rw [r1.length];exact q1.1,λp hp=>hq _ _ (.tup ts) S1 (f1.trans (Fr.new hp)) (s1.new hp) (.tup (s1.fresh hp) aF (r1.fr (Fr.new hp))) q1.2⟩
def uZ (wr:WA):WE:=λU S Q=>wr U S λts S1=>ts.length<=sizeLine/\Q (.lst ts) S1
def tH (wr:WA):WE:=λU S Q=>wr U S λts S1=>ts.length<=sizeLine/\∀ p,S1 p=none->Q (.ref p) (put S1 p (.lst ts))
theorem cA (h:QA K X es wr):QE K X (.List es pos) (uZ wr):=PE.of (rL h) λU H Q zz73=>by
 obtain ⟨S,J6,Qt,s,c,q,hq⟩:=zz73
 refine ⟨S,J6,_,s,c,q,λvs H1 ts S1 f1 s1 r1 q1=>?_⟩
 refine ⟨by rw [r1.length];exact q1.1,λp hp=>hq _ _ (.lst ts) S1 (f1.trans (Fr.new hp)) (s1.new hp) (.lst (s1.fresh hp) aF (r1.fr (Fr.new hp))) q1.2⟩
theorem rQ (h:QA K X es wr):QE K X (.List es pos) (tH wr):=PE.of (rL h) λU H Q zz74=>by
 obtain ⟨S,J6,Qt,s,c,q,hq⟩:=zz74
 refine ⟨S,J6,_,s,c,q,λvs H1 ts S1 f1 s1 r1 q1=>?_⟩
 refine ⟨by rw [r1.length];exact q1.1,λp hp=>hq _ _ (.ref p) _ (f1.trans (Fr.newT hp)) (s1.newT hp (.lst aF (r1.fr (Fr.newT hp)))) .ref (q1.2 p (s1.fresh hp))⟩
end
section
variable {K:Fg}{X:Cx}{e:Expr}{we:WE}{st:Stmt}{rest:List Stmt}{w u:WS}{pos:Pos}
def tI:WS:=λD U S=>D.nx U S
def n5 (w u:WS):WS:=λD U S=>w { D with nx:=u D } U S
theorem ay:QSs K X [] tI:=PSs.of AX λD U H zz75=>by obtain ⟨S,J6,Dt,s,c,q,he⟩:=zz75;exact he.nx U H J6 S .refl s c q
theorem ak (h1:QS K X st w) (h2:QSs K X rest u):QSs K X (st::rest) (n5 w u):=PSs.of (zd h1 h2) λD U H ⟨S,J6,Dt,s,c,q,he⟩ =>
 ⟨S,J6,{ Dt with nx:=u Dt },s,c,q,⟨λ_ _ Kd S' f s' c' q'=>⟨S',Kd,Dt,s',c',q',he.fr f⟩,he.rt,he.bk,he.ct⟩⟩
theorem am (h1:QS K X st w):QSs K X [st] w:=AY h1
def tJ (we:WE):WS:=λD U S=>we U S λ_ S1=>D.nx U S1
theorem eY (he:QE K X e we) (hs:swapsWith e none pos.line X.env=pure false:=by rfl):QS K X (.Expr e pos) (tJ we):=PS.of (AZ he hs) λD U H ⟨S,J6,Dt,s,c,q,he⟩ =>
 ⟨S,J6,_,s,c,q,λ_ H1 _ S1 f1 s1 _ q1=>he.nx U H1 J6 S1 f1 s1 (c.fr f1) q1⟩
def u0 (we:WE):WS:=λD U S=>we U S D.rt
theorem aG (he:QE K X e we):QS K X (.Return (some e) pos) (u0 we):=PS.of (Dw he) λD U H zz76=>by obtain ⟨S,J6,Dt,s,c,q,he⟩:=zz76;exact ⟨S,J6,_,s,c,q,he.rt⟩
def u5 (t:WT) (w u:WS):WS:=λD U S=>t U S λb S1=>if b=true then w D U S1 else u D U S1
theorem ax {c:Expr}{a b:List Stmt}{t:WT}(hc:QT K X c t) (ha:QSs K X a w) (hb:QSs K X b u):QS K X (.If c a b pos) (u5 t w u):=PS.of (GD hc ha hb) λD U H zz77=>by
 obtain ⟨S,J6,Dt,s,c,q,he⟩:=zz77
 refine ⟨S,J6,_,s,c,q,λk H1 S1 f1 s1 q1=>?_⟩
 cases k with
 |true=>exact ⟨S1,J6,Dt,s1,c.fr f1,q1,he.fr f1⟩
 |false=>exact ⟨S1,J6,Dt,s1,c.fr f1,q1,he.fr f1⟩
def rR:WS:=λ_ _ _=>False
theorem bT:QS K X st rR:=λ_ _ _ _ _ _ zz78=>by obtain ⟨_,_,_,_,_,q,_⟩:=zz78;exact q.elim
theorem aO {Q1:List Stmt}:QSs K X Q1 rR:=λ_ _ _ _ _ _ zz79=>by obtain ⟨_,_,_,_,_,q,_⟩:=zz79;exact q.elim
abbrev WG:=T->StT->Sto->(StT->Sto->Prop)->Prop
abbrev WGs:=List T->StT->Sto->(StT->Sto->Prop)->Prop
def lG (K:Fg) (g:WG):TG:=λv U H Q=>∃ S t J6 Qt,SRp K H S/\Rp K H S t v/\Cov K H S U J6/\g t J6 S Qt/\∀ J7 H' Kd S',Fr H S H' S'->SRp K H' S'->Cov K H' S' J7 Kd->Qt Kd S'->Q J7 H'
def lGs (K:Fg) (g:WGs):TGs:=λvs U H Q=>∃ S ts J6 Qt,SRp K H S/\Rps K H S ts vs/\Cov K H S U J6/\g ts J6 S Qt/\∀ J7 H' Kd S',Fr H S H' S'->SRp K H' S'->Cov K H' S' J7 Kd->Qt Kd S'->Q J7 H'
def QG (K:Fg) (X:Cx) (tg:Expr) (g:WG):Prop:=PG X tg (lG K g)
def QGs (K:Fg) (X:Cx) (tg:List Expr) (g:WGs):Prop:=PGs X tg (lGs K g)
theorem PG.of {X:Cx}{e:Expr}{t t':TG}(h:PG X e t) (i:∀ v U H Q,t' v U H Q->t v U H Q):PG X e t':=λpins s U H v u Q I r q=>h pins s U H v u Q I r (i v U H Q q)
theorem PGs.of {X:Cx}{e:List Expr}{t t':TGs}(h:PGs X e t) (i:∀ v U H Q,t' v U H Q->t v U H Q):PGs X e t':=λpins s U H v u Q I r q=>h pins s U H v u Q I r (i v U H Q q)
def wgN (i:Nat):WG:=λt U S Q=>Q (U.set i (some t)) S
theorem Bx {i:Nat}{x:Str}(h:PG X (.Name x pos) (i4 i)):QG K X (.Name x pos) (wgN i):=PG.of h λv U H Q zz80=>by obtain ⟨S,t,J6,Qt,s,r,c,q,hq⟩:=zz80;exact hq _ H _ S .refl s (c.set r i) q
def tK:WGs:=λts U S Q=>ts=[]/\Q U S
def rS (g:WG) (h:WGs):WGs:=λts U S Q=>∃ t r,ts=t::r/\g t U S λJ7 S'=>h r J7 S' Q
variable {tg:Expr}{tgs:List Expr}{g:WG}{gs:WGs}
theorem eP:QGs K X [] tK:=PGs.of A1 λv U H Q zz81=>by
 obtain ⟨S,t,J6,Qt,s,r,c,⟨e,q⟩,hq⟩:=zz81
 subst e;cases r
 exact ⟨rfl,hq _ H _ S .refl s c q⟩
theorem cr (h1:QG K X tg g) (h2:QGs K X tgs gs) (h:∀ {t u},PG X tg t->PGs X tgs u->PGs X (tg::tgs) (tj t u)):QGs K X (tg::tgs) (rS g gs):=PGs.of (h h1 h2) λv U H Q zz82=>by
 obtain ⟨S,t,J6,Qt,s,r,c,⟨y,ys,e,q⟩,hq⟩:=zz82
 subst e
 cases r with
 |cons r rs =>
  refine ⟨_,_,rfl,S,y,J6,_,s,r,c,q,λJ7 H' Kd S' f s' c' q'=>?_⟩
  exact ⟨S',ys,Kd,Qt,s',rs.fr f,c',q',λKO H2 LQ S2 f2=>hq KO H2 LQ S2 (f.trans f2)⟩
def tL (n:Nat) (g:WGs):WG:=λt U S Q=>∃ ts,t=.tup ts/\ts.length=n/\g ts U S Q
theorem eZ {es:List Expr}{k n:Nat}(h:∀ {t},PGs X es t->PG X (.Tuple es k pos) (n3 K n t)) (h1:QGs K X es gs):QG K X (.Tuple es k pos) (tL n gs):=PG.of (h h1) λv U H Q zz83=>by
 obtain ⟨S,t,J6,Qt,s,r,c,⟨ts,e,l,q⟩,hq⟩:=zz83
 subst e
 cases r with
 |tup n' hp rs=>exact ⟨_,_,rfl,SqT.of hp,by rw [rs.length];exact l,S,ts,J6,Qt,s,rs,c,q,hq⟩
def eg (we:WE) (g:WG):WS:=λD U S=>we U S λt S1=>g t U S1 D.nx
theorem By {D U H}(h:lS K (eg we g) D U H):fF (lE K we) (lG K g) D U H:=by
 obtain ⟨S,J6,Dt,s,c,q,he⟩:=h
 refine ⟨S,J6,_,s,c,q,λv H1 t S1 f1 s1 r1 q1=>?_⟩
 exact ⟨S1,t,J6,_,s1,r1,c.fr f1,q1,λJ7 H' Kd S' f=>he.nx J7 H' Kd S' (f1.trans f)⟩
theorem G6 (h:∀ {t g},PE X e t->PG X tg g->PS X (.Assign [tg] e pos) (fF t g)) (he:QE K X e we) (hg:QG K X tg g):QS K X (.Assign [tg] e pos) (eg we g):=PS.of (h he hg) λ_ _ _ h=>By h
theorem G7 {i:Nat}{x:Str}{KA:Pos}(hN:X.N.Nodup) (hi:X.N[i]?=some x) (hx:Loc X.env.scope x) (he:QE K X e we) (hs:swapsWith e (some (.Name x KA)) pos.line X.env=pure false:=by rfl)
  (hf:X.fn x=true\/X.env.scope.names.lookup x=some .local:=by first|exact .inl rfl|exact .inr rfl|assumption):QS K X (.Assign [.Name x KA] e pos) (eg we (wgN i)):=PS.of (DA hN hi hx he hs hf) λD U H h=>by
 obtain ⟨S,J6,Dt,s,c,q,he⟩:=h
 exact ⟨S,J6,_,s,c,q,λv H1 t S1 f1 s1 r1 q1=>he.nx _ H1 _ S1 f1 s1 ((c.fr f1).set r1 i) q1⟩
end
end T2
namespace T2
open PySem PySem.Spec PyProof.Rows L2
abbrev WSp:=List T->Sto->(T->Sto->Prop)->Prop
def lSp (K:Fg) (w:WSp):Sp:=λvs H Q _=>∃ S ts Qt,SRp K H S/\Rps K H S ts vs/\w ts S Qt/\Bh K H S Qt Q
noncomputable def b0 (N:List Str) (ts:List T):StT:=ts.map some++List.replicate (N.length - ts.length) none
theorem kZ {K:Fg}{H:Hp}{S:Sto}{N:List Str}{ts:List T}{vs:List V}(r:Rps K H S ts vs):Cov K H S (L2.b7 N vs) (b0 N ts):=by
 have l:=r.length
 refine ⟨by unfold L2.b7 b0;simp [l],λi t e=>?_⟩
 unfold b0 at e
 by_cases hi:i<ts.length
 ·rw [List.getElem?_append_left (by simpa using hi),List.getElem?_map] at e
  cases q:ts[i]? with
  |none=>rw [q] at e;cases e
  |some a =>
   rw [q] at e;cases e
   obtain ⟨v,hv,rv⟩:=r.get q
   refine ⟨v,?_,rv⟩
   unfold L2.b7
   rw [List.getElem?_append_left (by simp;omega),List.getElem?_map,hv];rfl
 ·rw [List.getElem?_append_right (by simpa using hi),List.getElem?_replicate] at e
  split at e<;>cases e
def Fin (Q:T->Sto->Prop) (t:T) (S:Sto):Prop:=(∃ S0,Le S0 S/\Q t S0)\/∃ p ts S0,t=.ref p/\S p=some (.lst ts)/\Le S0 S/\S0 p=none/\Q (.lst ts) S0
theorem Fin.mk {Q:T->Sto->Prop}{t:T}{S:Sto}(h:Q t S):Fin Q t S:=.inl ⟨S,.refl,h⟩
theorem Fin.le {Q:T->Sto->Prop}{t:T}{S S0:Sto}(l:Le S0 S) (h:Q t S0):Fin Q t S:=.inl ⟨S0,l,h⟩
theorem Fin.ends {K:Fg}{H H':Hp}{S S':Sto}{Qt:T->Sto->Prop}{Q:VK}(b:Bh K H S Qt Q){v:V}{t:T}(f:Fr H S H' S') (s:SRp K H' S') (r:Rp K H' S' t v) (q:Fin Qt t S'):Q v H':=by
 rcases q with ⟨S0,l,q⟩|⟨p,ts,S0,rfl,e,l,n,q⟩
 ·exact b v H' t S0 (f.trans (Fr.le l)) (s.le l) (r.fr (Fr.le l)) q
 ·cases r
  cases s p _ e with
  |lst hp rs=>exact b _ H' (.lst ts) S0 (f.trans (Fr.le l)) (s.le l) (.lst n hp (rs.fr (Fr.le l))) q
section
variable {P:Program}{w:World}{K:Fg}{mg:Str->Option Value}{base:Heap}
theorem D9 {x qual:Str}{st:Stmt}{f:Addr}{fd:FuncData}{N ps:List Str}{k:Nat}{Ka:WSp}(F:Fun K x qual st f fd) (Sc:FnScope N ps (aj st)) (len:∀ ts S Q,Ka ts S Q->ts.length=ps.length)
  (Lg:∀ (cdv:Value) (A:Around) (outer:List Env) (s:Shared) (H:Hp) (E:XK),Room k (A.deeper (envOfC qual (aj st) s.heap.objs.size f cdv)) ->
   ∃ u,QSs K (cK CX0 P w K mg base N qual (aj st) f cdv A outer s H E).nox (bO st) u/\∀ ts S Q,Ka ts S Q->u { nx:=λ_ S'=>Fin Q .non S',rt:=Fin Q } (b0 N ts) S):FnOk P w K mg base CX0 (k+1) f fd ps (lSp K Ka):=by
 refine Fun.ok F Sc (λvs H Q E ⟨S,ts,Qt,s,r,q,_⟩=>by rw [r.length];exact len _ _ _ q) λcdv A outer s H vs Q E hr ⟨S,ts,Qt,sr,r,q,b⟩=>?_
 obtain ⟨u,hu,hq⟩:=Lg cdv A outer s H E hr
 refine ⟨_,hu,S,b0 N ts,_,sr,kZ r,hq ts S Qt q,⟨λ_ H' _ S' f s' _ q'=>Fin.ends b f s' .non q',λv H' t S' f s' r' q'=>Fin.ends b f s' r' q',λ_ _ _ _ _ _ _ q'=>q'.elim,λ_ _ _ _ _ _ _ q'=>q'.elim⟩⟩
end
section
variable {K:Fg}{X:Cx}{k:Nat}{f C:Addr}{fd:FuncData}{ps:List Str}{Ka:WSp}{LF:List T}{dvs:List V}{ds:List Value}{x m:Str}{p pos apos:Pos}{e o:Expr}{es:List Expr}{wa:WE}{wr:WA}
def gQ (Ka:WSp) (LF:List T) (wr:WA):WE:=λU S Q=>wr U S λts S1=>Ka (ts++LF) S1 Q
theorem zJ {U H Q}(hd:∀ H S,Rps K H S LF dvs) (h:lE K (gQ Ka LF wr) U H Q):nu (lSp K Ka) dvs E0 (lA K wr) U H Q:=by
 obtain ⟨S,J6,Qt,s,c,q,hq⟩:=h
 refine ⟨S,J6,_,s,c,q,λvs H1 ts S1 f1 s1 r1 q1=>?_⟩
 exact ⟨S1,_,Qt,s1,r1.append (hd _ _),q1,λv H' t S' f=>hq v H' t S' (f1.trans f)⟩
theorem D' (hd:∀ H S,Rps K H S LF dvs) (hp:PE X e (nu (lSp K Ka) dvs E0 (lA K wr))):QE K X e (gQ Ka LF wr):=PE.of hp λ_ _ _ h=>zJ hd h
def d5 (G:Addr->Prop) (m:Str) (Ka:WSp) (LF:List T) (wa:WE) (wr:WA):WE:=λU S Q=>wa U S λx S1=>∃ a C fs,x=.ref a/\S1 a=some (.ins C fs)/\G C/\fs.lookup m=none/\wr U S1 λts S2=>Ka (x::(ts++LF)) S2 Q
end
theorem cF {K:Fg}{H:Hp}{S:Sto}{m:Str}:∀ {fts:List (Str×T)}{fs:List (Str×V)},Paired (λ(p:Str×T) (q:Str×V)=>p.1=q.1/\Rp K H S p.2 q.2) fts fs->fts.lookup m=none->fs.lookup m=none:=by
 intro kts kvs pr
 induction pr with
 |nil=>intro _;exact rfl
 |@cons p q2 l l' er t ih =>
  intro h
  obtain ⟨a,b⟩:=p;obtain ⟨c,d⟩:=q2;obtain ⟨e,r⟩:=er
  simp only at e;subst e
  rw [List.lookup_cons] at h ⊢
  by_cases z:(m==a)=true
  ·rw [z] at h;cases h
  ·simp only [Bool.not_eq_true] at z
   rw [z] at h ⊢
   exact ih h
theorem pF {K:Fg}{H:Hp}{S:Sto}{m:Str}{t:T}:∀ {fts:List (Str×T)}{fs:List (Str×V)},Paired (λ(p:Str×T) (q:Str×V)=>p.1=q.1/\Rp K H S p.2 q.2) fts fs->fts.lookup m=some t->∃ v,fs.lookup m=some v/\Rp K H S t v:=by
 intro kts kvs pr
 induction pr with
 |nil=>intro h;cases h
 |@cons p q2 l l' er ps ih =>
  intro h
  obtain ⟨a,b⟩:=p;obtain ⟨c,d⟩:=q2;obtain ⟨e,r⟩:=er
  simp only at e;subst e
  rw [List.lookup_cons] at h ⊢
  by_cases z:(m==a)=true
  ·rw [z] at h ⊢;cases h;exact ⟨d,rfl,r⟩
  ·simp only [Bool.not_eq_true] at z
   rw [z] at h ⊢
   exact ih h
noncomputable def bR (f:Str) (v:T):List (Str×T)->List (Str×T)
 |[]=>[(f,v)]
 |(g,u)::r=>if g=f then (g,v)::r else (g,u)::bR f v r
theorem xD {K:Fg}{H:Hp}{S:Sto}{f:Str}{t:T}{v:V}(r:Rp K H S t v):∀ {fts:List (Str×T)}{fs:List (Str×V)},Paired (λ(p:Str×T) (q:Str×V)=>p.1=q.1/\Rp K H S p.2 q.2) fts fs ->
  Paired (λ(p:Str×T) (q:Str×V)=>p.1=q.1/\Rp K H S p.2 q.2) (bR f t fts) (bv f v fs):=by
 intro kts kvs pr
 induction pr with
 |nil=>exact .cons ⟨rfl,r⟩ .nil
 |@cons p q2 l l' er ps ih =>
  obtain ⟨a,b⟩:=p;obtain ⟨c,d⟩:=q2;obtain ⟨e,q⟩:=er
  simp only at e;subst e
  unfold bR bv
  by_cases z:a=f
  ·rw [if_pos z,if_pos z];exact .cons ⟨rfl,r⟩ ps
  ·rw [if_neg z,if_neg z];exact .cons ⟨rfl,q⟩ (ih)
theorem Paired.len {α β:Type}{F:α->β->Prop}:∀ {l:List α}{l':List β},Paired F l l'->l'.length=l.length
 |_,_,.nil=>rfl
 |_,_,.cons _ t=>by simp [Paired.len t]
section
variable {K:Fg}{X:Cx}{CX:CXT}{k:Nat}{f:Addr}{fd:FuncData}{ps:List Str}{sp:Sp}{Ka:WSp}{LF:List T}{dvs:List V}{ds:List Value}{E:XK}{x m:Str}{p pos apos:Pos}{e o:Expr}{es:List Expr}{wa:WE}{wr:WA}{ta:TE}{t:TA}{G:Addr->Prop}
def e7 (G:Addr->Prop) (m:Str) (sp:Sp) (dvs:List V) (E:XK) (ta:TE) (t:TA):TE:=λU H Q=>ta U H λx H1=>∃ a C dx fs,x=.ref a/\H1 a=some (.ins C dx fs)/\G C/\fs.lookup m=none /\
 t U H1 λvs H2=>sp (x::(vs++dvs)) H2 Q E
theorem zK {pl:Sem Bool}(he:PE X o ta) (hG:∀ C,G C->Cls X.K C/\Meth X.K C m f) (F:FnOk X.prog X.w X.K X.mg X.base CX k f fd ps sp) (hr:Room k X.A) (hb:ap X.K fd ps ds) (hd:ag dvs ds) (hx:c7 CX X E) (ha:PA X (e::es) t)
  (Nb:starEach (e::es) X.env=(false,eval e X.env)::starEach es X.env:=by rfl) (KL:(backTo pos (starEach es X.env)).any (·.1)=false:=by rfl)
  (ht:eval (.Call (.Attribute o m apos) (e::es) [] pos) X.env=(do
   let ov <- eval o X.env
   standAt apos.atName
   let (f,first) <- holding [ov] (getMethod ov m pl)
   callWith pos f first (backTo pos (starEach (e::es) X.env)) (backToKw pos (keywordEach [] X.env))):=by rfl) :
  PE X (.Call (.Attribute o m apos) (e::es) [] pos) (e7 G m sp dvs E ta t):=by
 intro pins s U H Q I h
 refine PySem.W.methodCall_KW (pl:=pl) (thn (he pins s U H _ I h) λu s1 ⟨x,H1,I1,rx,a,C,dx,fs,ex,ea,g,l,q⟩=>?_) ht
 subst ex
 obtain rfl:u=Value.ref a:=rx
 obtain ⟨c,hm⟩:=hG C g
 refine fR I1 ea c hm l ?_
 refine PySem.W.callWith_K (first:=[.ref a]) (h₀:=X.base) I.ok.mod.kin hm.kp (thn (ha pos pins s1 U H1 _ I1 q) λus s2 ⟨vs,H2,I2,r,q2⟩=>⟨I2.kIn,?_⟩) Nb KL
 exact mK (us:=.ref a::us) (vs:=.ref a::vs) F hr hb hd hx I2 (.cons rfl r) q2
theorem yv {pl:Sem Bool}(he:PE X o ta) (hG:∀ C,G C->Cls X.K C/\Meth X.K C m f) (F:FnOk X.prog X.w X.K X.mg X.base CX k f fd ps sp) (hr:Room k X.A) (hb:ap X.K fd ps ds) (hd:ag dvs ds) (hx:c7 CX X E)
  (ht:eval (.Call (.Attribute o m apos) [] [] pos) X.env=(do
   let ov <- eval o X.env
   standAt apos.atName
   let (f,first) <- holding [ov] (getMethod ov m pl)
   callWith pos f first (backTo pos (starEach [] X.env)) (backToKw pos (keywordEach [] X.env))):=by rfl) :
  PE X (.Call (.Attribute o m apos) [] [] pos) (e7 G m sp dvs E ta dn):=by
 intro pins s U H Q I h
 refine PySem.W.methodCall_KW (pl:=pl) (thn (he pins s U H _ I h) λu s1 ⟨x,H1,I1,rx,a,C,dx,fs,ex,ea,g,l,q⟩=>?_) ht
 subst ex
 obtain rfl:u=Value.ref a:=rx
 obtain ⟨c,hm⟩:=hG C g
 refine fR I1 ea c hm l ?_
 exact PySem.W.callWith_K0 (first:=[.ref a]) I1.kIn hm.kp (mK (us:=[.ref a]) (vs:=[.ref a]) F hr hb hd hx I1 (.cons rfl .nil) q)
theorem zL {U H Q}(hd:∀ H S,Rps K H S LF dvs) (h:lE K (d5 G m Ka LF wa wr) U H Q):e7 G m (lSp K Ka) dvs E0 (lE K wa) (lA K wr) U H Q:=by
 obtain ⟨S,J6,Qt,s,c,q,hq⟩:=h
 refine ⟨S,J6,_,s,c,q,λx H1 tx S1 f1 s1 r1 q1=>?_⟩
 obtain ⟨a,C,fs,rfl,ea,g,l,q1⟩:=q1
 cases r1
 cases s1 a _ ea with
 |ins eh pr =>
  refine ⟨a,C,_,_,rfl,eh,g,cF pr l,S1,J6,_,s1,c.fr f1,q1,λvs H2 ts S2 f2 s2 r2 q2=>?_⟩
  exact ⟨S2,_,Qt,s2,.cons .ref (r2.append (hd _ _)),q2,λv H' t S' f=>hq v H' t S' ((f1.trans f2).trans f)⟩
theorem Ea (hd:∀ H S,Rps K H S LF dvs) (hp:PE X e (e7 G m (lSp K Ka) dvs E0 (lE K wa) (lA K wr))):QE K X e (d5 G m Ka LF wa wr):=PE.of hp λ_ _ _ h=>zL hd h
theorem yw {U H Q}(hd:∀ H S,Rps K H S LF dvs) (h:lE K (d5 G m Ka LF wa dM) U H Q):e7 G m (lSp K Ka) dvs E0 (lE K wa) dn U H Q:=by
 obtain ⟨S,J6,Qt,s,c,q,hq⟩:=h
 refine ⟨S,J6,_,s,c,q,λx H1 tx S1 f1 s1 r1 q1=>?_⟩
 obtain ⟨a,C,fs,rfl,ea,g,l,q1⟩:=q1
 cases r1
 cases s1 a _ ea with
 |ins eh pr =>
  refine ⟨a,C,_,_,rfl,eh,g,cF pr l,?_⟩
  exact ⟨S1,_,Qt,s1,.cons .ref (Rps.append .nil (hd _ _)),q1,λv H' t S' f=>hq v H' t S' (f1.trans f)⟩
theorem Bz (hd:∀ H S,Rps K H S LF dvs) (hp:PE X e (e7 G m (lSp K Ka) dvs E0 (lE K wa) dn)):QE K X e (d5 G m Ka LF wa dM):=PE.of hp λ_ _ _ h=>yw hd h
def gR (C:Addr) (Ka:WSp) (LF:List T) (wr:WA):WE:=λU S Q=>wr U S λts S1=>∀ x,S1 x=none->Ka (.ref x::(ts++LF)) (put S1 x (.ins C [])) (λt S2=>t=.non/\Q (.ref x) S2)
theorem l8 {H:Hp}{S:Sto}{C x dx:Addr}(hx:H x=none) (hd:H dx=none):Fr H S (upd (upd H dx (.own x)) x (.ins C dx [])) (put S x (.ins C [])):=λa o e n =>
 ⟨by rw [ao (bt e hx),ao (bt e hd)];exact e,by rw [av (bt e hx)];exact n⟩
theorem zM {H:Hp}{S:Sto}{C x dx:Addr}(s:SRp K H S) (hx:H x=none) (hd:H dx=none):SRp K (upd (upd H dx (.own x)) x (.ins C dx [])) (put S x (.ins C [])):=λa o e=>by
 by_cases ha:a=x
 ·subst ha;rw [aA] at e;cases e;exact .ins aF .nil
 ·rw [av ha] at e
  obtain ⟨u,hu⟩:=(s a o e).some
  exact (s a o e).fr (l8 hx hd) (by rw [ao ha,ao (bt hu hd)])
theorem qH {C:Addr}{S:Sto}{H:Hp}{ts:List T}{vs:List V}{Qt:T->Sto->Prop}{Q:VK}(hd:∀ H S,Rps K H S LF dvs) (s:SRp K H S) (r:Rps K H S ts vs) (b:Bh K H S Qt Q)
  (q:∀ x,S x=none->Ka (.ref x::(ts++LF)) (put S x (.ins C [])) (λt S2=>t=.non/\Qt (.ref x) S2)) (x dx:Addr) (hx:H x=none) (Q2:H dx=none) :
  lSp K Ka (.ref x::(vs++dvs)) (upd (upd H dx (.own x)) x (.ins C dx [])) (λv H2=>v=.non/\Q (.ref x) H2) E0:=by
 refine ⟨_,_,_,zM s hx Q2,.cons .ref ((r.fr (l8 hx Q2)).append (hd _ _)),q x (s.fresh hx),λv H' t S' f s' r' q'=>?_⟩
 obtain ⟨rfl,q'⟩:=q'
 cases r'
 exact ⟨rfl,b _ H' _ S' ((l8 hx Q2).trans f) s' .ref q'⟩
theorem Eb {C:Addr}(hd:∀ H S,Rps K H S LF dvs) (hp:PE X e (i6 C (lSp K Ka) dvs E0 (lA K wr))):QE K X e (gR C Ka LF wr):=PE.of hp λU H Q zz84=>by
 obtain ⟨S,J6,Qt,s,c,q,hq⟩:=zz84
 refine ⟨S,J6,_,s,c,q,λvs H1 ts S1 f1 s1 r1 q1 x dx hx Q2 _=>?_⟩
 exact qH hd s1 r1 (λv H' t S' f=>hq v H' t S' (f1.trans f)) q1 x dx hx Q2
theorem BA {C:Addr}(hd:∀ H S,Rps K H S LF dvs) (hp:PE X e (i6 C (lSp K Ka) dvs E0 dn)):QE K X e (gR C Ka LF dM):=PE.of hp λU H Q ⟨S,J6,Qt,s,c,q,hq⟩=>λx dx hx Q2 _ =>
 qH hd s .nil hq q x dx hx Q2
def jr (G:Addr->Prop) (wa:WE) (f:Str):WE:=λU S Q=>wa U S λx S1=>∃ a C fs v,x=.ref a/\S1 a=some (.ins C fs)/\G C/\fs.lookup f=some v/\Q v S1
theorem G8 {f:Str}(hK:X.K=K) (hG:∀ C,G C->Cls K C/\aC K C f) (he:QE K X o wa) (hb:attributeBase o f X.env (eval o X.env)=eval o X.env):QE K X (.Attribute o f pos) (jr G wa f):=by
 subst hK
 refine PE.of (DK he hb) λU H Q zz85=>?_
 obtain ⟨S,J6,Qt,s,c,q,hq⟩:=zz85
 refine ⟨S,J6,_,s,c,q,λx H1 tx S1 f1 s1 r1 q1=>?_⟩
 obtain ⟨a,C,fs,v,rfl,ea,g,l,q1⟩:=q1
 cases r1
 cases s1 a _ ea with
 |ins eh pr =>
  obtain ⟨u,lu,ru⟩:=pF pr l
  exact ⟨a,C,_,_,u,rfl,eh,(hG C g).1,(hG C g).2,lu,hq u H1 v S1 f1 s1 ru q1⟩
def tM (G:Addr->Prop) (wa wv:WE) (f:Str):WS:=λD U S=>wv U S λy S1=>wa U S1 λx S2=>∃ a C fs,x=.ref a/\S2 a=some (.ins C fs)/\G C/\fs.length<1000/\D.nx U (put S2 a (.ins C (bR f y fs)))
theorem pG {H:Hp}{S:Sto}{a C dx:Addr}{fts:List (Str×T)}{fs:List (Str×V)}{f:Str}{t:T}{v:V}(s:SRp K H S) (ea:S a=some (.ins C fts)) (eh:H a=some (.ins C dx fs))
  (pr:Paired (λ(p:Str×T) (q:Str×V)=>p.1=q.1/\Rp K H S p.2 q.2) fts fs) (r:Rp K H S t v):Fr H S (upd H a (.ins C dx (bv f v fs))) (put S a (.ins C (bR f t fts)))/\SRp K (upd H a (.ins C dx (bv f v fs))) (put S a (.ins C (bR f t fts))):=by
 have hn:S a≠none:=by rw [ea];simp
 refine ⟨Fr.write hn,s.write hn (.ins aF ?_)⟩
 exact Paired.mapP (xD r pr) λ_ _ z=>⟨z.1,z.2.fr (Fr.write hn)⟩
theorem bV {f:Str}{wv:WE}{value:Expr}{KA:Pos}(hK:X.K=K) (hG:∀ C,G C->Cls K C/\aC K C f) (ha:QE K X o wa) (hv:QE K X value wv) (hs:swapsWith value (some (.Attribute o f KA)) pos.line X.env=pure false:=by rfl) :
  QS K X (.Assign [.Attribute o f KA] value pos) (tM G wa wv f):=by
 subst hK
 refine PS.of (DL ha hv hs) λD U H zz86=>?_
 obtain ⟨S,J6,Dt,s,c,q,he⟩:=zz86
 refine ⟨S,J6,_,s,c,q,λy H1 ty S1 f1 s1 r1 q1=>?_⟩
 refine ⟨S1,J6,_,s1,c.fr f1,q1,λx H2 tx S2 f2 s2 r2 q2=>?_⟩
 obtain ⟨a,C,fs,rfl,ea,g,l,q2⟩:=q2
 cases r2
 cases s2 a _ ea with
 |ins eh pr =>
  obtain ⟨fw,sw⟩:=pG (f:=f) s2 ea eh pr (r1.fr f2)
  exact ⟨a,C,_,_,rfl,eh,(hG C g).1,(hG C g).2,by rw [Paired.len pr];exact l,he.nx _ _ J6 _ ((f1.trans f2).trans fw) sw (c.fr ((f1.trans f2).trans fw)) q2⟩
end
noncomputable def aS (S:Sto):T->Option (List T)
 |.lst ts=>some ts
 |.scr ns=>some (ns.map T.int)
 |.ref a=>match S a with
  |some (.lst ts)=>some ts
  |_=>none
 |_=>none
theorem iO {S:Sto}{p:Addr}{ts:List T}(e:S p=some (.lst ts)):aS S (.ref p)=some ts:=by delta aS;dsimp only;rw [e]
noncomputable def cI (S:Sto):T->Option (List T)
 |.lst ts=>some ts
 |.ref a=>match S a with
  |some (.lst ts)=>some ts
  |_=>none
 |_=>none
theorem iD {K H S t v ts}(s:SRp K H S) (r:Rp K H S t v) (e:cI S t=some ts):∃ p vs,v=.ref p/\H p=some (.lst vs)/\Rps K H S ts vs:=by
 cases r with
 |lst n h q=>cases e;exact ⟨_,_,rfl,h,q⟩
 |ref =>
  rename_i a
  delta cI at e
  dsimp only at e
  cases q:S a with
  |none=>rw [q] at e;cases e
  |some o =>
   rw [q] at e
   cases o with
   |lst us=>cases e;cases s a _ q with
    |lst h rs=>exact ⟨a,_,rfl,h,rs⟩
   |_=>cases e
 |_=>cases e
theorem cw {K H S t v ts}(s:SRp K H S) (r:Rp K H S t v) (e:aS S t=some ts):∃ p vs,v=.ref p/\SqL K H p vs/\Rps K H S ts vs:=by
 cases r with
 |scr h=>cases e;exact ⟨_,_,rfl,h.sq,Rps.ints⟩
 |lst n h q=>cases e;exact ⟨_,_,rfl,SqL.of h,q⟩
 |ref =>
  obtain ⟨p,vs,e1,e2,e3⟩:=iD s (Rp.ref (K:=K) (H:=H) (S:=S)) (show cI S (.ref _)=some ts from e)
  exact ⟨p,vs,e1,SqL.of e2,e3⟩
 |_=>cases e
def bi (tr:Bool) (ts:List T) (S:Sto) (Q:T->Sto->Prop):Prop:=match tr with
 |false=>Q (.lst ts) S
 |true=>∀ p,S p=none->Q (.ref p) (put S p (.lst ts))
theorem e8 {K H S ts vs tr Qt}{Q:VK}(s:SRp K H S) (r:Rps K H S ts vs) (n:bi tr ts S Qt) (b:Bh K H S Qt Q):∀ p,H p=none->Q (.ref p) (upd H p (.lst vs)):=λp hp=>by
 cases tr with
 |false=>exact b _ _ (.lst ts) S (Fr.new hp) (s.new hp) (.lst (s.fresh hp) aF (r.fr (Fr.new hp))) n
 |true=>exact b _ _ (.ref p) _ (Fr.newT hp) (s.newT hp (.lst aF (r.fr (Fr.newT hp)))) .ref (n p (s.fresh hp))
section
variable {K:Fg}{X:Cx}
def gI (C:Int->Int->Prop) (f:Int->Int->T):G2:=λx y S Q=>match x,y with
 |.int i,.int j=>C i j/\Q (f i j) S
 |_,_=>False
theorem nB {f:Value->Value->Sem Value}{C:Int->Int->Prop}{g:Int->Int->Int}(h:OpR X f (rI C λi j=>.int (g i j))):OpR X f (l2 K (gI C λi j=>.int (g i j))):=by
 rintro pins s U H x y v u Q I rx ry ⟨S,tx,ty,Qt,sr,hx,hy,hg,b⟩
 cases hx<;>first|exact hg.elim|skip
 cases hy<;>first|exact hg.elim|skip
 exact h pins s U H _ _ v u Q I rx ry ⟨_,_,rfl,rfl,hg.1,b _ H _ S .refl sr .int hg.2⟩
theorem Ec {f:Value->Value->Sem Value}{g:Int->Int->Int}(h:OpR X f (rI0 λi j=>.int (g i j))):OpR X f (l2 K (gI (λ_ _=>True) λi j=>.int (g i j))):=by
 rintro pins s U H x y v u Q I rx ry ⟨S,tx,ty,Qt,sr,hx,hy,hg,b⟩
 cases hx<;>first|exact hg.elim|skip
 cases hy<;>first|exact hg.elim|skip
 exact h pins s U H _ _ v u Q I rx ry ⟨_,_,rfl,rfl,b _ H _ S .refl sr .int hg.2⟩
def d7:G2:=gI (λ_ _=>True) λi j=>.int (i - j)
def u6:G2:=gI (λ_ j=>0<j/\j<18446744073709551616) λi j=>.int (i / j)
def u8:G2:=gI (λ_ j=>0<j) λi j=>.int (i % j)
def u9:G2:=gI (λ_ j=>0<=j) λi j=>.int (i / 2 ^ j.toNat)
theorem G9:OpR X (binaryOp .Sub) (l2 K d7):=Ec DD
theorem nC:OpR X (binaryOp .FloorDiv) (l2 K u6):=nB zy
theorem cQ:OpR X (binaryOp .Mod) (l2 K u8):=nB DF
theorem G':OpR X (binaryOp .RShift) (l2 K u9):=nB DG
def js (tr:Bool):G2:=λx y S Q=>match x,y with
 |.int i,.int j=>Q (.int (i+j)) S
 |.str a,.str c=>a.length+c.length<=sizeLine/\Q (.str (a++c)) S
 |x,y=>∃ ts us,cI S x=some ts/\cI S y=some us/\ts.length+us.length<=sizeLine/\bi tr (ts++us) S Q
theorem bf (tr:Bool):OpR X (binaryOp .Add) (l2 K (js tr)):=by
 rintro pins s U H x y v u Q I rx ry ⟨S,tx,ty,Qt,sr,hx,hy,hg,b⟩
 have lists:(∃ ts us,cI S tx=some ts/\cI S ty=some us/\ts.length+us.length<=sizeLine/\bi tr (ts++us) S Qt)->wpAny (model X.prog X.w) X.A (binaryOp .Add v u) (EP X pins U Q) X.xe s:=by
  rintro ⟨ts,us,e1,e2,hz,n⟩
  obtain ⟨p,vs,rfl,h1,r1⟩:=iD sr hx e1
  obtain ⟨q,ws,rfl,h2,r2⟩:=iD sr hy e2
  exact DR pins s U H _ _ v u Q I rx ry ⟨p,q,vs,ws,rfl,rfl,h1,h2,by rw [r1.length,r2.length];exact hz,e8 sr (r1.append r2) n b⟩
 cases tx with
 |int i =>
  cases ty with
  |int j=>cases hx;cases hy;exact DC pins s U H _ _ v u Q I rx ry ⟨i,j,rfl,rfl,b _ H _ S .refl sr .int hg⟩
  |_=>exact lists hg
 |str a =>
  cases ty with
  |str c=>cases hx;cases hy;exact xx pins s U H _ _ v u Q I rx ry ⟨a,c,rfl,rfl,hg.1,b _ H _ S .refl sr .str hg.2⟩
  |_=>exact lists hg
 |_=>exact lists hg
def va (tr:Bool):G2:=λx y S Q=>match x,y with
 |.int i,.int j=>gZ i j/\Q (.int (i * j)) S
 |x,.int k=>∃ ts,cI S x=some ts /\ -(2 ^ 63)<=k/\k<2 ^ 63/\ts.length * k.toNat<=sizeLine/\bi tr (List.replicate k.toNat ts).flatten S Q
 |_,_=>False
theorem Rps.rep {H S ts vs}(r:Rps K H S ts vs):∀ n:Nat,Rps K H S (List.replicate n ts).flatten (List.replicate n vs).flatten
 |0=>.nil
 |n+1=>by simp only [List.replicate_succ,List.flatten_cons];exact r.append (Rps.rep r n)
theorem dF (tr:Bool):OpR X (binaryOp .Mult) (l2 K (va tr)):=by
 rintro pins s U H x y v u Q I rx ry ⟨S,tx,ty,Qt,sr,hx,hy,hg,b⟩
 have lists:∀ k,ty=.int k->(∃ ts,cI S tx=some ts /\ -(2 ^ 63)<=k/\k<2 ^ 63/\ts.length * k.toNat<=sizeLine/\bi tr (List.replicate k.toNat ts).flatten S Qt)->wpAny (model X.prog X.w) X.A (binaryOp .Mult v u) (EP X pins U Q) X.xe s:=by
  rintro k rfl ⟨ts,e1,k1,k2,hz,n⟩
  obtain ⟨p,vs,rfl,h1,r1⟩:=iD sr hx e1
  cases hy
  exact DS pins s U H _ _ v u Q I rx ry ⟨p,k,vs,rfl,rfl,h1,k1,k2,by rw [r1.length];exact hz,e8 sr (r1.rep _) n b⟩
 cases ty with
 |int k =>
  cases tx with
  |int i=>cases hx;cases hy;exact DE pins s U H _ _ v u Q I rx ry ⟨i,k,rfl,rfl,hg.1,b _ H _ S .refl sr .int hg.2⟩
  |_=>exact lists k rfl hg
 |_=>cases tx<;>exact hg.elim
mutual
noncomputable def cN:T->Option PyData
 |.non=>some .none
 |.bl b=>some (.bool b)
 |.int i=>some (.int i)
 |.str x=>some (.str x)
 |.tup ts=>(bF ts).map .tuple
 |.lst ts=>(bF ts).map .list
 |.scr ns=>some (.list (ns.map .int))
 |_=>none
noncomputable def bF:List T->Option (List PyData)
 |[]=>some []
 |t::ts=>match cN t,bF ts with
  |some d,some ds=>some (d::ds)
  |_,_=>none
end
noncomputable def dq (S:Sto) (t:T):Option PyData:=match t with
 |.ref a=>match S a with
  |some (.lst ts)=>(bF ts).map .list
  |_=>none
 |t=>cN t
theorem lv {ts:List T}:cN (.tup ts)=(bF ts).map .tuple:=rfl
theorem p7 {ts:List T}:cN (.lst ts)=(bF ts).map .list:=rfl
theorem qI {t:T}{ts:List T}:bF (t::ts)=(match cN t,bF ts with|some d,some ds=>some (d::ds)|_,_=>none):=rfl
theorem l9 {t:T}{ts:List T}{d:PyData}{ds:List PyData}(h1:cN t=some d) (h2:bF ts=some ds):bF (t::ts)=some (d::ds):=by rw [qI,h1,h2]
theorem BB {t:T}{ts:List T}{es:List PyData}(e:bF (t::ts)=some es):∃ d ds,cN t=some d/\bF ts=some ds/\es=d::ds:=by
 rw [qI] at e
 cases h1:cN t with
 |none=>rw [h1] at e;cases e
 |some d =>
  cases h2:bF ts with
  |none=>rw [h1,h2] at e;cases e
  |some dl=>rw [h1,h2] at e;cases e;exact ⟨d,dl,rfl,rfl,rfl⟩
theorem zN {H:Hp}{ns:List Int}:DatVs K H (ns.map V.int) (ns.map PyData.int):=by
 induction ns with
 |nil=>exact .nil
 |cons a l ih=>exact .cons (.int a) ih
mutual
theorem ma {H S}:∀ {t v d},Rp K H S t v->cN t=some d->DatV K H v d
 |_,_,_,.non,e=>by cases e;exact .non
 |_,_,_,.bl,e=>by cases e;exact .bl _
 |_,_,_,.int,e=>by cases e;exact .int _
 |_,_,_,.str,e=>by cases e;exact .str _
 |_,_,_,.ty,e=>by cases e
 |_,_,_,.ref,e=>by cases e
 |_,_,_,.tup n h r,e=>by
  simp only [lv,p7,Option.map_eq_some_iff] at e
  obtain ⟨ds,e,rfl⟩:=e
  exact .tup (SqT.of h) (iq r e)
 |_,_,_,.lst n h r,e=>by
  simp only [lv,p7,Option.map_eq_some_iff] at e
  obtain ⟨ds,e,rfl⟩:=e
  exact .lst (SqL.of h) (iq r e)
 |_,_,_,.scr h,e=>by cases e;exact .lst h.sq zN
theorem iq {H S}:∀ {ts vs ds},Rps K H S ts vs->bF ts=some ds->DatVs K H vs ds
 |_,_,_,.nil,e=>by cases e;exact .nil
 |_,_,_,.cons (t:=t) (ts:=ts) a r,e=>by
  obtain ⟨d,dl,h1,h2,rfl⟩:=BB e
  exact .cons (ma a h1) (iq r h2)
end
theorem iE {H S t v d}(s:SRp K H S) (r:Rp K H S t v) (e:dq S t=some d):DatV K H v d:=by
 cases t with
 |ref a =>
  cases r
  delta dq at e
  dsimp only at e
  cases q:S a with
  |none=>rw [q] at e;cases e
  |some o =>
   rw [q] at e
   cases o with
   |lst us =>
    simp only [Option.map_eq_some_iff] at e
    obtain ⟨ds,e,rfl⟩:=e
    cases s a _ q with
    |lst h rs=>exact .lst (SqL.of h) (iq rs e)
   |_=>cases e
 |_=>exact ma r e
def gEq (neg:Bool):G2:=λx y S Q=>match x,y with
 |.int i,.int j=>Q (.bl (neg ^^ decide (i=j))) S
 |.str i,.str j=>Q (.bl (neg ^^ decide (i=j))) S
 |.bl i,.bl j=>Q (.bl (neg ^^ decide (i=j))) S
 |x,y=>∃ dx dy,dq S x=some dx/\dq S y=some dy/\dx.canLay0=true/\dy.canLay0=true/\min dx.depth dy.depth<=64/\Q (.bl (neg ^^ PyData.eqv dx dy)) S
theorem g6 (hK:X.K=K) (hu:X.A.units+64<cLine):OpR X (compareOp .Eq) (l2 K (gEq false)):=by
 subst hK
 rintro pins s U H x y v u Q I rx ry ⟨S,tx,ty,Qt,sr,hx,hy,hg,b⟩
 have deep:(∃ dx dy,dq S tx=some dx/\dq S ty=some dy/\dx.canLay0=true/\dy.canLay0=true/\min dx.depth dy.depth<=64/\Qt (.bl (false ^^ PyData.eqv dx dy)) S)->wpAny (model X.prog X.w) X.A (compareOp .Eq v u) (EP X pins U Q) X.xe s:=by
  rintro ⟨dx,dy,e1,e2,c1,c2,hd,q⟩
  exact DU hu pins s U H _ _ v u Q I rx ry ⟨dx,dy,iE sr hx e1,iE sr hy e2,c1,c2,hd,b _ H _ S .refl sr .bl q⟩
 cases tx with
 |int i =>
  cases ty with
  |int j=>cases hx;cases hy;exact m9 pins s U H _ _ v u Q I rx ry ⟨rfl,b _ H _ S .refl sr .bl (by have hg:Qt (.bl (false ^^ decide (i=j))) S:=hg;simpa using hg)⟩
  |_=>exact deep hg
 |str i =>
  cases ty with
  |str j=>cases hx;cases hy;exact m9 pins s U H _ _ v u Q I rx ry ⟨rfl,b _ H _ S .refl sr .bl (by have hg:Qt (.bl (false ^^ decide (i=j))) S:=hg;simpa using hg)⟩
  |_=>exact deep hg
 |bl i =>
  cases ty with
  |bl j=>cases hx;cases hy;exact m9 pins s U H _ _ v u Q I rx ry ⟨rfl,b _ H _ S .refl sr .bl (by have hg:Qt (.bl (false ^^ decide (i=j))) S:=hg;simpa using hg)⟩
  |_=>exact deep hg
 |_=>exact deep hg
theorem n6 (hK:X.K=K) (hu:X.A.units+64<cLine):OpR X (compareOp .NotEq) (l2 K (gEq true)):=by
 subst hK
 rintro pins s U H x y v u Q I rx ry ⟨S,tx,ty,Qt,sr,hx,hy,hg,b⟩
 have deep:(∃ dx dy,dq S tx=some dx/\dq S ty=some dy/\dx.canLay0=true/\dy.canLay0=true/\min dx.depth dy.depth<=64/\Qt (.bl (true ^^ PyData.eqv dx dy)) S)->wpAny (model X.prog X.w) X.A (compareOp .NotEq v u) (EP X pins U Q) X.xe s:=by
  rintro ⟨dx,dy,e1,e2,c1,c2,hd,q⟩
  exact DV hu pins s U H _ _ v u Q I rx ry ⟨dx,dy,iE sr hx e1,iE sr hy e2,c1,c2,hd,b _ H _ S .refl sr .bl q⟩
 cases tx with
 |int i =>
  cases ty with
  |int j=>cases hx;cases hy;exact ni pins s U H _ _ v u Q I rx ry ⟨rfl,b _ H _ S .refl sr .bl (by have hg:Qt (.bl (true ^^ decide (i=j))) S:=hg;simpa using hg)⟩
  |_=>exact deep hg
 |str i =>
  cases ty with
  |str j=>cases hx;cases hy;exact ni pins s U H _ _ v u Q I rx ry ⟨rfl,b _ H _ S .refl sr .bl (by have hg:Qt (.bl (true ^^ decide (i=j))) S:=hg;simpa using hg)⟩
  |_=>exact deep hg
 |bl i =>
  cases ty with
  |bl j=>cases hx;cases hy;exact ni pins s U H _ _ v u Q I rx ry ⟨rfl,b _ H _ S .refl sr .bl (by have hg:Qt (.bl (true ^^ decide (i=j))) S:=hg;simpa using hg)⟩
  |_=>exact deep hg
 |_=>exact deep hg
noncomputable def ltS (a c:Str):Bool:=decide (a.cps.toList<c.cps.toList)
def gLt:G2:=λx y S Q=>match x,y with
 |.int i,.int j=>Q (.bl (decide (i<j))) S
 |.str a,.str c=>Q (.bl (ltS a c)) S
 |_,_=>False
def gLe:G2:=λx y S Q=>match x,y with
 |.int i,.int j=>Q (.bl (decide (i<=j))) S
 |.str a,.str c=>Q (.bl (!ltS c a)) S
 |_,_=>False
def gGt:G2:=λx y S Q=>match x,y with
 |.int i,.int j=>Q (.bl (decide (j<i))) S
 |_,_=>False
def gGe:G2:=λx y S Q=>match x,y with
 |.int i,.int j=>Q (.bl (decide (j<=i))) S
 |_,_=>False
theorem vb:OpR X (compareOp .Lt) (l2 K gLt):=by
 rintro pins s U H x y v u Q I rx ry ⟨S,tx,ty,Qt,sr,hx,hy,hg,b⟩
 cases hx<;>first|exact hg.elim|skip
 ·cases hy<;>first|exact hg.elim|skip
  exact GJ pins s U H _ _ v u Q I rx ry ⟨_,_,rfl,rfl,b _ H _ S .refl sr .bl hg⟩
 ·cases hy<;>first|exact hg.elim|skip
  exact yb pins s U H _ _ v u Q I rx ry ⟨_,_,rfl,rfl,b _ H _ S .refl sr .bl hg⟩
theorem bL:OpR X (compareOp .LtE) (l2 K gLe):=by
 rintro pins s U H x y v u Q I rx ry ⟨S,tx,ty,Qt,sr,hx,hy,hg,b⟩
 cases hx<;>first|exact hg.elim|skip
 ·cases hy<;>first|exact hg.elim|skip
  exact GK pins s U H _ _ v u Q I rx ry ⟨_,_,rfl,rfl,b _ H _ S .refl sr .bl hg⟩
 ·cases hy<;>first|exact hg.elim|skip
  exact yo pins s U H _ _ v u Q I rx ry ⟨_,_,rfl,rfl,b _ H _ S .refl sr .bl hg⟩
theorem vc:OpR X (compareOp .Gt) (l2 K gGt):=by
 rintro pins s U H x y v u Q I rx ry ⟨S,tx,ty,Qt,sr,hx,hy,hg,b⟩
 cases hx<;>first|exact hg.elim|skip
 cases hy<;>first|exact hg.elim|skip
 exact GL pins s U H _ _ v u Q I rx ry ⟨_,_,rfl,rfl,b _ H _ S .refl sr .bl hg⟩
theorem vd:OpR X (compareOp .GtE) (l2 K gGe):=by
 rintro pins s U H x y v u Q I rx ry ⟨S,tx,ty,Qt,sr,hx,hy,hg,b⟩
 cases hx<;>first|exact hg.elim|skip
 cases hy<;>first|exact hg.elim|skip
 exact GN pins s U H _ _ v u Q I rx ry ⟨_,_,rfl,rfl,b _ H _ S .refl sr .bl hg⟩
def isN:T->Bool
 |.non=>true
 |_=>false
def gIs (neg:Bool):G2:=λx y S Q=>match y with
 |.non=>Q (.bl (neg ^^ isN x)) S
 |_=>False
theorem Ha {H S t v}(r:Rp K H S t v):decide (v=V.non)=isN t:=by cases r<;>simp [isN]
theorem jt:OpR X (compareOp .Is) (l2 K (gIs false)):=by
 rintro pins s U H x y v u Q I rx ry ⟨S,tx,ty,Qt,sr,hx,hy,hg,b⟩
 cases hy<;>first|exact hg.elim|skip
 refine DI pins s U H _ _ v u Q I rx ry ⟨rfl,b _ H _ S .refl sr .bl ?_⟩
 rw [Ha hx];simpa [gIs] using hg
def vf (wa:WE):WE:=λU S Q=>wa U S λx S1=>match x with
 |.int i=>Q (.int (-i)) S1
 |_=>False
theorem dG {a:Expr}{wa:WE}{pos:Pos}(ha:QE K X a wa):QE K X (.UnaryOp .USub a pos) (vf wa):=PE.of (GI DH ha) λU H Q zz87=>by
 obtain ⟨S,J6,Qt,s,c,q,hq⟩:=zz87
 refine ⟨S,J6,_,s,c,q,λx H1 tx S1 f1 s1 r1 q1=>?_⟩
 cases r1<;>first|exact q1.elim|skip
 exact ⟨_,rfl,hq _ H1 _ S1 f1 s1 .int q1⟩
def ixT (S:Sto) (x y:T):Option T:=match x,y with
 |.tup ts,.int i=>atI ts i
 |.str z,.int i=>if z.length<=sizeLine then (atI z.cps.toList i).map λc=>.str ⟨#[c]⟩ else none
 |x,.int i=>(aS S x).bind λts=>atI ts i
 |_,_=>none
theorem Ed {S:Sto}{p:Addr}{ts:List T}{i:Int}(e:S p=some (.lst ts)):ixT S (.ref p) (.int i)=atI ts i:=by
 show (aS S (.ref p)).bind (λts=>atI ts i)=_
 rw [iO e];rfl
theorem Ee {S:Sto}{ts:List T}{i:Int}:ixT S (.lst ts) (.int i)=atI ts i:=rfl
def gIx:G2:=λx y S Q=>∃ r,ixT S x y=some r/\Q r S
theorem rT {H S ts vs i t}(r:Rps K H S ts vs) (e:atI ts i=some t):∃ v,atI vs i=some v/\Rp K H S t v:=by
 unfold atI at e ⊢
 rw [r.length]
 cases q:ixN ts.length i with
 |none=>rw [q] at e;cases e
 |some j =>
  rw [q] at e
  simp only [Option.bind_some] at e ⊢
  exact r.get e
theorem Jq (hK:X.K=K):IxR X (l2 K gIx):=by
 subst hK
 rintro value slice pins s U H x y v u Q I rx ry ⟨S,tx,ty,Qt,sr,hx,hy,⟨r,e,q⟩,b⟩ hs
 have lists:∀ i,ty=.int i->(aS S tx).bind (λts=>atI ts i)=some r->wpAny (model X.prog X.w) X.A (subscriptTail value slice v u) (EP X pins U Q) X.xe s:=by
  rintro i rfl e
  cases hy
  cases h1:aS S tx with
  |none=>rw [h1] at e;cases e
  |some ts =>
   rw [h1] at e
   obtain ⟨p,vs,rfl,hq,rs⟩:=cw sr hx h1
   obtain ⟨w',e2,r2⟩:=rT rs e
   exact Bi value slice pins s U H _ _ v u Q I rx ry ⟨p,vs,i,w',rfl,rfl,hq,e2,b _ H _ S .refl sr r2 q⟩ hs
 cases ty with
 |int i =>
  cases tx with
  |tup ts =>
   cases hy
   cases hx with
   |tup n hp rs =>
    obtain ⟨w',e2,r2⟩:=rT rs (show atI ts i=some r from e)
    exact DO value slice pins s U H _ _ v u Q I rx ry ⟨_,_,i,w',rfl,rfl,SqT.of hp,e2,b _ H _ S .refl sr r2 q⟩ hs
  |str z =>
   cases hy
   cases hx
   delta ixT at e
   dsimp only at e
   split at e
   ·next hz =>
    simp only [Option.map_eq_some_iff] at e
    obtain ⟨c,e,rfl⟩:=e
    exact DP value slice pins s U H _ _ v u Q I rx ry ⟨z,i,c,rfl,rfl,hz,e,b _ H _ S .refl sr .str q⟩ hs
   ·cases e
  |_=>exact lists i rfl e
 |_=>cases tx<;>cases e
theorem Jr {a c:Expr}{wa wc:WE}{pos:Pos}(hK:X.K=K) (ha:QE K X a wa) (hc:QE K X c wc) (hs:lZ c):QE K X (.Subscript a c pos) (w2 gIx wa wc):=PE.of (GQ (Jq hK) ha hc hs) λ_ _ _ h=>i9 h
abbrev WO:=StT->Sto->(Option Int->Sto->Prop)->Prop
def lO (K:Fg) (w:WO):TO:=λU H Q=>∃ S J6 Qt,SRp K H S/\Cov K H S U J6/\w J6 S Qt/\∀ b H' S',Fr H S H' S'->SRp K H' S'->Qt b S'->Q b H'
def QO (K:Fg) (X:Cx) (e:Option Expr) (w:WO):Prop:=PO X e (lO K w)
theorem PO.of {e:Option Expr}{t t':TO}(h:PO X e t) (i:∀ U H Q,t' U H Q->t U H Q):PO X e t':=λpins s U H Q I q=>h pins s U H Q I (i U H Q q)
def woN:WO:=λ_ S Q=>Q none S
def woS (wa:WE):WO:=λU S Q=>wa U S λx S1=>match x with
 |.int i=>Q (some i) S1
 |_=>False
theorem md:QO K X none woN:=PO.of Be λU H Q zz88=>by obtain ⟨S,J6,Qt,s,c,q,hq⟩:=zz88;exact hq none H S .refl s q
theorem me {e:Expr}{wa:WE}(h:QE K X e wa):QO K X (some e) (woS wa):=PO.of (Bf h) λU H Q zz89=>by
 obtain ⟨S,J6,Qt,s,c,q,hq⟩:=zz89
 refine ⟨S,J6,_,s,c,q,λx H1 tx S1 f1 s1 r1 q1=>?_⟩
 cases r1<;>first|exact q1.elim|skip
 exact ⟨_,rfl,hq _ H1 S1 f1 s1 q1⟩
def em (ts:List T) (lo hi:Option Int):List T:=(ts.drop (HT.sIx ts.length 0 lo)).take (HT.sIx ts.length ts.length hi - HT.sIx ts.length 0 lo)
theorem Ef {H S ts vs lo hi}(r:Rps K H S ts vs):Rps K H S (em ts lo hi) (fG vs lo hi):=by
 unfold em fG
 rw [r.length]
 exact (r.drop _).take _
def gSl (tr:Bool) (x:T) (lo hi:Option Int) (S:Sto) (Q:T->Sto->Prop):Prop:=match x with
 |.str z=>z.length<=sizeLine/\Q (.str (Txt.slice z lo hi)) S
 |x=>∃ ts,aS S x=some ts/\bi tr (em ts lo hi) S Q
def l3 (K:Fg) (g:T->Option Int->Option Int->Sto->(T->Sto->Prop)->Prop):V->Option Int->Option Int->Hp->VK->Prop:=λx lo hi H Q=>∃ S tx Qt,SRp K H S/\Rp K H S tx x/\g tx lo hi S Qt/\Bh K H S Qt Q
theorem Js (tr:Bool) (hK:X.K=K):SlR X (l3 K (gSl tr)):=by
 subst hK
 rintro pins s U H x v vl vu lo hi sl Q I rx hs pl pu ⟨S,tx,Qt,sr,hx,hg,b⟩
 have lists:(∃ ts,aS S tx=some ts/\bi tr (em ts lo hi) S Qt)->uR X.K x lo hi H Q:=by
  rintro ⟨ts,e,n⟩
  obtain ⟨p,vs,rfl,hq,rs⟩:=cw sr hx e
  exact ⟨p,vs,rfl,hq,e8 sr (Ef rs) n b⟩
 cases tx with
 |str z=>cases hx;exact DX pins s U H _ v vl vu lo hi sl Q I rx hs pl pu ⟨z,rfl,hg.1,b _ H _ S .refl sr .str hg.2⟩
 |_=>exact Bj pins s U H _ v vl vu lo hi sl Q I rx hs pl pu (lists hg)
def wSl (tr:Bool) (wa:WE) (wl wh:WO):WE:=λU S Q=>wa U S λx S1=>wl U S1 λl S2=>wh U S2 λh S3=>gSl tr x l h S3 Q
theorem mf (tr:Bool){e:Expr}{lo hi:Option Expr}{wa:WE}{wl wh:WO}{p2 pos:Pos}(hK:X.K=K) (he:QE K X e wa) (hl:QO K X lo wl) (hu:QO K X hi wh):QE K X (.Subscript e (.Slice lo hi none p2) pos) (wSl tr wa wl wh) :=
 PE.of (zt (Js tr hK) he hl hu) λU H Q zz90=>by
  obtain ⟨S,J6,Qt,s,c,q,hq⟩:=zz90
  refine ⟨S,J6,_,s,c,q,λx H1 tx S1 f1 s1 r1 q1=>?_⟩
  refine ⟨S1,J6,_,s1,c.fr f1,q1,λl H2 S2 f2 s2 q2=>?_⟩
  refine ⟨S2,J6,_,s2,c.fr (f1.trans f2),q2,λh H3 S3 f3 s3 q3=>?_⟩
  exact ⟨S3,tx,Qt,s3,(r1.fr f2).fr f3,q3,λv H' t S' f=>hq v H' t S' (((f1.trans f2).trans f3).trans f)⟩
end
structure Src where
 items:List T
 grd:Sto->Prop
abbrev WI:=StT->Sto->(Src->Sto->Prop)->Prop
structure Iter (K:Fg) (J:It) (src:Src) (H1:Hp) (S1:Sto):Prop where
 go:∀ H S i,Fr H1 S1 H S->SRp K H S->src.grd S->i<src.items.length->J.go i H
 yld:∀ H S i x H',Fr H1 S1 H S->SRp K H S->src.grd S->i<src.items.length->J.yld i H x H'->∃ t,src.items[i]?=some t/\Fr H S H' S/\SRp K H' S/\Rp K H' S t x
 stop:∀ H S,Fr H1 S1 H S->SRp K H S->src.grd S->J.stop src.items.length H
def lI (K:Fg) (w:WI):TI:=λU H R=>∃ S J6 Rt,SRp K H S/\Cov K H S U J6/\w J6 S Rt/\∀ J H1 src S1,Fr H S H1 S1->SRp K H1 S1->Iter K J src H1 S1->Rt src S1->R J H1
def QI (K:Fg) (X:Cx) (tg iter:Expr) (w:WI):Prop:=PI X tg iter (lI K w)
section
variable {K:Fg}{X:Cx}{tg:Expr}
theorem PI.of {e:Expr}{t t':TI}(h:PI X tg e t) (i:∀ U H Q,t' U H Q->t U H Q):PI X tg e t':=λpins s U H Q I q=>h pins s U H Q I (i U H Q q)
theorem mh {α:Type}{l:List α}{i:Nat}{t:α}(h:l[i]?=some t):l.drop i=t::l.drop (i+1):=by
 obtain ⟨hl,e⟩:=List.getElem?_eq_some_iff.mp h
 rw [<- e];exact List.drop_eq_getElem_cons hl
def dN (grd:Sto->Prop) (g:WG) (wb:WS) (D:EndsT):List T->StT->Sto->Prop
 |[],U,S=>grd S/\D.nx U S
 |t::ts,U,S=>grd S/\g t U S λKO S2=>wb { nx:=dN grd g wb D ts,rt:=D.rt,bk:=D.nx,ct:=dN grd g wb D ts } KO S2
def n9 (wi:WI) (g:WG) (wb:WS):WS:=λD U S=>wi U S λsrc S1=>dN src.grd g wb D src.items U S1
theorem BC {wi:WI}{g:WG}{wb:WS}{D U H}(h:lS K (n9 wi g wb) D U H):uM (lI K wi) (lG K g) (lS K wb) D U H:=by
 obtain ⟨S,J6,Dt,s,c,q,he⟩:=h
 refine ⟨S,J6,_,s,c,q,λJ H1 src S1 f1 s1 it q1=>?_⟩
 refine ⟨λi m U H=>m=src.items.length - i/\i<=src.items.length/\∃ S J6,Fr H1 S1 H S/\SRp K H S/\Cov K H S U J6/\dN src.grd g wb Dt (src.items.drop i) J6 S,
  ⟨_,rfl,Nat.zero_le _,S1,J6,.refl,s1,c.fr f1,by simpa using q1⟩,?_⟩
 rintro i m U H ⟨rfl,hi,S2,LQ,f2,s2,c2,q2⟩
 by_cases hl:i<src.items.length
 ·have e1:src.items[i]?=some src.items[i]:=by simp [hl]
  rw [mh e1] at q2
  obtain ⟨hg,q2⟩:=q2
  refine .inr ⟨it.go H S2 i f2 s2 hg hl,λJ7 H'=>∃ S J6,Fr H1 S1 H' S/\SRp K H' S/\Cov K H' S J7 J6/\dN src.grd g wb Dt (src.items.drop (i+1)) J6 S,λJ7 H' n=>⟨src.items.length - (i+1),by omega,rfl,hl,n⟩,λx H' y=>?_⟩
  obtain ⟨t,et,f3,s3,r3⟩:=it.yld H S2 i x H' f2 s2 hg hl y
  rw [e1] at et;cases et
  refine ⟨S2,_,LQ,_,s3,r3,c2.fr f3,q2,λσ4 H4 NR S4 f4 s4 c4 q4=>?_⟩
  have fA:=(f2.trans f3).trans f4
  refine ⟨S4,NR,_,s4,c4,q4,⟨λJ7 H' Kd S' f s' c' q'=>⟨S',Kd,fA.trans f,s',c',q'⟩,λv H' t S' f=>he.rt v H' t S' ((f1.trans fA).trans f),λJ7 H' Kd S' f=>he.nx J7 H' Kd S' ((f1.trans fA).trans f),λJ7 H' Kd S' f s' c' q'=>⟨S',Kd,fA.trans f,s',c',q'⟩⟩⟩
 ·have e:i=src.items.length:=by omega
  subst e
  rw [List.drop_eq_nil_of_le (Nat.le_refl _)] at q2
  exact .inl ⟨it.stop H S2 f2 s2 q2.1,he.nx U H LQ S2 (f1.trans f2) s2 c2 q2.2⟩
theorem nD {iter:Expr}{body:List Stmt}{wi:WI}{g:WG}{wb:WS}{pos:Pos}(hp:PassesOwn (model X.prog X.w) X.A X.env X.xe) (hc:X.calm=true) (hi:QI K X tg iter wi) (hg:QG K X tg g) (hb:QSs K X body wb)
  (hs:∀ x,foldedSetIterable iter X.env x=pure x:=by intro _;rfl):QS K X (.For tg iter body [] pos) (n9 wi g wb):=PS.of (DB hp hc hi hg hb hs) λ_ _ _ h=>BC h
def c8 (t:T) (ts:List T) (S:Sto):Prop:=match t with
 |.ref a=>S a=some (.lst ts)
 |_=>True
def wiL (wa:WE):WI:=λU S R=>wa U S λx S1=>∃ ts,aS S1 x=some ts/\R ⟨ts,c8 x ts⟩ S1
theorem pH {S S':Sto}{x:T}{ts:List T}(e:aS S x=some ts) (h:c8 x ts S'):aS S' x=some ts:=by
 cases x with
 |ref a=>exact iO h
 |lst us=>exact e
 |scr us=>exact e
 |_=>cases e
theorem pI {H1:Hp}{S1:Sto}{x:T}{a:Addr}{ts:List T}(r:Rp K H1 S1 x (.ref a)) (e:aS S1 x=some ts):Iter K (Itl K a) ⟨ts,c8 x ts⟩ H1 S1:=by
 have main:∀ H S,Fr H1 S1 H S->SRp K H S->c8 x ts S->∃ vs,SqL K H a vs/\Rps K H S ts vs:=λH S f s g=>by
  obtain ⟨p,vs,ep,hq,rs⟩:=cw s (r.fr f) (pH e g)
  cases ep
  exact ⟨vs,hq,rs⟩
 refine ⟨λH S i f s g hl=>?_,λH S i y H' f s g hl hy=>?_,λH S f s g=>?_⟩
 ·obtain ⟨vs,hq,rs⟩:=main H S f s g
  obtain ⟨v,hv,_⟩:=rs.get (i:=i) (t:=ts[i]) (by simp [show i<ts.length from hl])
  exact ⟨vs,v,hq,hv⟩
 ·obtain ⟨vs,hq,rs⟩:=main H S f s g
  obtain ⟨rfl,hy⟩:=hy
  obtain ⟨t,et,rt⟩:=rs.getV (hy vs hq)
  exact ⟨t,et,.refl,s,rt⟩
 ·obtain ⟨vs,hq,rs⟩:=main H S f s g
  exact ⟨vs,hq,by rw [rs.length];exact Nat.le_refl _⟩
theorem eQ {l:Expr}{wa:WE}(hK:X.K=K) (hl:QE K X l wa):QI K X tg l (wiL wa):=by
 subst hK
 refine PI.of (A3 hl) λU H R zz91=>?_
 obtain ⟨S,J6,Rt,s,c,q,hq⟩:=zz91
 refine ⟨S,J6,_,s,c,q,λv H1 t S1 f1 s1 r1 q1=>?_⟩
 obtain ⟨ts,e,q1⟩:=q1
 obtain ⟨p,vs,rfl,hS,rs⟩:=cw s1 r1 e
 exact ⟨p,rfl,⟨vs,hS⟩,hq _ H1 _ S1 f1 s1 (pI r1 e) q1⟩
def cP (lo:Int) (n:Nat):List T:=(List.range n).map λ(i:Nat)=>T.int (lo+i)
theorem xE {lo:Int}{n:Nat}{H1 S1}:Iter K (Itr lo n) ⟨cP lo n,λ_=>True⟩ H1 S1:=by
 refine ⟨λH S i f s g hl=>by simpa [cP,Itr] using hl,λH S i y H' f s g hl hy=>?_,λH S f s g=>by simp [cP,Itr]⟩
 obtain ⟨rfl,rfl⟩:=hy
 have hl':i<n:=by simpa [cP] using hl
 exact ⟨.int (lo+i),by simp [cP,hl'],.refl,s,.int⟩
def vg (wa:WE):WI:=λU S R=>wa U S λx S1=>match x with
 |.int j=>-(2 ^ 62)<=j/\j<2 ^ 62/\R ⟨cP 0 j.toNat,λ_=>True⟩ S1
 |_=>False
theorem fT {a:Expr}{wa:WE}{p pos:Pos}(hg:Gl X "range") (hm:X.mg "range"=none) (ha:QE K X a wa) (hs:starEach [a] X.env=[(false,eval a X.env)]:=by rfl) (QZ:starEach [a] X.env=(false,eval a X.env)::starEach [] X.env:=by rfl) :
  QI K X tg (.Call (.Name "range" p) [a] [] pos) (vg wa) :=
 PI.of (x9 hg hm (lW ha mJ QZ) hs) λU H R zz92=>by
  obtain ⟨S,J6,Rt,s,c,q,hq⟩:=zz92
  refine ⟨S,J6,_,s,c,q,λx H1 tx S1 f1 s1 r1 q1=>?_⟩
  cases r1<;>first|exact q1.elim|skip
  exact ⟨_,rfl,q1.1,q1.2.1,hq _ H1 _ S1 f1 s1 xE q1.2.2⟩
def gC (z:Str):List T:=z.cps.toList.map λc=>T.str ⟨#[c]⟩
def wiS (wa:WE):WI:=λU S R=>wa U S λx S1=>match x with
 |.str z=>R ⟨gC z,λ_=>True⟩ S1
 |_=>False
theorem rV {l:Expr}{wa:WE}(hl:QE K X l wa):QI K X tg l (wiS wa):=PI.of (DW hl) λU H R zz93=>by
 obtain ⟨S,J6,Rt,s,c,q,hq⟩:=zz93
 refine ⟨S,J6,_,s,c,q,λx H1 tx S1 f1 s1 r1 q1=>?_⟩
 cases r1<;>first|exact q1.elim|skip
 refine ⟨_,rfl,hq _ H1 _ S1 f1 s1 ⟨λH S i f s g hl=>by simpa [gC,Its] using hl,λH S i y H' f s g hl hy=>?_,λH S f s g=>by simp [gC,Its]⟩ q1⟩
 obtain ⟨rfl,c,ec,rfl⟩:=hy
 exact ⟨.str ⟨#[c]⟩,by simp [gC,ec],.refl,s,.str⟩
def QTs (K:Fg) (X:Cx) (Lu:List Expr) (w:WT):Prop:=PTs X Lu (lT K w)
def jb:WT:=λ_ S Q=>Q true S
theorem c6:QTs K X [] jb:=λpins s U H Q I zz94=>by obtain ⟨S,J6,Qt,sr,c,q,hq⟩:=zz94;exact Br pins s U H Q I (hq true H S .refl sr q)
theorem mi {c:Expr}{w:WT}(h:QT K X c w):QTs K X [c] w:=Bs h
noncomputable def eS (n:Nat) (Kc:List Nat) (U:StT):StT:=List.replicate n none++Kc.map λi=>(U[i]?).join
def cS (grd:Sto->Prop) (g:WG) (tt:WT) (te:WE) (Q:List T->Sto->Prop):List T->List T->StT->Sto->Prop
 |[],J9,_,S=>grd S/\Q J9 S
 |x::xs,J9,U,S=>grd S/\g x U S λKO S2=>tt KO S2 λb S3=>if b=true then te KO S3 λy S4=>J9.length<sizeLine/\cS grd g tt te Q xs (J9++[y]) KO S4 else cS grd g tt te Q xs J9 KO S3
def jc (tr:Bool) (wi:WI) (n:Nat) (Kc:List Nat) (g:WG) (tt:WT) (te:WE):WE:=λU S Q=>wi U S λsrc S1=>cS src.grd g tt te (λts S2=>bi tr ts S2 Q) src.items [] (eS n Kc U) S1
theorem zO {H S U J6 n Kc}(c:Cov K H S U J6):Cov K H S (eW n Kc U) (eS n Kc J6):=by
 refine ⟨by simp [eW,eS],λi t e=>?_⟩
 unfold eS at e
 unfold eW
 by_cases hi:i<n
 ·rw [List.getElem?_append_left (by simpa using hi),List.getElem?_replicate] at e
  rw [if_pos hi] at e;cases e
 ·rw [List.getElem?_append_right (by simpa using hi)] at e ⊢
  simp only [List.length_replicate,List.getElem?_map] at e ⊢
  cases q:Kc[i - n]? with
  |none=>rw [q] at e;cases e
  |some j =>
   rw [q] at e
   simp only [Option.map_some,Option.some.injEq] at e ⊢
   cases z:J6[j]? with
   |none=>rw [z] at e;cases e
   |some o =>
    rw [z] at e
    simp only [Option.join_some] at e
    subst e
    obtain ⟨v,hv,rv⟩:=c.2 j t z
    exact ⟨v,by rw [hv];rfl,rv⟩
mutual
theorem Rp.chg {H S D φ o}(e:H D=some (.ext φ)):∀ {t v},Rp K H S t v->Rp K (upd H D o) S t v
 |_,_,.non=>.non
 |_,_,.bl=>.bl
 |_,_,.int=>.int
 |_,_,.str=>.str
 |_,_,.ty=>.ty
 |_,_,.ref=>.ref
 |_,_,.tup n h r=>.tup n (by rw [ao (bJ h e (by intro z;cases z))];exact h) (Rps.chg e r)
 |_,_,.lst n h r=>.lst n (by rw [ao (bJ h e (by intro z;cases z))];exact h) (Rps.chg e r)
 |_,_,.scr h=>.scr (by
   rcases h with ⟨n,o',h⟩|h
   ·exact .inl ⟨n,o',by rw [ao (bJ h e (by intro z;cases z))];exact h⟩
   ·exact .inr h)
theorem Rps.chg {H S D φ o}(e:H D=some (.ext φ)):∀ {ts vs},Rps K H S ts vs->Rps K (upd H D o) S ts vs
 |_,_,.nil=>.nil
 |_,_,.cons a b=>.cons (Rp.chg e a) (Rps.chg e b)
end
theorem SRp.chg {H S D φ o}(e:H D=some (.ext φ)) (n:S D=none) (s:SRp K H S):SRp K (upd H D o) S:=λa o' h=>by
 have ha:a≠D:=λz=>by rw [z,n] at h;cases h
 cases s a o' h with
 |lst h' r=>exact .lst (by rw [ao ha];exact h') (Rps.chg e r)
 |dK h' r=>exact .dK (by rw [ao ha];exact h') (Paired.mapP r λ_ _ z=>⟨z.1,Rp.chg e z.2⟩)
 |dT h' r=>exact .dT (by rw [ao ha];exact h') (Paired.mapP r λ_ _ z=>⟨z.1,Rp.chg e z.2⟩)
 |fK h' r=>exact .fK (by rw [ao ha];exact h') (Paired.mapP r λ_ _ z=>⟨z.1,Rp.chg e z.2⟩)
 |ins h' r=>exact .ins (by rw [ao ha];exact h') (Paired.mapP r λ_ _ z=>⟨z.1,Rp.chg e z.2⟩)
 |exc0 h'=>exact .exc0 (by rw [ao ha];exact h')
 |exc ne h' nd hd r=>exact .exc ne (by rw [ao ha];exact h') nd (by rw [ao (bJ hd e (by intro z;cases z))];exact hd) (Paired.mapP r λ_ _ z=>⟨z.1,Rp.chg e z.2⟩)
 |exg0 h'=>exact .exg0 (by rw [ao ha];exact h')
 |exg h' nd hd=>exact .exg (by rw [ao ha];exact h') nd (by rw [ao (bJ hd e (by intro z;cases z))];exact hd)
theorem Cov.chg {H S D φ o U J6}(e:H D=some (.ext φ)) (c:Cov K H S U J6):Cov K (upd H D o) S U J6:=⟨c.1,λi t h=>by
 obtain ⟨v,h1,r⟩:=c.2 i t h
 exact ⟨v,h1,Rp.chg e r⟩⟩
theorem Fr.at {H S H1 S1 D o}(f:Fr H1 S1 H S) (hD:H1 D=none):Fr H1 S1 (upd H D o) S:=λa u h n=>by
 rw [ao (bt h hD)];exact f a u h n
mutual
theorem Rp.trk {H S D φ o p}(e:H D=some (.ext φ)):∀ {t v},Rp K H S t v->Rp K (upd H D o) (put S D p) t v
 |_,_,.non=>.non
 |_,_,.bl=>.bl
 |_,_,.int=>.int
 |_,_,.str=>.str
 |_,_,.ty=>.ty
 |_,_,.ref=>.ref
 |_,_,.tup n h r=>.tup (by rw [av (bJ h e (by intro z;cases z))];exact n) (by rw [ao (bJ h e (by intro z;cases z))];exact h) (Rps.trk e r)
 |_,_,.lst n h r=>.lst (by rw [av (bJ h e (by intro z;cases z))];exact n) (by rw [ao (bJ h e (by intro z;cases z))];exact h) (Rps.trk e r)
 |_,_,.scr h=>.scr (by
   rcases h with ⟨n,o',h⟩|h
   ·exact .inl ⟨by rw [av (bJ h e (by intro z;cases z))];exact n,o',by rw [ao (bJ h e (by intro z;cases z))];exact h⟩
   ·exact .inr h)
theorem Rps.trk {H S D φ o p}(e:H D=some (.ext φ)):∀ {ts vs},Rps K H S ts vs->Rps K (upd H D o) (put S D p) ts vs
 |_,_,.nil=>.nil
 |_,_,.cons a b=>.cons (Rp.trk e a) (Rps.trk e b)
end
theorem SRp.trk {H S D φ zs J9}(e:H D=some (.ext φ)) (s:SRp K H S) (r:Rps K H S J9 zs):SRp K (upd H D (.lst zs)) (put S D (.lst J9)):=λa o' h=>by
 by_cases ha:a=D
 ·subst ha;rw [aA] at h;cases h;exact .lst aF (Rps.trk e r)
 ·rw [av ha] at h
  cases s a o' h with
  |lst h' r=>exact .lst (by rw [ao ha];exact h') (Rps.trk e r)
  |dK h' r=>exact .dK (by rw [ao ha];exact h') (Paired.mapP r λ_ _ z=>⟨z.1,Rp.trk e z.2⟩)
  |dT h' r=>exact .dT (by rw [ao ha];exact h') (Paired.mapP r λ_ _ z=>⟨z.1,Rp.trk e z.2⟩)
  |fK h' r=>exact .fK (by rw [ao ha];exact h') (Paired.mapP r λ_ _ z=>⟨z.1,Rp.trk e z.2⟩)
  |ins h' r=>exact .ins (by rw [ao ha];exact h') (Paired.mapP r λ_ _ z=>⟨z.1,Rp.trk e z.2⟩)
  |exc0 h'=>exact .exc0 (by rw [ao ha];exact h')
  |exc ne h' nd hd r=>exact .exc ne (by rw [ao ha];exact h') (by rw [av (bJ hd e (by intro z;cases z))];exact nd) (by rw [ao (bJ hd e (by intro z;cases z))];exact hd) (Paired.mapP r λ_ _ z=>⟨z.1,Rp.trk e z.2⟩)
  |exg0 h'=>exact .exg0 (by rw [ao ha];exact h')
  |exg h' nd hd=>exact .exg (by rw [ao ha];exact h') (by rw [av (bJ hd e (by intro z;cases z))];exact nd) (by rw [ao (bJ hd e (by intro z;cases z))];exact hd)
theorem p8 {tr:Bool}{wi:WI}{n:Nat}{Kc:List Nat}{g:WG}{tt:WT}{te:WE}{U H Q}(h:lE K (jc tr wi n Kc g tt te) U H Q):mM (lI K wi) n Kc (lG K g) (lT K tt) (lE K te) U H Q:=by
 obtain ⟨S,J6,Qt,s,c,q,hq⟩:=h
 refine ⟨S,J6,_,s,c,q,λJ H1 src S1 f1 s1 it q1=>?_⟩
 intro D hD
 refine ⟨λi m zs σc H=>m=src.items.length - i/\i<=src.items.length/\H D=some (bC D zs)/\∃ S J6 J9,S D=none/\Fr H1 S1 H S/\Rps K H S J9 zs/\SRp K H S/\Cov K H S σc J6/\cS src.grd g tt te (λts S2=>bi tr ts S2 Qt) (src.items.drop i) J9 J6 S,
  ⟨_,rfl,Nat.zero_le _,aF,S1,eS n Kc J6,[],s1.fresh hD,Fr.new hD,.nil,s1.new hD,zO ((c.fr f1).fr (Fr.new hD)),by simpa using q1⟩,?_⟩
 rintro i m zs σc H ⟨rfl,hi,e2,S2,LQ,J9,n2,f2,r2,s2,c2,q2⟩
 refine ⟨e2,?_⟩
 by_cases hl:i<src.items.length
 ·have e1:src.items[i]?=some src.items[i]:=by simp [hl]
  rw [mh e1] at q2
  obtain ⟨hg,q2⟩:=q2
  refine .inr ⟨it.go H S2 i f2 s2 hg hl,λzs' J7 H'=>H' D=some (bC D zs')/\∃ S J6 J9,S D=none/\Fr H1 S1 H' S/\Rps K H' S J9 zs'/\SRp K H' S/\Cov K H' S J7 J6/\cS src.grd g tt te (λts S2=>bi tr ts S2 Qt) (src.items.drop (i+1)) J9 J6 S,
   λzs' J7 H' n=>⟨src.items.length - (i+1),by omega,rfl,hl,n⟩,λx H' y=>?_⟩
  obtain ⟨t,et,f3,s3,r3⟩:=it.yld H S2 i x H' f2 s2 hg hl y
  rw [e1] at et;cases et
  have e3:=f3 D _ e2 n2
  refine ⟨S2,_,LQ,_,s3,r3,c2.fr f3,q2,λσ4 H4 NR S4 f4 s4 c4 q4=>?_⟩
  have e4:=f4 D _ e3.1 e3.2
  refine ⟨S4,NR,_,s4,c4,q4,λb H5 S5 f5 s5 q5=>?_⟩
  have e5:=f5 D _ e4.1 e4.2
  have fB:=((f3.trans f4).trans f5)
  cases b with
  |false=>exact ⟨e5.1,S5,NR,J9,e5.2,f2.trans fB,r2.fr fB,s5,c4.fr f5,q5⟩
  |true =>
   refine ⟨S5,NR,_,s5,c4.fr f5,q5,λy H6 ty S6 f6 s6 r6 q6=>?_⟩
   have e6:=f6 D _ e5.1 e5.2
   have fC:=fB.trans f6
   exact ⟨e6.1,by rw [r2.length];exact q6.1,aF,S6,NR,J9++[ty],e6.2,Fr.at (f2.trans fC) hD,Rps.chg e6.1 ((r2.fr fC).append (.cons r6 .nil)),s6.chg e6.1 e6.2,((c4.fr f5).fr f6).chg e6.1,q6.2⟩
 ·have e:i=src.items.length:=by omega
  subst e
  rw [List.drop_eq_nil_of_le (Nat.le_refl _)] at q2
  refine .inl ⟨it.stop H S2 f2 s2 q2.1,?_⟩
  have fE:Fr H1 S1 (upd H D (.lst zs)) S2:=Fr.at f2 hD
  cases tr with
  |false=>exact hq _ _ (.lst J9) S2 (f1.trans fE) (s2.chg e2 n2) (.lst n2 aF (Rps.chg e2 r2)) q2.2
  |true =>
   have fr1:Fr H1 S1 (upd H D (.lst zs)) (put S2 D (.lst J9)):=λa o h nn=>by
    have ha:a≠D:=bt h hD
    rw [av ha];exact fE a o h nn
   exact hq _ _ (.ref D) _ (f1.trans fr1) (SRp.trk e2 s2 r2) .ref (q2.2 D n2)
theorem c9 (tr:Bool){LY iter J8:Expr}{Lu:List Expr}{scope:Scope}{pos:Pos}{wi:WI}{g:WG}{tt:WT}{te:WE}(Nc:List Str) (n:Nat) (Kc:List Nat) (Lv:X.calm=true) (hi:QI K X J8 iter wi) (hg:∀ C s₀ H₀ ex,QG K (X.comp scope Nc C s₀ H₀ ex) J8 g)
  (ht:∀ C s₀ H₀ ex,QTs K (X.comp scope Nc C s₀ H₀ ex) Lu tt) (he:∀ C s₀ H₀ ex,QE K (X.comp scope Nc C s₀ H₀ ex) LY te) (Po:dC X.env.scope scope=true:=by rfl) (OZ:dY X.N Nc scope n Kc=true:=by rfl) (hs:∀ x,foldedSetIterable iter X.env x=pure x:=by intro _;rfl) :
  QE K X (.ListComp LY [⟨J8,iter,Lu,0⟩] scope pos) (jc tr wi n Kc g tt te):=PE.of (zF Nc n Kc Lv hi hg ht he Po OZ hs) λ_ _ _ h=>p8 h
theorem k6 (tr:Bool){LY iter J8:Expr}{Lu:List Expr}{scope:Scope}{pos:Pos}{wi:WI}{g:WG}{tt:WT}{te:WE}{i:Nat}{x:Str}{px MF:Pos}(Nc:List Str) (n:Nat) (Kc:List Nat) (Lv:X.calm=true) (hN:X.N.Nodup) (hix:X.N[i]?=some x) (hx:Loc X.env.scope x)
  (hi:QI K X J8 iter wi) (hg:∀ C s₀ H₀ ex,QG K (X.comp scope Nc C s₀ H₀ ex) J8 g)
  (ht:∀ C s₀ H₀ ex,QTs K (X.comp scope Nc C s₀ H₀ ex) Lu tt) (he:∀ C s₀ H₀ ex,QE K (X.comp scope Nc C s₀ H₀ ex) LY te)
  (Q0:swapsWith (.ListComp LY [⟨J8,iter,Lu,0⟩] scope pos) (some (.Name x px)) MF.line X.env=pure true:=by rfl) (Po:dC X.env.scope scope=true:=by rfl) (OZ:dY X.N Nc scope n Kc=true:=by rfl) (hs:∀ x,foldedSetIterable iter X.env x=pure x:=by intro _;rfl)
  (hf:X.fn x=true\/X.env.scope.names.lookup x=some .local:=by first|exact .inl rfl|exact .inr rfl|assumption) :
  QS K X (.Assign [.Name x px] (.ListComp LY [⟨J8,iter,Lu,0⟩] scope pos) MF) (eg (jc tr wi n Kc g tt te) (wgN i)):=PS.of (zG Nc n Kc Lv hN hix hx hi hg ht he Q0 Po OZ hs hf) λD U H h=>by
 obtain ⟨S,J6,Dt,s,c,q,he⟩:=h
 exact p8 ⟨S,J6,_,s,c,q,λv H1 t S1 f1 s1 r1 q1=>he.nx _ H1 _ S1 f1 s1 ((c.fr f1).set r1 i) q1⟩
end
end T2
namespace L2
open PySem PySem.Spec PyProof.Rows
section
variable {X:Cx}
def BD:V->List V->Hp->VK->Prop:=λx vs H Q=>∃ a b,x=.str a/\vs=[.str b]/\Q (.bl (Txt.startswith a b)) H
theorem wy:MtR X "str.startswith" BD:=by
 intro pins s U H x vs v us Q I rx rv h
 obtain ⟨a,b,rfl,rfl,q⟩:=h
 obtain ⟨t,rfl⟩:=rx
 obtain ⟨u,rfl,t2,rfl⟩:=bW rv
 exact SC.startswith ⟨.bl _,H,I,rfl,q⟩
end
end L2
namespace T2
open PySem PySem.Spec PyProof.Rows L2
section
variable {K:Fg}{X:Cx}
noncomputable def dH:T->Option Key
 |.int i=>some (.inl i)
 |.str x=>some (.inr x)
 |_=>none
abbrev GC:=List T->Sto->(T->Sto->Prop)->Prop
def lC (K:Fg) (g:GC):List V->Hp->VK->Prop:=λxs H Q=>∃ S ts Qt,SRp K H S/\Rps K H S ts xs/\g ts S Qt/\Bh K H S Qt Q
def wCB (g:GC) (wr:WA):WE:=λU S Q=>wr U S λts S1=>g ts S1 Q
theorem Eg {g:GC}{wr:WA}{U H Q}(h:lE K (wCB g wr) U H Q):tCB (lC K g) (lA K wr) U H Q:=by
 obtain ⟨S,J6,Qt,s,c,q,hq⟩:=h
 refine ⟨S,J6,_,s,c,q,λvs H1 ts S1 f1 s1 r1 q1=>?_⟩
 exact ⟨S1,ts,Qt,s1,r1,q1,λv H' t S' f=>hq v H' t S' (f1.trans f)⟩
theorem vh {g:GC}{wr:WA}{e:Expr}(hp:PE X e (tCB (lC K g) (lA K wr))):QE K X e (wCB g wr):=PE.of hp λ_ _ _ h=>Eg h
def ju (S:Sto):T->Option Int
 |.str z=>if z.length<=sizeLine then some z.length else none
 |.tup ts=>some ts.length
 |t=>(aS S t).map λts=>ts.length
def jv:GC:=λts S Q=>match ts with
 |[x]=>∃ n,ju S x=some n/\Q (.int n) S
 |_=>False
theorem b8 (hK:X.K=K):bu X (.builtin "len") (lC K jv):=by
 subst hK
 rintro pins s U H xs us Q I r ⟨S,ts,Qt,sr,rs,hg,b⟩
 cases rs with
 |nil=>exact hg.elim
 |cons a l =>
  cases l with
  |cons _ _=>exact hg.elim
  |nil =>
   obtain ⟨n,e,q⟩:=hg
   rename_i t v
   have lists:(aS S t).map (λts=>(ts.length:Int))=some n->wpAny (model X.prog X.w) X.A (call (.builtin "len") us) (EP X pins U Q) X.xe s:=by
    intro e3
    rw [Option.map_eq_some_iff] at e3
    obtain ⟨ts,e3,rfl⟩:=e3
    obtain ⟨p,vs,rfl,hq,rs⟩:=cw sr a e3
    exact oJ pins s U H _ us Q I r ⟨p,vs,rfl,.inl hq,by rw [rs.length];exact b _ H _ S .refl sr .int q⟩
   cases t with
   |str z =>
    cases a
    delta ju at e
    dsimp only at e
    split at e
    ·next hz=>cases e;exact wJ pins s U H _ us Q I r ⟨z,rfl,hz,b _ H _ S .refl sr .int q⟩
    ·cases e
   |tup ts =>
    cases a with
    |tup n' hp rs=>cases e;exact oJ pins s U H _ us Q I r ⟨_,_,rfl,.inr (SqT.of hp),by rw [rs.length];exact b _ H _ S .refl sr .int q⟩
   |_=>exact lists e
noncomputable def tyT (S:Sto):T->Option Value
 |.non=>some (.type "NoneType")
 |.bl _=>some (.type "bool")
 |.int _=>some (.type "int")
 |.str _=>some (.type "str")
 |.tup _=>some (.type "tuple")
 |.lst _=>some (.type "list")
 |.ref a=>match S a with
  |some (.lst _)=>some (.type "list")
  |some (.dK _)=>some (.type "dict")
  |some (.dT _)=>some (.type "dict")
  |_=>none
 |_=>none
def vi (K:Fg):GC:=λts S Q=>match ts with
 |[x,.ty n]=>∃ t b,tyT S x=some t/\PySem.W.kitOne K t (.type n)=some b/\Q (.bl b) S
 |_=>False
theorem Eh {H S t v ty}(s:SRp K H S) (r:Rp K H S t v) (e:tyT S t=some ty):TyOf K H v ty:=by
 cases r with
 |non=>cases e;exact .non
 |bl=>cases e;exact .bl _
 |int=>cases e;exact .int _
 |str=>cases e;exact .str _
 |tup n h _=>cases e;exact .tup h
 |lst n h _=>cases e;exact .lst h
 |ty=>cases e
 |scr _=>cases e
 |ref =>
  rename_i a
  delta tyT at e
  dsimp only at e
  cases q:S a with
  |none=>rw [q] at e;cases e
  |some o =>
   rw [q] at e
   cases o with
   |lst us=>cases e;cases s a _ q with
    |lst h rs=>exact .lst h
   |dK us=>cases e;cases s a _ q with
    |dK h rs=>exact .dK h
   |dT us=>cases e;cases s a _ q with
    |dT h rs=>exact .dT h
   |fK _ _ _ _=>cases e
   |ins _ _=>cases e
   |exc _ _=>cases e
   |exg _=>cases e
theorem Hb (hK:X.K=K):bu X (.builtin "isinstance") (lC K (vi K)):=by
 subst hK
 rintro pins s U H xs us Q I r ⟨S,ts,Qt,sr,rs,hg,b⟩
 cases rs with
 |nil=>exact hg.elim
 |cons a l =>
  cases l with
  |nil=>exact hg.elim
  |cons a2 l2 =>
   cases l2 with
   |cons _ _=>cases a2<;>exact hg.elim
   |nil =>
    cases a2<;>first|exact hg.elim|skip
    obtain ⟨t,k,e,hk,q⟩:=hg
    exact w6 pins s U H _ us Q I r ⟨_,_,t,k,rfl,⟨_,rfl,λz h=>h,hk⟩,Eh sr a e,b _ H _ S .refl sr .bl q⟩
def tN (tr:Bool):GC:=λts S Q=>match ts with
 |[.tup us]=>bi tr us S Q
 |[x]=>∃ us,aS S x=some us/\bi tr us S Q
 |_=>False
theorem Ei (tr:Bool) (hK:X.K=K):bu X (.type "list") (lC K (tN tr)):=by
 subst hK
 rintro pins s U H xs us Q I r ⟨S,ts,Qt,sr,rs,hg,b⟩
 cases rs with
 |nil=>exact hg.elim
 |cons a l =>
  cases l with
  |cons _ _=>cases a<;>exact hg.elim
  |nil =>
   rename_i t v
   have lists:(∃ us,aS S t=some us/\bi tr us S Qt)->wpAny (model X.prog X.w) X.A (call (.type "list") us) (EP X pins U Q) X.xe s:=by
    rintro ⟨ws,e,n⟩
    obtain ⟨p,vs,rfl,hq,rs⟩:=cw sr a e
    exact oK pins s U H _ us Q I r ⟨p,vs,rfl,.inl hq,e8 sr rs n b⟩
   cases t with
   |tup ws =>
    cases a with
    |tup n' hp rs=>exact oK pins s U H _ us Q I r ⟨_,_,rfl,.inr (SqT.of hp),e8 sr rs hg b⟩
   |_=>exact lists hg
noncomputable def dO:List T->Option (List Bool)
 |[]=>some []
 |.bl i::ts=>(dO ts).map (i::·)
 |_=>none
theorem Ej {i:Bool}{ts:List T}:dO (.bl i::ts)=(dO ts).map (i::·):=rfl
theorem rW {H S}:∀ {ts vs ns},Rps K H S ts vs->dO ts=some ns->vs=ns.map V.bl
 |_,_,_,.nil,e=>by cases e;rfl
 |_,_,_,.cons a b,e=>by
  cases a<;>first|(cases e;done)|skip
  simp only [Ej,Option.map_eq_some_iff] at e
  obtain ⟨ns,e,rfl⟩:=e
  rw [List.map_cons,<- rW b e]
noncomputable def d6:List T->Option (List Str)
 |[]=>some []
 |.str i::ts=>(d6 ts).map (i::·)
 |_=>none
theorem qJ {i:Str}{ts:List T}:d6 (.str i::ts)=(d6 ts).map (i::·):=rfl
theorem qK {H S}:∀ {ts vs ns},Rps K H S ts vs->d6 ts=some ns->vs=ns.map V.str
 |_,_,_,.nil,e=>by cases e;rfl
 |_,_,_,.cons a b,e=>by
  cases a<;>first|(cases e;done)|skip
  simp only [qJ,Option.map_eq_some_iff] at e
  obtain ⟨ns,e,rfl⟩:=e
  rw [List.map_cons,<- qK b e]
def vj:GC:=λts S Q=>match ts with
 |[x]=>∃ us bs,aS S x=some us/\dO us=some bs/\Q (.bl (bs.all id)) S
 |_=>False
theorem nE (hK:X.K=K) (hc:X.calm=true):bu X (.builtin "all") (lC K vj):=by
 subst hK
 rintro pins s U H xs us Q I r ⟨S,ts,Qt,sr,rs,hg,b⟩
 cases rs with
 |nil=>exact hg.elim
 |cons a l =>
  cases l with
  |cons _ _=>exact hg.elim
  |nil =>
   obtain ⟨ws,ns,e,en,q⟩:=hg
   obtain ⟨p,vs,rfl,hq,rs⟩:=cw sr a e
   exact yq hc pins s U H _ us Q I r ⟨p,ns,rfl,by rw [<- rW rs en];exact hq,b _ H _ S .refl sr .bl q⟩
def vk:GC:=λts S Q=>match ts with
 |[.int i]=>Q (.int i) S
 |[.bl k]=>Q (.int (if k then 1 else 0)) S
 |_=>False
theorem tO:bu X (.type "int") (lC K vk):=by
 rintro pins s U H xs us Q I r ⟨S,ts,Qt,sr,rs,hg,b⟩
 cases rs with
 |nil=>exact hg.elim
 |cons a l =>
  cases l with
  |cons _ _=>cases a<;>exact hg.elim
  |nil =>
   cases a<;>first|exact hg.elim|skip
   ·exact ph pins s U H _ us Q I r (.inr ⟨_,rfl,b _ H _ S .refl sr .int hg⟩)
   ·exact ph pins s U H _ us Q I r (.inl ⟨_,rfl,b _ H _ S .refl sr .int hg⟩)
abbrev GM:=T->List T->Sto->(T->Sto->Prop)->Prop
def lM (K:Fg) (g:GM):V->List V->Hp->VK->Prop:=λx xs H Q=>∃ S t ts Qt,SRp K H S/\Rp K H S t x/\Rps K H S ts xs/\g t ts S Qt/\Bh K H S Qt Q
def tyM (ty:String) (S:Sto) (x:T):Prop:=match x with
 |.str _=>ty="str"
 |.lst _=>ty="list"
 |.ref a=>match S a with
  |some (.lst _)=>ty="list"
  |some (.dK _)=>ty="dict"
  |some (.dT _)=>ty="dict"
  |_=>False
 |_=>False
def wBM (ty:String) (g:GM) (wa:WE) (wr:WA):WE:=λU S Q=>wa U S λx S1=>tyM ty S1 x/\wr U S1 λts S2=>g x ts S2 Q
theorem Hd {H S t v ty}(s:SRp K H S) (r:Rp K H S t v) (h:tyM ty S t):tyV K ty v H:=by
 cases r with
 |str=>exact h
 |lst n hp _=>exact .inl ⟨h,_,SqL.of hp⟩
 |ref =>
  rename_i a
  delta tyM at h
  dsimp only at h
  cases q:S a with
  |none=>rw [q] at h;exact h.elim
  |some o =>
   rw [q] at h
   cases o with
   |lst us=>cases s a _ q with
    |lst hp _=>exact .inl ⟨h,_,SqL.of hp⟩
   |dK us=>cases s a _ q with
    |dK hp _=>exact .inr (.inr (.inl ⟨h,.inl ⟨_,hp⟩⟩))
   |dT us=>cases s a _ q with
    |dT hp _=>exact .inr (.inr (.inl ⟨h,.inr ⟨_,hp⟩⟩))
   |fK _ _ _ _=>exact h.elim
   |ins _ _=>exact h.elim
   |exc _ _=>exact h.elim
   |exg _=>exact h.elim
 |_=>exact h.elim
theorem Ek {ty:String}{g:GM}{wa:WE}{wr:WA}{U H Q}(h:lE K (wBM ty g wa wr) U H Q):tBM K ty (lM K g) (lE K wa) (lA K wr) U H Q:=by
 obtain ⟨S,J6,Qt,s,c,q,hq⟩:=h
 refine ⟨S,J6,_,s,c,q,λx H1 tx S1 f1 s1 r1 q1=>?_⟩
 refine ⟨Hd s1 r1 q1.1,S1,J6,_,s1,c.fr f1,q1.2,λvs H2 ts S2 f2 s2 r2 q2=>?_⟩
 exact ⟨S2,tx,ts,Qt,s2,r1.fr f2,r2,q2,λv H' t S' f=>hq v H' t S' ((f1.trans f2).trans f)⟩
theorem Jt {ty:String}{g:GM}{wa:WE}{wr:WA}{e:Expr}(hp:PE X e (tBM K ty (lM K g) (lE K wa) (lA K wr))):QE K X e (wBM ty g wa wr):=PE.of hp λ_ _ _ h=>Ek h
def rX (tr:Bool):GM:=λx ts S Q=>match x,ts with
 |.str a,[.str c]=>c.length≠0/\a.length<=1000/\bi tr ((Txt.split a c).map T.str) S Q
 |_,_=>False
theorem BE (tr:Bool):MtR X "str.split" (lM K (rX tr)):=by
 rintro pins s U H x vs v us Q I rx rv ⟨S,t,ts,Qt,sr,hx,rs,hg,b⟩
 cases hx<;>first|exact hg.elim|skip
 cases rs with
 |nil=>exact hg.elim
 |cons a l =>
  cases l with
  |cons _ _=>cases a<;>exact hg.elim
  |nil =>
   cases a<;>first|exact hg.elim|skip
   exact zA pins s U H _ _ v us Q I rx rv ⟨_,_,rfl,rfl,hg.1,hg.2.1,e8 sr Rps.strs hg.2.2 b⟩
def tP:GM:=λx ts S Q=>match x,ts with
 |.str a,[y]=>∃ us zs,aS S y=some us/\d6 us=some zs/\JoinOk a zs=true/\Q (.str (Txt.join a zs)) S
 |_,_=>False
theorem rY (hK:X.K=K):MtR X "str.join" (lM K tP):=by
 subst hK
 rintro pins s U H x vs v us Q I rx rv ⟨S,t,ts,Qt,sr,hx,rs,hg,b⟩
 cases hx<;>first|exact hg.elim|skip
 cases rs with
 |nil=>exact hg.elim
 |cons a l =>
  cases l with
  |cons _ _=>exact hg.elim
  |nil =>
   obtain ⟨ws,zs,e,en,hj,q⟩:=hg
   obtain ⟨p,ys,rfl,hq,rs⟩:=cw sr a e
   exact Bu pins s U H _ _ v us Q I rx rv ⟨_,p,zs,rfl,rfl,by rw [<- qK rs en];exact hq,hj,b _ H _ S .refl sr .str q⟩
def qL:GM:=λx ts S Q=>match x,ts with
 |.str a,[.str c]=>Q (.bl (Txt.startswith a c)) S
 |_,_=>False
theorem p9:MtR X "str.startswith" (lM K qL):=by
 rintro pins s U H x vs v us Q I rx rv ⟨S,t,ts,Qt,sr,hx,rs,hg,b⟩
 cases hx<;>first|exact hg.elim|skip
 cases rs with
 |nil=>exact hg.elim
 |cons a l =>
  cases l with
  |cons _ _=>cases a<;>exact hg.elim
  |nil =>
   cases a<;>first|exact hg.elim|skip
   exact wy pins s U H _ _ v us Q I rx rv ⟨_,_,rfl,rfl,b _ H _ S .refl sr .bl hg⟩
theorem El {H S}{a:Addr}{ts:List T}(s:SRp K H S) (e:S a=some (.lst ts)):∃ vs,H a=some (.lst vs)/\Rps K H S ts vs:=by
 cases s a _ e with
 |lst h r=>exact ⟨_,h,r⟩
abbrev GS:=T->T->T->Sto->(Sto->Prop)->Prop
def fJ (K:Fg) (g:GS):jj:=λo i v H Q=>∃ S to ti tv Qt,SRp K H S/\Rp K H S to o/\Rp K H S ti i/\Rp K H S tv v/\g to ti tv S Qt/\∀ H' S',Fr H S H' S'->SRp K H' S'->Qt S'->Q H'
def He:GS:=λo i v S Q=>match o,i with
 |.ref a,.int k=>∃ us j,S a=some (.lst us)/\ixN us.length k=some j/\Q (put S a (.lst (us.set j v)))
 |_,_=>False
theorem Em:dm X (fJ K He):=by
 rintro pins s U H o i v ov iv u Q I ro ri rv ⟨S,to,ti,tv,Qt,sr,hO,hI,hV,hg,b⟩
 cases hO<;>first|exact hg.elim|skip
 cases hI<;>first|exact hg.elim|skip
 rename_i a k
 obtain ⟨us,j,e,hj,q⟩:=hg
 obtain ⟨ys,hy,ry⟩:=El sr e
 have hn:S a≠none:=by rw [e];simp
 exact zv pins s U H _ _ _ ov iv u Q I ro ri rv ⟨_,ys,_,j,rfl,rfl,hy,by rw [ry.length];exact hj,b _ _ (Fr.write hn) (sr.write hn (.lst aF ((Rps.set hV j ry).fr (Fr.write hn)))) q⟩
def nF (k:Nat):GS:=λo i v S Q=>match o,i with
 |.ref a,.int j=>j=k/\∃ us,S a=some (.lst us)/\k<us.length/\Q (put S a (.lst (us.set k v)))
 |_,_=>False
theorem gD (k:Nat):dm X (fJ K (nF k)):=by
 rintro pins s U H o i v ov iv u Q I ro ri rv ⟨S,to,ti,tv,Qt,sr,hO,hI,hV,hg,b⟩
 refine Em pins s U H o i v ov iv u Q I ro ri rv ⟨S,to,ti,tv,Qt,sr,hO,hI,hV,?_,b⟩
 cases hO<;>first|exact hg.elim|skip
 cases hI<;>first|exact hg.elim|skip
 obtain ⟨rfl,us,e,hk,q⟩:=hg
 refine ⟨us,k,e,?_,q⟩
 unfold ixN
 rw [if_pos (by omega),if_pos (by omega)]
 rfl
def wgS (wo wi:WE) (g:GS):WG:=λt U S Q=>wo U S λo S1=>wi U S1 λi S2=>g o i t S2 λS3=>Q U S3
theorem En {o i:Expr}{wo wi:WE}{g:GS}{pos:Pos}(h:PG X (.Subscript o i pos) (L2.d7 (lE K wo) (lE K wi) (fJ K g))):QG K X (.Subscript o i pos) (wgS wo wi g):=PG.of h λv U H Q zz95=>by
 obtain ⟨S,t,J6,Qt,s,r,c,q,hq⟩:=zz95
 refine ⟨S,J6,_,s,c,q,λx H1 tx S1 f1 s1 r1 q1=>?_⟩
 refine ⟨S1,J6,_,s1,c.fr f1,q1,λy H2 ty S2 f2 s2 r2 q2=>?_⟩
 exact ⟨S2,tx,ty,t,_,s2,r1.fr f2,r2,(r.fr f1).fr f2,q2,λH' S' f s' q'=>hq U H' J6 S' ((f1.trans f2).trans f) s' (c.fr ((f1.trans f2).trans f)) q'⟩
end
theorem dI {w u:WS}{D:EndsT}{U:StT}{S:Sto}(M:StT->Sto->Prop) (h1:∀ X:StT->Sto->Prop,(∀ U S,M U S->X U S)->w { D with nx:=X } U S) (h2:∀ U S,M U S->u D U S):n5 w u D U S:=h1 _ h2
theorem kM {grd:Sto->Prop}{g:WG}{wb:WS}{D:EndsT}{lo:Int}{n:Nat}{U:StT}{S:Sto}(Iv:Nat->StT->Sto->Prop) (h0:Iv 0 U S)
  (step:∀ k U S (N:StT->Sto->Prop),k<n->Iv k U S->(∀ J7 S',Iv (k+1) J7 S'->N J7 S')->grd S/\g (.int (lo+k)) U S λKO S2=>wb { nx:=N,rt:=D.rt,bk:=D.nx,ct:=N } KO S2)
  (done:∀ U S,Iv n U S->grd S/\D.nx U S):dN grd g wb D (cP lo n) U S:=by
 unfold cP
 have main:∀ (m k:Nat) U S,k+m=n->Iv k U S->dN grd g wb D ((List.range' k m).map λ(i:Nat)=>T.int (lo+i)) U S:=by
  intro m
  induction m with
  |zero=>intro k U S e iv;rw [show k=n by omega] at iv;exact done U S iv
  |succ m ih =>
   intro k U S e iv
   rw [List.range'_succ,List.map_cons]
   exact step k U S _ (by omega) iv λJ7 S' iv'=>ih (k+1) J7 S' (by omega) iv'
 rw [List.range_eq_range']
 exact main n 0 U S (by omega) h0
theorem ik {grd:Sto->Prop}{g:WG}{tt:WT}{te:WE}{Q:List T->Sto->Prop}{items J9:List T}{U:StT}{S:Sto}(Iv:List T->List T->StT->Sto->Prop) (h0:Iv items J9 U S)
  (step:∀ t ts J9 U S (N:List T->StT->Sto->Prop),Iv (t::ts) J9 U S->(∀ Q3 J7 S',Iv ts Q3 J7 S'->N Q3 J7 S') ->
   grd S/\g t U S λKO S2=>tt KO S2 λb S3=>if b=true then te KO S3 λy S4=>J9.length<sizeLine/\N (J9++[y]) KO S4 else N J9 KO S3)
  (done:∀ J9 U S,Iv [] J9 U S->grd S/\Q J9 S):cS grd g tt te Q items J9 U S:=by
 induction items generalizing J9 U S with
 |nil=>exact done J9 U S h0
 |cons t ts ih=>exact step t ts J9 U S _ h0 λQ3 J7 S' iv=>ih iv
theorem eJ {α:Type}{grd:Sto->Prop}{g:WG}{tt:WT}{te:WE}{Q:List T->Sto->Prop}(f:α->T) (φ:α->Option T) (cs:StT){ls:List α}{S:Sto}(hg:grd S) (hz:ls.length<=sizeLine)
  (step:∀ a∈ls,∀ (u:Option T) (J9:List T) (N:List T->StT->Sto->Prop),J9.length<sizeLine->(∀ u',N (J9++(φ a).toList) (u'::cs) S) ->
   g (f a) (u::cs) S λKO S2=>tt KO S2 λb S3=>if b=true then te KO S3 λy S4=>J9.length<sizeLine/\N (J9++[y]) KO S4 else N J9 KO S3)
  (done:Q (ls.filterMap φ) S):cS grd g tt te Q (ls.map f) [] (none::cs) S:=by
 refine ik (λitems J9 J7 S'=>∃ pre M9 u,ls=pre++M9/\items=M9.map f/\J9=pre.filterMap φ/\J7=u::cs/\S'=S) ⟨[],ls,none,rfl,rfl,rfl,rfl,rfl⟩ ?_ ?_
 ·rintro t ts J9 J7 S' N ⟨pre,M9,u,e,e2,rfl,rfl,rfl⟩ hN
  cases M9 with
  |nil=>cases e2
  |cons a r =>
   simp only [List.map_cons,List.cons.injEq] at e2
   obtain ⟨rfl,rfl⟩:=e2
   refine ⟨hg,step a (by rw [e];simp) u _ N ?_ λu'=>hN _ _ _ ⟨pre++[a],r,u',by rw [e];simp,rfl,?_,rfl,rfl⟩⟩
   ·have h1:=List.length_filterMap_le φ pre
    have h2:=congrArg List.length e
    simp only [List.length_append,List.length_cons] at h2
    omega
   ·rw [List.filterMap_append];cases h:φ a<;>simp [h]
 ·rintro J9 J7 S' ⟨pre,M9,u,e,e2,rfl,rfl,rfl⟩
  cases M9 with
  |nil=>rw [List.append_nil] at e;subst e;exact ⟨hg,done⟩
  |cons a r=>cases e2
section
variable {U:StT}{S S0:Sto}{D:EndsT}{Q:T->Sto->Prop}{B:Bool->Sto->Prop}{L:List T->Sto->Prop}{t x y z:T}{p:Addr}
theorem Hf {w u:WS}(h:w { D with nx:=u D } U S):n5 w u D U S:=h
theorem Eo (h:D.nx U S):tI D U S:=h
theorem Ep {w:WE}(h:w U S λ_ S1=>D.nx U S1):tJ w D U S:=h
theorem Hg {w:WE}(h:w U S D.rt):u0 w D U S:=h
theorem Hh {t:WT}{w u:WS}(h:t U S λb S1=>if b=true then w D U S1 else u D U S1):u5 t w u D U S:=h
theorem Hi {w:WE}{g:WG}(h:w U S λt S1=>g t U S1 D.nx):eg w g D U S:=h
theorem tQ {i:Nat}{KO:StT}{Q:StT->Sto->Prop}(e:U.set i (some t)=KO) (h:Q KO S):wgN i t U S Q:=by subst e;exact h
theorem Ju {wo wi:WE}{g:GS}{Q:StT->Sto->Prop}(h:wo U S λo S1=>wi U S1 λi S2=>g o i t S2 λS3=>Q U S3):wgS wo wi g t U S Q:=h
theorem Jv {n:Nat}{g:WGs}{ts:List T}{Q:StT->Sto->Prop}(l:ts.length=n) (h:g ts U S Q):tL n g (.tup ts) U S Q:=⟨ts,rfl,l,h⟩
theorem BF {g:WG}{h:WGs}{ts:List T}{Q:StT->Sto->Prop}(q:g t U S λJ7 S'=>h ts J7 S' Q):rS g h (t::ts) U S Q:=⟨t,ts,rfl,q⟩
theorem Er {Q:StT->Sto->Prop}(q:Q U S):tK [] U S Q:=⟨rfl,q⟩
theorem Hj {wi:WI}{g:WG}{wb:WS}(h:wi U S λsrc S1=>dN src.grd g wb D src.items U S1):n9 wi g wb D U S:=h
theorem i_V {i:Nat}(e:U[i]?=some (some t)) (h:Q t S):wV i U S Q:=⟨t,e,h⟩
theorem i_C (h:Q t S):wC t U S Q:=h
theorem i_2 {g:G2}{wa wb:WE}(h:wa U S λx S1=>wb U S1 λy S2=>g x y S2 Q):w2 g wa wb U S Q:=h
theorem i_B {w:WE}(h:w U S λx S1=>∃ k,x=.bl k/\B k S1):wB w U S B:=h
theorem Jw {k:Bool}{C:Bool->Prop}(h:C k):∃ k',T.bl k=.bl k'/\C k':=⟨k,rfl,h⟩
theorem BG {g g':G2}{wa wb wc:WE}(h:wa U S λx S1=>wb U S1 λy S2=>g x y S2 λz S3=>∃ k,z=.bl k/\if k=true then wc U S3 λu S4=>g' y u S4 Q else Q (.bl false) S3):iM g g' wa wb wc U S Q:=h
theorem Hk {t u:WT}(h:t U S λc S1=>if c=true then u U S1 B else B false S1):uV t u U S B:=h
theorem Jx {t u:WT}(h:t U S λc S1=>if c=true then B true S1 else u U S1 B):wOr t u U S B:=h
theorem Hl {t:WT}(h:t U S λc S1=>B (!c) S1):uW t U S B:=h
theorem Es (h:B true S):jb U S B:=h
theorem Et {wa wb:WE}(h:wa U S λx S1=>∃ k,x=.bl k/\if k=true then wb U S1 Q else Q (.bl false) S1):tE wa wb U S Q:=h
theorem Hm {wa wb:WE}(h:wa U S λx S1=>∃ k,x=.bl k/\if k=true then Q (.bl true) S1 else wb U S1 Q):uX wa wb U S Q:=h
theorem Eu {wa:WE}(h:wa U S λx S1=>∃ k,x=.bl k/\Q (.bl (!k)) S1):tF wa U S Q:=h
theorem Jy {t:WT}{wa wb:WE}(h:t U S λc S1=>if c=true then wa U S1 Q else wb U S1 Q):wIf t wa wb U S Q:=h
theorem Hn (h:L [] S):dM U S L:=h
theorem Ev {wa:WE}{wr:WA}(h:wa U S λx S1=>wr U S1 λxs S2=>L (x::xs) S2):tG wa wr U S L:=h
theorem Ho {wr:WA}(h:wr U S λts S1=>ts.length<=sizeLine/\Q (.tup ts) S1):uY wr U S Q:=h
theorem Hq {wr:WA}(h:wr U S λts S1=>ts.length<=sizeLine/\Q (.lst ts) S1):uZ wr U S Q:=h
theorem Ew {wr:WA}(h:wr U S λts S1=>ts.length<=sizeLine/\∀ p,S1 p=none->Q (.ref p) (put S1 p (.lst ts))):tH wr U S Q:=h
theorem Ex {w:WSp}{LF:List T}{wr:WA}(h:wr U S λts S1=>w (ts++LF) S1 Q):gQ w LF wr U S Q:=h
theorem Jz {g:GC}{wr:WA}(h:wr U S λts S1=>g ts S1 Q):wCB g wr U S Q:=h
theorem JA {ty:String}{g:GM}{wa:WE}{wr:WA}(h:wa U S λx S1=>tyM ty S1 x/\wr U S1 λts S2=>g x ts S2 Q):wBM ty g wa wr U S Q:=h
theorem Hr {wa:WE}(h:wa U S λx S1=>match x with|.int i=>Q (.int (-i)) S1|_=>False):vf wa U S Q:=h
theorem JB {tr:Bool}{wa:WE}{wl wh:WO}(h:wa U S λx S1=>wl U S1 λl S2=>wh U S2 λh S3=>gSl tr x l h S3 Q):wSl tr wa wl wh U S Q:=h
theorem JC {O':Option Int->Sto->Prop}(h:O' none S):woN U S O':=h
theorem JD {wa:WE}{O':Option Int->Sto->Prop}(h:wa U S λx S1=>match x with|.int i=>O' (some i) S1|_=>False):woS wa U S O':=h
theorem Ey {tr:Bool}{wi:WI}{n:Nat}{Kc:List Nat}{g:WG}{tt:WT}{te:WE}(h:wi U S λsrc S1=>cS src.grd g tt te (λts S2=>bi tr ts S2 Q) src.items [] (eS n Kc U) S1):jc tr wi n Kc g tt te U S Q:=h
theorem Ez {ts:List T}(h:Q (.lst ts) S):bi false ts S Q:=h
variable {R:Src->Sto->Prop}
theorem JE {wa:WE}(h:wa U S λx S1=>∃ ts,aS S1 x=some ts/\R ⟨ts,c8 x ts⟩ S1):wiL wa U S R:=h
theorem Hs {wa:WE}(h:wa U S λx S1=>match x with|.int j=>-(2 ^ 62)<=j/\j<2 ^ 62/\R ⟨cP 0 j.toNat,λ_=>True⟩ S1|_=>False):vg wa U S R:=h
theorem JF {wa:WE}(h:wa U S λx S1=>match x with|.str z=>R ⟨gC z,λ_=>True⟩ S1|_=>False):wiS wa U S R:=h
variable {i j:Int}{a c:Str}{ts us:List T}
theorem Ht (h:Q (.int (i - j)) S):d7 (.int i) (.int j) S Q:=⟨trivial,h⟩
theorem Hu (h0:0<j) (h1:j<18446744073709551616) (h:Q (.int (i / j)) S):u6 (.int i) (.int j) S Q:=⟨⟨h0,h1⟩,h⟩
theorem Hv (h0:0<j) (h:Q (.int (i % j)) S):u8 (.int i) (.int j) S Q:=⟨h0,h⟩
theorem Hw (h0:0<=j) (h:Q (.int (i / 2 ^ j.toNat)) S):u9 (.int i) (.int j) S Q:=⟨h0,h⟩
theorem EA {tr:Bool}(h:Q (.int (i+j)) S):js tr (.int i) (.int j) S Q:=h
theorem EB {tr:Bool}(h0:a.length+c.length<=sizeLine) (h:Q (.str (a++c)) S):js tr (.str a) (.str c) S Q:=⟨h0,h⟩
theorem iP {tr:Bool}(e1:cI S x=some ts) (e2:cI S y=some us) (hz:ts.length+us.length<=sizeLine) (h:bi tr (ts++us) S Q):js tr x y S Q:=by
 cases x<;>first|(cases e1;done)|exact ⟨ts,us,e1,e2,hz,h⟩
theorem EC {tr:Bool}(h0:gZ i j) (h:Q (.int (i * j)) S):va tr (.int i) (.int j) S Q:=⟨h0,h⟩
theorem Hx {n:Bool}(h:Q (.bl (n ^^ decide (i=j))) S):gEq n (.int i) (.int j) S Q:=h
theorem Hy {n:Bool}(h:Q (.bl (n ^^ decide (a=c))) S):gEq n (.str a) (.str c) S Q:=h
theorem Hz (h:Q (.bl (decide (i<j))) S):gLt (.int i) (.int j) S Q:=h
theorem HA (h:Q (.bl (decide (i<=j))) S):gLe (.int i) (.int j) S Q:=h
theorem HB (h:Q (.bl (decide (j<i))) S):gGt (.int i) (.int j) S Q:=h
theorem HC (h:Q (.bl (decide (j<=i))) S):gGe (.int i) (.int j) S Q:=h
theorem HD (h:Q (.bl (!ltS c a)) S):gLe (.str a) (.str c) S Q:=h
theorem JG {n:Bool}(h:Q (.bl (n ^^ isN x)) S):gIs n x .non S Q:=h
theorem nG (e:atI ts i=some t) (h:Q t S):gIx (.tup ts) (.int i) S Q:=⟨t,e,h⟩
theorem nH (e:atI ts i=some t) (h:Q t S):gIx (.lst ts) (.int i) S Q:=⟨t,e,h⟩
theorem tR (e:S p=some (.lst ts)) (e2:atI ts i=some t) (h:Q t S):gIx (.ref p) (.int i) S Q:=⟨t,(Ed e).trans e2,h⟩
theorem tS {d:Nat}(hz:a.length<=sizeLine) (e:atI a.cps.toList i=some d) (h:Q (.str ⟨#[d]⟩) S):gIx (.str a) (.int i) S Q:=⟨_,by show (if _ then _ else _)=_;rw [if_pos hz,e];rfl,h⟩
theorem tT {tr:Bool}{lo hi:Option Int}(hz:a.length<=sizeLine) (h:Q (.str (Txt.slice a lo hi)) S):gSl tr (.str a) lo hi S Q:=⟨hz,h⟩
theorem tU {tr:Bool}{lo hi:Option Int}(h:bi tr (em ts lo hi) S Q):gSl tr (.lst ts) lo hi S Q:=⟨ts,rfl,h⟩
theorem mQ {α:Type}{ls:List α}(h0:0<=i) (h1:i<ls.length):∃ z,atI ls i=some z/\z∈ls:=by
 have hj:i.toNat<ls.length:=by omega
 refine ⟨ls[i.toNat],?_,List.getElem_mem hj⟩
 have e:((i.toNat:Nat):Int)=i:=by omega
 have:=lY (xs:=ls) (j:=i.toNat) (v:=ls[i.toNat]) (by simp [hj])
 rw [e] at this
 exact this
theorem BH {α β:Type}{ls:List α}(f:α->β):atI (ls.map f) i=(atI ls i).map f:=by
 unfold atI
 rw [List.length_map]
 cases ixN ls.length i with
 |none=>rfl
 |some j=>simp [List.getElem?_map]
theorem nI (P:T->Prop) (h0:0<=i) (h1:i<ts.length) (hp:∀ t∈ts,P t) (h:∀ t,P t->Q t S):gIx (.lst ts) (.int i) S Q:=by
 obtain ⟨z,e,hz⟩:=mQ h0 h1
 exact ⟨z,by simp only [Ee,e],h z (hp z hz)⟩
theorem tV {ns:List Int}(h0:0<=i) (h1:i<ns.length) (h:∀ z,z∈ns->atI ns i=some z->Q (.int z) S):gIx (.scr ns) (.int i) S Q:=by
 obtain ⟨z,e,hz⟩:=mQ h0 h1
 exact ⟨.int z,by show atI (ns.map T.int) i=_;simp only [BH,e,Option.map_some],h z hz e⟩
theorem BI {Q:Sto->Prop}{k:Nat}(e0:i=k) (hk:k<ts.length) (e:ts.set k t=us) (h:Q (put S p (.lst us))):nF k (.ref p) (.int i) t (put S p (.lst ts)) Q:=⟨e0,ts,aA,hk,by rw [dB,e];exact h⟩
theorem ED {Q:Sto->Prop}{k:Nat}(e1:S p=some (.lst ts)) (e0:i=k) (hk:k<ts.length) (e:ts.set k t=us) (h:Q (put S p (.lst us))):nF k (.ref p) (.int i) t S Q:=⟨e0,ts,e1,hk,by rw [e];exact h⟩
theorem EE (hz:a.length<=sizeLine) (h:Q (.int a.length) S):jv [.str a] S Q:=⟨_,if_pos hz,h⟩
theorem BJ:ju S (.lst ts)=some (ts.length:Int):=rfl
theorem BK {ns:List Int}:ju S (.scr ns)=some ((ns.map T.int).length:Int):=rfl
theorem EF {α:Type}{f:α->T}{ls:List α}(h:Q (.int ls.length) S):jv [.lst (ls.map f)] S Q:=⟨_,by rw [BJ,List.length_map],h⟩
theorem EG {ns:List Int}(h:Q (.int ns.length) S):jv [.scr ns] S Q:=⟨_,by rw [BK,List.length_map],h⟩
theorem HE {K:Fg}{n:String}{v:Value}{b:Bool}(e:tyT S x=some v) (k:PySem.W.kitOne K v (.type n)=some b) (h:Q (.bl b) S):vi K [x,.ty n] S Q:=⟨v,b,e,k,h⟩
theorem mR {bs:List Bool}(e:dO ts=some bs) (h:Q (.bl (bs.all id)) S):vj [.lst ts] S Q:=⟨ts,bs,rfl,e,h⟩
theorem EH {k:Bool}(h:Q (.int (if k then 1 else 0)) S):vk [.bl k] S Q:=h
theorem BL {tr:Bool}(e:S p=some (.lst ts)) (h:bi tr ts S Q):tN tr [.ref p] S Q:=⟨ts,iO e,h⟩
theorem BM {tr:Bool}(h0:c.length≠0) (h1:a.length<=1000) (h:bi tr ((Txt.split a c).map T.str) S Q):rX tr (.str a) [.str c] S Q:=⟨h0,h1,h⟩
theorem qM {zs:List Str}(e:d6 ts=some zs) (h0:JoinOk a zs=true) (h:Q (.str (Txt.join a zs)) S):tP (.str a) [.lst ts] S Q:=⟨ts,zs,rfl,e,h0,h⟩
theorem zP (h:Q (.bl (Txt.startswith a c)) S):qL (.str a) [.str c] S Q:=h
theorem HF {Q:Prop}(h:Q):tyM "str" S (.str a)/\Q:=⟨rfl,h⟩
theorem HG {A:List T->Prop}(h:A ts):∃ us,aS S (.lst ts)=some us/\A us:=⟨ts,rfl,h⟩
theorem HH {A:List T->Prop}(e:S p=some (.lst ts)) (h:A ts):∃ us,aS S (.ref p)=some us/\A us:=⟨ts,iO e,h⟩
theorem JH {ts:List T}{n:Nat}{Q:Prop}(e:ts.length<=sizeLine) (h:Q):ts.length<=sizeLine/\Q:=⟨e,h⟩
theorem EI (hz:a.length<=sizeLine) (h0:0<=i) (h1:i<a.length) (h:∀ d,d∈a.cps.toList->atI a.cps.toList i=some d->Q (.str ⟨#[d]⟩) S):gIx (.str a) (.int i) S Q:=by
 obtain ⟨d,e,hd⟩:=mQ (ls:=a.cps.toList) h0 (by simpa [Str.length] using h1)
 exact tS hz e (h d hd e)
theorem bS {a b:Addr}{o:O}(h:T2.put S a o b=Option.none):b≠a/\S b=Option.none:=by
 have ne:b≠a:=λz=>by rw [z,aA] at h;cases h
 exact ⟨ne,by rw [av ne] at h;exact h⟩
def g7 {α:Type}(ls:List α) (lo hi:Option Int):List α:=(ls.drop (HT.sIx ls.length 0 lo)).take (HT.sIx ls.length ls.length hi - HT.sIx ls.length 0 lo)
theorem zQ {α:Type}{f:α->T}{ls:List α}{lo hi:Option Int}:em (ls.map f) lo hi=(g7 ls lo hi).map f:=by
 unfold em g7
 rw [List.length_map,List.map_take,List.map_drop]
theorem qN {α:Type}{ls:List α}{k:Int}(h:0<=k):g7 ls none (some k)=ls.take k.toNat:=by
 unfold g7
 have e:((k.toNat:Nat):Int)=k:=by omega
 rw [<- e,HT.sIx_nat,HT.sIx_none,Int.toNat_natCast,List.drop_zero,Nat.sub_zero,Nat.min_comm,<- List.take_take]
 exact List.take_of_length_le (by rw [List.length_take];omega)
theorem HI {tr:Bool}{α:Type}{f:α->T}{ls:List α}{lo hi:Option Int}(h:bi tr ((g7 ls lo hi).map f) S Q):gSl tr (.lst (ls.map f)) lo hi S Q:=tU (by rw [zQ];exact h)
theorem HJ {A:Prop}(h0:-(2 ^ 62)<=j) (h1:j<2 ^ 62) (h:A):-(2 ^ 62)<=j/\j<2 ^ 62/\A:=⟨h0,h1,h⟩
theorem ifT {A C:Prop}(h:A):if true=true then A else C:=by rw [if_pos rfl];exact h
theorem ifF {A C:Prop}(h:C):if false=true then A else C:=by rw [if_neg Bool.false_ne_true];exact h
theorem JI {A C:Prop}(h:C):if (!true)=true then A else C:=ifF h
theorem JJ {A C:Prop}(h:A):if (!false)=true then A else C:=ifT h
theorem ifB {b:Bool}{A C:Prop}(h1:b=true->A) (h2:b=false->C):if b=true then A else C:=by
 cases b with
 |true=>exact ifT (h1 rfl)
 |false=>exact ifF (h2 rfl)
end
end T2
namespace S6
open PySem PyProof.Rows
noncomputable def rk (ρ:Keyed->Nat) (xs:Array Keyed) (i:Nat):Nat:=((xs[i]?).map ρ).getD 0
theorem tW {ρ:Keyed->Nat}{xs ys:Array Keyed}{i j:Nat}(h:xs[i]?=ys[j]?):rk ρ xs i=rk ρ ys j:=by unfold rk;rw [h]
theorem gF {ρ:Keyed->Nat}{xs:Array Keyed}{i j:Nat}(hj:j<=xs.size) (k:Nat) :
  rk ρ (mirror xs i j ((j - i) / 2)) k=rk ρ xs (if i<=k/\k<j then i+j - 1 - k else k):=by
 refine tW ?_
 rw [getElem?_mirror_all hj]
 split<;>rfl
theorem qO {ρ:Keyed->Nat}{xs:Array Keyed}{n d:Nat}(hn:n<xs.size) (hd:d<=n) (k:Nat) :
  rk ρ (bubble xs n d) k=rk ρ xs (if k=n - d then n else if n - d<k/\k<=n then k - 1 else k):=by
 refine tW ?_
 rw [getElem?_bubble hn d hd]
 split
 ·rfl
 ·split<;>rfl
def Up (ρ:Keyed->Nat) (xs:Array Keyed) (n:Nat):Prop:=∀ i j,i<=j->j<n->rk ρ xs i<=rk ρ xs j
def Dn (ρ:Keyed->Nat) (xs:Array Keyed) (n:Nat):Prop:=∀ i j,i<=j->j<n->rk ρ xs j<=rk ρ xs i
structure Ok (kd:SortKind) (a₀:Array Keyed) (st:SortSt):Prop where
 perm:(arrOf st).Perm a₀
 kind:kindOf st=kd
 well:failedOf st=none
 runs:pendingOf st=#[]
theorem Ok.sz {kd a₀ st}(o:Ok kd a₀ st):(arrOf st).size=a₀.size:=o.perm.size_eq
theorem Ok.arr {kd a₀ st xs}(o:Ok kd a₀ st) (h:xs.Perm (arrOf st)):Ok kd a₀ (setArr st xs):=⟨h.trans o.perm,o.kind,o.well,o.runs⟩
def Cm (prog:Program) (w:World) (A:Around) (s:Shared) (kd:SortKind) (a₀:Array Keyed) (ρ:Keyed->Nat):Prop :=
 ∀ x y,x∈a₀.toList->y∈a₀.toList->∀ (E:Value->Shared->Prop) (Q:Bool->Shared->Prop),Q (decide (ρ x<ρ y)) s->wpAny (model prog w) A (keyLt' kd x.1 y.1) Q E s
section
variable {prog:Program}{w:World}{A:Around}{E:Value->Shared->Prop}{s:Shared}{a₀:Array Keyed}{kd:SortKind}{ρ:Keyed->Nat}{st:SortSt}
theorem gG {i j:Nat}{Q:Option Bool->SortSt->Prop}(C:Cm prog w A s kd a₀ ρ) (o:Ok kd a₀ st) (hi:i<a₀.size) (hj:j<a₀.size) (h:Q (some (decide (rk ρ (arrOf st) i<rk ρ (arrOf st) j))) st) :
  wpS (model prog w) A E s (ltAt' i j) Q st:=by
 have get:∀ k,k<a₀.size->∃ p,(arrOf st)[k]?=some p/\p∈a₀.toList:=λk hk=>by
  have hk':k<(arrOf st).size:=by rw [o.sz];exact hk
  exact ⟨_,getElem?_pos _ k hk',(Array.perm_iff_toList_perm.mp o.perm).mem_iff.mp (by simp)⟩
 obtain ⟨p,ep,mp⟩:=get i hi
 obtain ⟨q,eq,mq⟩:=get j hj
 have h':Q (some (decide (ρ p<ρ q))) st:=by unfold rk at h;rw [ep,eq] at h;exact h
 rw [ltAt'_eq]
 refine wpS_bind (wpS_get ?_)
 dsimp only
 rw [elem'_eq,ep]
 refine wpS_bind (wpS_pure ?_)
 rw [elem'_eq,eq]
 refine wpS_bind (wpS_pure ?_)
 rw [lt'_eq]
 refine wpS_bind (wpS_get (wpS_bind ?_))
 rw [o.kind]
 exact wpS_lift (wpAny_attempt (C p q mp mq _ _ ⟨rfl,wpS_pure h'⟩))
theorem tX {a n:Nat}{Q:AscSt->SortSt->Prop}(C:Cm prog w A s kd a₀ ρ) (o:Ok kd a₀ st) (hn:n<=a₀.size) (h1:1<=a) (ha:a<=n) (u:Up ρ (arrOf st) a)
  (h:∀ m,a<=m->m<=n->Up ρ (arrOf st) m->(m<n->rk ρ (arrOf st) m<rk ρ (arrOf st) (m - 1))->Q (none,m) st):wpS (model prog w) A E s (ascLoop a n) Q st:=by
 unfold ascLoop
 refine wpS_forRange (λk c z=>z=st/\c=(none,k)/\Up ρ (arrOf st) k) ?_ ?_ ⟨rfl,rfl,u⟩
 ·rintro k c z l1 l2 ⟨rfl,rfl,uk⟩
  refine wpS_bind (gG C o (by dsimp only;omega) (by dsimp only;omega) ?_)
  dsimp only
  by_cases g:rk ρ (arrOf z) k<rk ρ (arrOf z) (k - 1)
  ·rw [decide_eq_true g]
   exact wpS_pure (h k l1 (by omega) uk λ_=>g)
  ·rw [decide_eq_false g]
   refine wpS_pure ⟨rfl,rfl,λi j ij jk=>?_⟩
   rcases Nat.lt_or_ge j k with q|q
   ·exact uk i j ij q
   ·obtain rfl:j=k:=by omega
    rcases Nat.lt_or_ge i j with q|q
    ·have:=uk i (j - 1) (by omega) (by omega)
     omega
    ·obtain rfl:i=j:=by omega
     exact Nat.le_refl _
 ·rintro c z ⟨rfl,rfl,uk⟩
  rw [Nat.max_eq_right ha] at uk ⊢
  exact h n ha (Nat.le_refl _) uk λq=>absurd q (Nat.lt_irrefl _)
theorem rZ {m n:Nat}{Q:Option Nat->SortSt->Prop}(C:Cm prog w A s kd a₀ ρ) (o:Ok kd a₀ st) (hn:n<=a₀.size) (h1:1<=m) (hm:m<=n) (d:Dn ρ (arrOf st) m)
  (h:∀ k z,Ok kd a₀ z->1<=k->k<=n->Up ρ (arrOf z) k->Q (some k) z):wpS (model prog w) A E s (tail3 m n) Q st:=by
 unfold tail3
 refine wpS_bind (wpS_reverse ?_)
 have o':Ok kd a₀ (setArr st (mirror (arrOf st) 0 m ((m - 0) / 2))):=o.arr (mirror_perm _ _ _ _)
 refine wpS_bind (tX C o' hn h1 hm (λi j ij jm=>?_) λk k1 k2 uk _=>wpS_pure (h k _ o' (by omega) k2 uk))
 show rk ρ (mirror (arrOf st) 0 m ((m - 0) / 2)) i<=rk ρ (mirror (arrOf st) 0 m ((m - 0) / 2)) j
 rw [gF (by rw [o.sz];omega),gF (by rw [o.sz];omega),if_pos (by omega),if_pos (by omega)]
 exact d _ _ (by omega) (by omega)
def Lk (ρ:Keyed->Nat) (xs:Array Keyed) (m e:Nat):Prop:=e+1<=m/\∀ i,m - (e+1)<=i->i<m->rk ρ xs i=rk ρ xs (m - 1)
theorem Lk.rev {xs:Array Keyed}{m e:Nat}(l:Lk ρ xs m e) (hm:m<=xs.size) (k:Nat):rk ρ (mirror xs (m - (e+1)) m ((m - (m - (e+1))) / 2)) k=rk ρ xs k:=by
 rw [gF hm]
 split
 ·rename_i q
  rw [l.2 _ (by have:=l.1;omega) (by omega),l.2 k q.1 q.2]
 ·rfl
theorem EJ {m n:Nat}{Q:DescSt->SortSt->Prop}(C:Cm prog w A s kd a₀ ρ) (o:Ok kd a₀ st) (hn:n<=a₀.size) (h1:1<=m) (hm:m<=n) (d:Dn ρ (arrOf st) m)
  (h:∀ k e z,Ok kd a₀ z->m<=k->k<=n->Dn ρ (arrOf z) k->Lk ρ (arrOf z) k e->Q (none,k,e) z):wpS (model prog w) A E s (descLoop m n) Q st:=by
 unfold descLoop
 refine wpS_forRange (λk c z=>∃ e,c=(none,k,e)/\Ok kd a₀ z/\Dn ρ (arrOf z) k/\Lk ρ (arrOf z) k e) ?_ ?_ ⟨0,rfl,o,d,h1,λi i1 i2=>by rw [show i=m - 1 by omega]⟩
 ·rintro k c z l1 l2 ⟨e,rfl,oz,dz,lz⟩
  refine wpS_bind (gG C oz (by dsimp only;omega) (by dsimp only;omega) ?_)
  dsimp only
  have more:∀ xs:Array Keyed,(∀ i,rk ρ xs i=rk ρ (arrOf z) i)->rk ρ (arrOf z) k<=rk ρ (arrOf z) (k - 1)->Dn ρ xs (k+1):=λxs hx le i j ij jk=>by
   rw [hx,hx]
   rcases Nat.lt_or_ge j k with q|q
   ·exact dz i j ij q
   ·obtain rfl:j=k:=by omega
    rcases Nat.lt_or_ge i j with q|q
    ·have:=dz i (j - 1) (by omega) (by omega)
     omega
    ·obtain rfl:i=j:=by omega
     exact Nat.le_refl _
  by_cases g:rk ρ (arrOf z) k<rk ρ (arrOf z) (k - 1)
  ·rw [decide_eq_true g]
   simp only [if_true]
   split
   ·refine wpS_bind (wpS_reverse (wpS_pure ⟨0,rfl,oz.arr (mirror_perm _ _ _ _),more _ (lz.rev (by rw [oz.sz];omega)) (by omega),by omega,λi i1 i2=>by rw [show i=k+1 - 1 by omega]⟩))
   ·exact wpS_pure ⟨0,rfl,oz,more _ (λ_=>rfl) (by omega),by omega,λi i1 i2=>by rw [show i=k+1 - 1 by omega]⟩
  ·rw [decide_eq_false g]
   simp only [Bool.false_eq_true,if_false]
   refine wpS_bind (gG C oz (by omega) (by omega) ?_)
   by_cases g2:rk ρ (arrOf z) (k - 1)<rk ρ (arrOf z) k
   ·rw [decide_eq_true g2]
    simp only [if_true]
    exact wpS_pure (h k e z oz l1 (by omega) dz lz)
   ·rw [decide_eq_false g2]
    simp only [Bool.false_eq_true,if_false]
    refine wpS_pure ⟨e+1,rfl,oz,more _ (λ_=>rfl) (by omega),by have:=lz.1;omega,λi i1 i2=>?_⟩
    rw [show k+1 - 1=k by omega]
    rcases Nat.lt_or_ge i k with q|q
    ·rw [lz.2 i (by omega) q];omega
    ·rw [show i=k by omega]
 ·rintro c z ⟨e,rfl,oz,dz,lz⟩
  rw [Nat.max_eq_right hm] at dz lz ⊢
  exact h n e z oz hm (Nat.le_refl _) dz lz
theorem o8 {m n:Nat}{Q:Option Nat->SortSt->Prop}(C:Cm prog w A s kd a₀ ρ) (o:Ok kd a₀ st) (hn:n<=a₀.size) (hm:m+1<=n) (d:Dn ρ (arrOf st) (m+1))
  (h:∀ k z,Ok kd a₀ z->1<=k->k<=n->Up ρ (arrOf z) k->Q (some k) z):wpS (model prog w) A E s (descPart m n) Q st:=by
 unfold descPart
 refine wpS_bind (wpS_lift (wpAny_rule ⟨rfl,wpS_bind (EJ C o hn (by omega) hm d λk e z oz k1 k2 dz lz=>?_)⟩))
 dsimp only
 split
 ·refine wpS_bind (wpS_reverse (rZ C (oz.arr (mirror_perm _ _ _ _)) hn (by omega) k2 (λi j ij jk=>?_) h))
  have e:=lz.rev (by rw [oz.sz];omega)
  show rk ρ (mirror _ _ _ _) j<=rk ρ (mirror _ _ _ _) i
  rw [e,e]
  exact dz i j ij jk
 ·exact rZ C oz hn (by omega) k2 dz h
theorem BN {n:Nat}{Q:Option Nat->SortSt->Prop}(C:Cm prog w A s kd a₀ ρ) (o:Ok kd a₀ st) (hn:n<=a₀.size) (h1:1<=n)
  (h:∀ k z,Ok kd a₀ z->1<=k->k<=n->Up ρ (arrOf z) k->Q (some k) z):wpS (model prog w) A E s (countRun' 0 n) Q st:=by
 rw [countRun0_eq]
 refine wpS_bind (tX C o hn (Nat.le_refl _) h1 (λi j ij j1=>by rw [show i=j by omega];exact Nat.le_refl _) λm m1 m2 um lm=>?_)
 dsimp only
 split
 ·rename_i q
  exact wpS_pure (h m st o m1 m2 um)
 ·rename_i q
  have mn:m<n:=by
   rcases Nat.lt_or_ge m n with z|z
   ·exact z
   ·exact (q (beq_iff_eq.mpr (by omega))).elim
  have gm:=lm mn
  split
  ·refine wpS_bind (gG C o (by omega) (by omega) ?_)
   dsimp only
   by_cases g:rk ρ (arrOf st) 0<rk ρ (arrOf st) (m - 1)
   ·rw [decide_eq_true g]
    exact wpS_pure (h m st o m1 m2 um)
   ·rw [decide_eq_false g]
    refine wpS_bind (wpS_reverse (o8 C (o.arr (mirror_perm _ _ _ _)) hn mn (λi j ij jm=>?_) h))
    have all:∀ i,i<m->rk ρ (arrOf st) i=rk ρ (arrOf st) (m - 1):=λi im=>by
     have a1:=um 0 i (by omega) im
     have a2:=um i (m - 1) (by omega) (by omega)
     omega
    show rk ρ (mirror _ _ _ _) j<=rk ρ (mirror _ _ _ _) i
    rw [gF (by rw [o.sz];omega),gF (by rw [o.sz];omega)]
    rcases Nat.lt_or_ge j m with q1|q1
    ·rw [if_pos (by omega),if_pos (by omega),all _ (by omega),all (0+m - 1 - i) (by omega)]
     exact Nat.le_refl _
    ·obtain rfl:j=m:=by omega
     rw [if_neg (by omega)]
     split
     ·rw [all (0+j - 1 - i) (by omega)];omega
     ·rw [show i=j by omega];exact Nat.le_refl _
  ·refine o8 C o hn mn (λi j ij jm=>?_) h
   obtain rfl:m=1:=by omega
   rcases Nat.lt_or_ge i j with q1|q1
   ·obtain ⟨rfl,rfl⟩:i=0/\j=1:=by omega
    exact Nat.le_of_lt gm
   ·rw [show i=j by omega];exact Nat.le_refl _
theorem HK {n ok:Nat}{Q:Bool->SortSt->Prop}(C:Cm prog w A s kd a₀ ρ) (o:Ok kd a₀ st) (hn:n<=a₀.size) (hk:ok<=n) (u:Up ρ (arrOf st) ok)
  (h:∀ z,Ok kd a₀ z->Up ρ (arrOf z) n->Q true z):wpS (model prog w) A E s (binarySort' 0 n ok) Q st:=by
 rw [binarySort'_eq]
 simp only [Nat.zero_add]
 have first:∀ {k:Nat},k<=max ok 1->Up ρ (arrOf st) k:=fun {k} hk1 i j ij jk=>by
  rcases Nat.lt_or_ge j ok with q|q
  ·exact u i j ij q
  ·rw [show i=j by omega];exact Nat.le_refl _
 refine wpS_bind (wpS_mono (wpS_forRange (λk c z=>c=(none,())/\Ok kd a₀ z/\∀ i,i<=k->i<=n->Up ρ (arrOf z) i) (Q:=λc z=>c=(none,())/\Ok kd a₀ z/\Up ρ (arrOf z) n) ?_ ?_ ⟨rfl,o,λi i1 _=>first i1⟩) ?_)
 ·rintro k c z l1 l2 ⟨rfl,oz,uz⟩
  have uk:=uz k (Nat.le_refl _) (by omega)
  have kz:k<(arrOf z).size:=by rw [oz.sz];omega
  refine wpS_bind (wpS_mono (wpS_forRange
   (λi c y=>y=z/\∃ l r,c=(none,l,r)/\l<=r/\r<=k/\r+i<=l+k/\(∀ j,j<l->rk ρ (arrOf z) j<=rk ρ (arrOf z) k)/\∀ j,r<=j->j<k->rk ρ (arrOf z) k<rk ρ (arrOf z) j)
   (Q:=λc y=>y=z/\∃ l r,c=(none,l,r)/\l<=k/\(∀ j,j<l->rk ρ (arrOf z) j<=rk ρ (arrOf z) k)/\∀ j,l<=j->j<k->rk ρ (arrOf z) k<rk ρ (arrOf z) j) ?_ ?_
   ⟨rfl,0,k,rfl,Nat.zero_le _,Nat.le_refl _,by omega,λj j0=>absurd j0 (Nat.not_lt_zero _),λj j1 j2=>by omega⟩) ?_)
  ·rintro i c y i1 i2 ⟨rfl,l,r,rfl,lr,rk',lk,lo,hi⟩
   dsimp only
   split
   ·obtain rfl:l=r:=by omega
    exact wpS_pure ⟨rfl,l,l,rfl,rk',lo,hi⟩
   ·refine wpS_bind (gG C oz (by omega) (by omega) ?_)
    by_cases g:rk ρ (arrOf y) k<rk ρ (arrOf y) ((l+r) / 2)
    ·rw [decide_eq_true g]
     refine wpS_pure ⟨rfl,l,(l+r) / 2,rfl,by omega,by omega,by omega,lo,λj j1 j2=>?_⟩
     exact Nat.lt_of_lt_of_le g (uk _ _ j1 j2)
    ·rw [decide_eq_false g]
     refine wpS_pure ⟨rfl,(l+r) / 2+1,r,rfl,by omega,rk',by omega,λj j1=>?_,hi⟩
     exact Nat.le_trans (uk _ _ (by omega) (by omega)) (Nat.le_of_not_lt g)
  ·rintro c y ⟨rfl,l,r,rfl,lr,rk',lk,lo,hi⟩
   obtain rfl:l=r:=by omega
   exact ⟨rfl,l,l,rfl,rk',lo,hi⟩
  ·rintro c y ⟨rfl,l,r,rfl,lk,lo,hi⟩
   dsimp only
   rw [moveDown'_eq]
   refine wpS_bind (wpS_modify (wpS_pure ⟨rfl,oz.arr (bubble_perm _ _ _),λm m1 m2 i j ij jm=>?_⟩))
   show rk ρ (bubble (arrOf y) k (k - l)) i<=rk ρ (bubble (arrOf y) k (k - l)) j
   rw [qO kz (by omega),qO kz (by omega),show k - (k - l)=l by omega]
   rcases Nat.lt_trichotomy j l with q|q|q
   ·rw [if_neg (by omega),if_neg (by omega),if_neg (by omega),if_neg (by omega)]
    exact uk _ _ ij (by omega)
   ·rw [if_pos q]
    split
    ·exact Nat.le_refl _
    ·rw [if_neg (by omega)]
     exact lo _ (by omega)
   ·rw [if_neg (show ¬ j=l by omega),if_pos (show l<j/\j<=k by omega)]
    split
    ·exact Nat.le_of_lt (hi _ (by omega) (by omega))
    ·split
     ·exact uk _ _ (by omega) (by omega)
     ·exact uk _ _ (by omega) (by omega)
 ·rintro c z ⟨e,oz,uz⟩
  exact ⟨e,oz,uz n (by omega) (Nat.le_refl _)⟩
 ·rintro c z ⟨rfl,oz,uz⟩
  exact wpS_pure (h z oz uz)
theorem EK {Q:Unit->SortSt->Prop}(C:Cm prog w A s kd a₀ ρ) (o:Ok kd a₀ st) (h2:2<=a₀.size) (Mi:a₀.size<64)
  (h:∀ z,(arrOf z).Perm a₀->failedOf z=none->Up ρ (arrOf z) a₀.size->Q () z):wpS (model prog w) A E s sortRuns' Q st:=by
 rw [sortRuns'_eq]
 refine wpS_bind (wpS_get ?_)
 dsimp only
 have run:minRun' a₀.size a₀.size 0=a₀.size:=by
  have:∀ f,0<f->minRun' f a₀.size 0=a₀.size:=λf hf=>by
   cases f with
   |zero=>omega
   |succ f=>rw [minRun'_succ,if_pos Mi];rfl
  exact this _ (by omega)
 simp only [o.sz,run]
 let D:SortSt->Prop:=λz=>(arrOf z).Perm a₀/\failedOf z=none/\(pendingOf z).size=1/\Up ρ (arrOf z) a₀.size
 have fin:∀ z,Ok kd a₀ z->Up ρ (arrOf z) a₀.size->D (setPending z ((pendingOf z).push (0,a₀.size,0))):=λz oz uz=>⟨oz.perm,oz.well,by rw [show pendingOf (setPending z ((pendingOf z).push (0,a₀.size,0)))=(pendingOf z).push (0,a₀.size,0) from rfl,oz.runs];rfl,uz⟩
 refine wpS_bind (wpS_mono (wpS_forRange (λk c z=>(k=0/\c=(none,0)/\Ok kd a₀ z)\/(0<k/\c=(none,a₀.size)/\D z)) (Q:=λc z=>c=(none,a₀.size)/\D z) ?_ ?_ (.inl ⟨rfl,rfl,o⟩)) ?_)
 ·rintro k c z l1 l2 (⟨rfl,rfl,oz⟩|⟨k0,rfl,dz⟩)
  ·dsimp only
   rw [if_neg (by omega)]
   simp only [Nat.sub_zero,Nat.min_self,Nat.zero_add]
   refine wpS_bind (BN C oz (Nat.le_refl _) (by omega) λm y oy m1 m2 uy=>?_)
   have QB:∀ {x:SortSt},Ok kd a₀ x->(pendingOf x).back?=none:=λox=>by rw [ox.runs];rfl
   dsimp only
   split
   ·refine wpS_bind (wpS_lift (wpAny_rule ⟨rfl,wpS_bind (HK C oy (Nat.le_refl _) m2 uy λx ox ux=>?_)⟩))
    simp only [Bool.not_true,Bool.false_eq_true,if_false]
    refine wpS_bind (wpS_get ?_)
    rw [QB ox]
    exact wpS_bind (wpS_modify (wpS_pure (.inr ⟨Nat.one_pos,rfl,fin x ox ux⟩)))
   ·obtain rfl:m=a₀.size:=by omega
    refine wpS_bind (wpS_get ?_)
    rw [QB oy]
    exact wpS_bind (wpS_modify (wpS_pure (.inr ⟨Nat.one_pos,rfl,fin y oy uy⟩)))
  ·dsimp only
   rw [if_pos (Nat.le_refl _)]
   exact wpS_pure ⟨rfl,dz⟩
 ·rintro c z (⟨e,_⟩|⟨_,e,dz⟩)
  ·omega
  ·exact ⟨e,dz⟩
 ·rintro c z ⟨rfl,dz⟩
  dsimp only
  refine wpS_bind (wpS_mono (wpS_forRange (λ_ c y=>y=z/\c=(none,())) (Q:=λc y=>y=z/\c=(none,())) ?_ (λ_ _ e=>e) ⟨rfl,rfl⟩) ?_)
  ·rintro k c y _ _ ⟨rfl,rfl⟩
   refine wpS_bind (wpS_get ?_)
   rw [if_pos (by rw [dz.2.2.1];exact Nat.le_refl 1)]
   exact wpS_pure ⟨rfl,rfl⟩
  ·rintro c y ⟨rfl,rfl⟩
   exact wpS_pure (h _ dz.1 dz.2.1 dz.2.2.2)
end
end S6
namespace S6
open PySem PyProof.Rows PySem.SeqAt
inductive Ky where
 |i (n:Int)|s (x:Str)|tt (v:Bool)|nil|cons (h t:Ky)
 deriving DecidableEq
namespace Ky
mutual
noncomputable def dat:Ky->PyData
 |.i n=>.int n
 |.s x=>.str x
 |.tt v=>.bool v
 |.nil=>.tuple []
 |.cons h t=>.tuple (dat h::row t)
noncomputable def row:Ky->List PyData
 |.cons h t=>dat h::row t
 |_=>[]
end
noncomputable def shp:Ky->Ky->Bool
 |.i _,.i _=>true
 |.s _,.s _=>true
 |.tt _,.tt _=>true
 |.nil,.nil=>true
 |.cons h t,.cons h' t'=>shp h h'&&shp t t'
 |_,_=>false
noncomputable def lt:Ky->Ky->Bool
 |.i a,.i b=>decide (a<b)
 |.s a,.s b=>decide (a.cps.toList<b.cps.toList)
 |.tt a,.tt b=>!a&&b
 |.cons h t,.cons h' t'=>if h=h' then lt t t' else lt h h'
 |_,_=>false
noncomputable def ok:Ky->Bool
 |.cons h t=>ok h&&ok t&&isRow t
 |_=>true
where isRow:Ky->Bool
 |.nil=>true
 |.cons _ _=>true
 |_=>false
noncomputable def dep:Ky->Nat
 |.nil=>1
 |.cons h t=>max (dep h+1) (dep t)
 |_=>0
theorem b9 {h t h' t':Ky}:shp (.cons h t) (.cons h' t')=(shp h h'&&shp t t'):=rfl
theorem cc {a b:Int}:lt (.i a) (.i b)=decide (a<b):=rfl
theorem cf {a b:Str}:lt (.s a) (.s b)=decide (a.cps.toList<b.cps.toList):=rfl
theorem ci {a b:Bool}:lt (.tt a) (.tt b)=(!a&&b):=rfl
theorem bH {h t h' t':Ky}:lt (.cons h t) (.cons h' t')=if h=h' then lt t t' else lt h h':=rfl
theorem eA {h t:Ky}:ok (.cons h t)=(ok h&&ok t&&ok.isRow t):=rfl
theorem jd {h t:Ky}:dep (.cons h t)=max (dep h+1) (dep t):=rfl
theorem EL {a b:Str}(h:a≠b):a.cps.toList≠b.cps.toList:=λe=>h (by
 cases a;cases b
 simp only [Str.mk.injEq] at h ⊢
 exact Array.toList_inj.mp e)
theorem tri:∀ {x y:Ky},shp x y=true->lt x y=true\/x=y\/lt y x=true
 |.i a,.i b,_=>by
  simp only [cc,cf,ci,bH,decide_eq_true_eq,Ky.i.injEq];omega
 |.s a,.s b,_=>by
  simp only [cc,cf,ci,bH,decide_eq_true_eq,Ky.s.injEq]
  by_cases e:a=b
  ·exact .inr (.inl e)
  ·by_cases l:a.cps.toList<b.cps.toList
   ·exact .inl l
   ·refine .inr (.inr ?_)
    rcases List.le_iff_lt_or_eq.mp (List.not_lt.mp l) with z|z
    ·exact z
    ·exact (EL e z.symm).elim
 |.tt a,.tt b,_=>by cases a<;>cases b<;>simp [cc,cf,ci,bH]
 |.nil,.nil,_=>.inr (.inl rfl)
 |.cons h t,.cons h' t',e=>by
  simp only [b9,Bool.and_eq_true] at e
  by_cases q:h=h'
  ·subst q
   rcases tri e.2 with z|z|z
   ·exact .inl (by simp [cc,cf,ci,bH,z])
   ·exact .inr (.inl (by rw [z]))
   ·exact .inr (.inr (by simp [cc,cf,ci,bH,z]))
  ·rcases tri e.1 with z|z|z
   ·exact .inl (by simp [cc,cf,ci,bH,q,z])
   ·exact (q z).elim
   ·exact .inr (.inr (by simp [cc,cf,ci,bH,Ne.symm q,z]))
theorem irr:∀ x:Ky,lt x x=false
 |.i _=>by simp [cc,cf,ci,bH]
 |.s x=>by simp only [cc,cf,ci,bH,decide_eq_false_iff_not];exact List.lt_irrefl _
 |.tt v=>by cases v<;>rfl
 |.nil=>rfl
 |.cons h t=>by simp [cc,cf,ci,bH,irr t]
theorem trans:∀ {x y z:Ky},shp x y=true->shp y z=true->lt x y=true->lt y z=true->lt x z=true
 |.i a,.i b,.i c,_,_,p,q=>by simp only [cc,cf,ci,bH,decide_eq_true_eq] at *;omega
 |.s a,.s b,.s c,_,_,p,q=>by simp only [cc,cf,ci,bH,decide_eq_true_eq] at *;exact List.lt_trans p q
 |.tt a,.tt b,.tt c,_,_,p,q=>by cases a<;>cases b<;>cases c<;>simp [cc,cf,ci,bH] at *
 |.cons h t,.cons h' t',.cons h2 t2,e,f,p,q=>by
  simp only [b9,Bool.and_eq_true] at e f
  simp only [cc,cf,ci,bH] at p q ⊢
  by_cases a:h=h'
  ·subst a
   rw [if_pos rfl] at p
   by_cases b:h=h2
   ·subst b
    rw [if_pos rfl] at q ⊢
    exact trans e.2 f.2 p q
   ·rw [if_neg b] at q ⊢;exact q
  ·rw [if_neg a] at p
   by_cases b:h'=h2
   ·subst b
    rw [if_neg a];exact p
   ·rw [if_neg b] at q
    have:=trans e.1 f.1 p q
    rw [if_neg (λz=>by rw [z,irr] at this;cases this)]
    exact this
theorem JK {x y:Ky}(h:shp x y=true) (p:lt x y=true):lt y x=false:=by
 cases q:lt y x with
 |false=>rfl
 |true =>
  have h':shp y x=true:=by
   have:∀ {a b:Ky},shp a b=true->shp b a=true:=by
    intro a
    induction a with
    |cons u v iu iv =>
     intro b e
     cases b with
     |cons=>simp only [b9,Bool.and_eq_true] at e ⊢;exact ⟨iu e.1,iv e.2⟩
     |_=>cases e
    |_=>intro b e;cases b<;>first|rfl|cases e
   exact this h
  have:=trans h h' p q
  rw [irr] at this;cases this
theorem qa:∀ {a b:Ky},shp a b=true->shp b a=true:=by
 intro a
 induction a with
 |cons u v iu iv =>
  intro b e
  cases b with
  |cons=>simp only [b9,Bool.and_eq_true] at e ⊢;exact ⟨iu e.1,iv e.2⟩
  |_=>cases e
 |_=>intro b e;cases b<;>first|rfl|cases e
theorem iF:∀ {x y:Ky},shp x y=true->ok x=true->PyData.eqv (dat x) (dat y)=decide (x=y)/\(ok.isRow x=true->PyData.eqvAll (row x) (row y)=decide (x=y))
 |.i a,.i b,_,_=>⟨by simp only [dat,PyData.eqv,Ky.i.injEq];rfl,λh=>by cases h⟩
 |.s a,.s b,_,_=>⟨by simp only [dat,PyData.eqv,Ky.s.injEq];rfl,λh=>by cases h⟩
 |.tt a,.tt b,_,_=>⟨by cases a<;>cases b<;>rfl,λh=>by cases h⟩
 |.nil,.nil,_,_=>⟨rfl,λ_=>rfl⟩
 |.cons h t,.cons h' t',e,o=>by
  simp only [b9,Bool.and_eq_true] at e
  simp only [eA,Bool.and_eq_true] at o
  have h1:=(iF e.1 o.1.1).1
  have h2:=(iF e.2 o.1.2).2 o.2
  have z:PyData.eqvAll (dat h::row t) (dat h'::row t')=decide (Ky.cons h t=Ky.cons h' t'):=by
   simp only [PyData.eqvAll,h1,h2,Ky.cons.injEq,Bool.decide_and]
  exact ⟨by simp only [dat,PyData.eqv];exact z,λ_=>by simp only [row];exact z⟩
end Ky
end S6
namespace S6
open PySem PyProof.Rows PySem.SeqAt
theorem r9 {α:Type}{p q:α->Bool}{x:α}:∀ {l:List α},(∀ z∈l,p z=true->q z=true)->x∈l->p x=false->q x=true->l.countP p<l.countP q
 |[],_,h,_,_=>by cases h
 |y::l,m,h,px,qx=>by
  have ml:∀ z∈l,p z=true->q z=true:=λz hz=>m z (List.mem_cons_of_mem _ hz)
  have le:=List.countP_mono_left ml
  rw [List.countP_cons,List.countP_cons]
  rcases List.mem_cons.mp h with rfl|h
  ·simp only [px,qx,Bool.false_eq_true,if_false,if_true];omega
  ·have ih:=r9 ml h px qx
   have:(if p y=true then 1 else 0)<=if q y=true then 1 else 0:=by
    split
    ·rw [if_pos (m y (List.mem_cons_self ..) ‹_›)];exact Nat.le_refl _
    ·exact Nat.zero_le _
   omega
def rnk (ks:List Ky) (x:Ky):Nat:=ks.countP λz=>Ky.lt z x
theorem se {ks:List Ky}(hs:∀ x∈ks,∀ y∈ks,Ky.shp x y=true){x y:Ky}(hx:x∈ks) (hy:y∈ks):decide (rnk ks x<rnk ks y)=Ky.lt x y:=by
 cases e:Ky.lt x y with
 |true=>exact decide_eq_true (r9 (λz hz l=>Ky.trans (hs z hz x hx) (hs x hx y hy) l e) hx (Ky.irr x) e)
 |false =>
  refine decide_eq_false (Nat.not_lt.mpr (List.countP_mono_left λz hz l=>?_))
  rcases Ky.tri (hs x hx y hy) with q|q|q
  ·rw [e] at q;cases q
  ·rw [q];exact l
  ·exact Ky.trans (hs z hz y hy) (hs y hy x hx) l q
inductive Cp where
 |lt|gt|ge
def cop:Cp->CmpOp
 |.lt=>.Lt
 |.gt=>.Gt
 |.ge=>.GtE
noncomputable def gl (g:Cp) (x y:Ky):Bool:=match g with
 |.lt=>Ky.lt x y
 |.gt=>Ky.lt y x
 |.ge=>!Ky.lt x y
def jw:CmpOp->Bool
 |.GtE=>true
 |_=>false
def cT (A:Around) (s:Shared) (op:CmpOp) (x y:Value) (c:Bool):Prop :=
 ∀ (prog:Program) (w:World) (E:Value->Shared->Prop) (Q:Value->Shared->Prop),Q (.bool c) s->wpAny (model prog w) A (richCompare op x y) Q E s
inductive LexAt (A:Around) (s:Shared) (op:CmpOp):List Value->List Value->Bool->Prop
 |nil:LexAt A s op [] [] (jw op)
 |same {x y xs ys c}:EqAt A s x y true->LexAt A s op xs ys c->LexAt A s op (x::xs) (y::ys) c
 |diff {x y xs ys c}:EqAt A s x y false->cT A s op x y c->LexAt A s op (x::xs) (y::ys) c
noncomputable def gw (op:CmpOp) (us vs:List Value) (n m:Nat):Sem Fin:=do
 for (x,y) in us.zip vs do
  if !(<- eqBool x y) then
   rule "tuple.compare.by-the-first-pair-that-differs";return <- ret (<- richCompare op x y)
 ret (Builtin.Tuple.tupleCompareSizes op n m)
theorem yx (a b:Value):Builtin.«tuple.__lt__» ⟨[a,b],[]⟩=(do
  if !(<- isInstance b (.type "tuple")) then return <- ret .notImplemented
  let xs <- Builtin.Tuple.tupleItemsOf a
  let ys <- Builtin.Tuple.tupleItemsOf b
  gw .Lt xs.toList ys.toList xs.size ys.size):=rfl
theorem yy (a b:Value):Builtin.«tuple.__ge__» ⟨[a,b],[]⟩=(do
  if !(<- isInstance b (.type "tuple")) then return <- ret .notImplemented
  let xs <- Builtin.Tuple.tupleItemsOf a
  let ys <- Builtin.Tuple.tupleItemsOf b
  gw .GtE xs.toList ys.toList xs.size ys.size):=rfl
theorem yz (a b:Value):Builtin.«tuple.__gt__» ⟨[a,b],[]⟩=(do
  if !(<- isInstance b (.type "tuple")) then return <- ret .notImplemented
  let xs <- Builtin.Tuple.tupleItemsOf a
  let ys <- Builtin.Tuple.tupleItemsOf b
  gw .Gt xs.toList ys.toList xs.size ys.size):=rfl
section
variable {A:Around}{s:Shared}
theorem mS {g:Cp}{prog:Program}{w:World}{E:Value->Shared->Prop}{P:Fin->Shared->Prop}{us vs:List Value}{c:Bool}(L:LexAt A s (cop g) us vs c){n m:Nat}(hnm:n=m)
  (h:P (.done (.ret (.bool c))) s):wpAny (model prog w) A (gw (cop g) us vs n m) P E s:=by
 unfold gw
 refine wpAny_bind ?_
 refine wpAny_forIn_list _ (λrest r z=>r.1=none/\z=s/\∃ NL MG,rest=NL.zip MG/\LexAt A s (cop g) NL MG c) _ ?_ ?_ _ _ ⟨rfl,rfl,us,vs,rfl,L⟩
 ·rintro ⟨x,y⟩ rest r z ⟨hr,rfl,NL,MG,hz,L'⟩
  cases L' with
  |nil=>simp at hz
  |same e L2 =>
   simp only [List.zip_cons_cons,List.cons.injEq,Prod.mk.injEq] at hz
   obtain ⟨⟨rfl,rfl⟩,rfl⟩:=hz
   refine wpAny_bind (e prog w _ _ ?_)
   exact wpAny_pure ⟨rfl,rfl,_,_,rfl,L2⟩
  |diff e cm =>
   simp only [List.zip_cons_cons,List.cons.injEq,Prod.mk.injEq] at hz
   obtain ⟨⟨rfl,rfl⟩,rfl⟩:=hz
   refine wpAny_bind (e prog w _ _ ?_)
   refine wpAny_bind (wpAny_rule (wpAny_bind (cm prog w _ _ ?_)))
   exact wpAny_bind (wpAny_pure (wpAny_pure (wpAny_pure h)))
 ·rintro ⟨r1,r2⟩ z ⟨hr,rfl,NL,MG,hz,L'⟩
  simp only at hr
  subst hr
  have hc:c=jw (cop g):=by
   cases L' with
   |nil=>rfl
   |same _ _=>simp at hz
   |diff _ _=>simp at hz
  subst hc hnm
  have e:Builtin.Tuple.tupleCompareSizes (cop g) n n=.bool (jw (cop g)):=by cases g<;>simp [cop,jw,Builtin.Tuple.tupleCompareSizes]
  show wpAny _ _ (ret (Builtin.Tuple.tupleCompareSizes (cop g) n n)) P E _
  rw [e]
  exact wpAny_pure h
theorem xF {g:Cp}{l m:Addr}{o u:Obj}{xs ys:Array Value}{n k:Nat}{c:Bool}(h1:s.heap.get? l=some o) (c1:o.cls=.type "tuple") (d1:o.data=.seq xs n)
  (h2:s.heap.get? m=some u) (c2:u.cls=.type "tuple") (d2:u.data=.seq ys k) (hu:A.units<cLine) (L:LexAt A.in1 s (cop g) xs.toList ys.toList c) (hs:xs.size=ys.size):cT A s (cop g) (.ref l) (.ref m) c:=by
 intro prog w E Q q
 have t1:s.TypeIs (.ref l) "tuple":=⟨o,h1,c1⟩
 have t2:s.TypeIs (.ref m) "tuple":=⟨u,h2,c2⟩
 cases g with
 |lt =>
  refine wpAny_richCompare_same_room (op:=.Lt) t1 t2 F.slot_tuple_lt (wpAny_call_entry F.slot_tuple_lt t1 F.entry_tuple_lt ?_ (F.args_tuple_lt_2 _ _)) hu
  rw [yx]
  refine wpAny_bind (wpAny_isInstance t2 isSubtype_tuple_tuple ?_)
  simp only [Bool.not_true,Bool.false_eq_true,if_false]
  refine wpAny_bind (wpAny_tupleItemsOf h1 d1 (wpAny_bind (wpAny_tupleItemsOf h2 d2 ?_)))
  exact mS (g:=.lt) L hs ⟨_,rfl,by simp,q⟩
 |gt =>
  refine wpAny_richCompare_same_room (op:=.Gt) t1 t2 F.slot_tuple_gt (wpAny_call_entry F.slot_tuple_gt t1 F.entry_tuple_gt ?_ (F.args_tuple_gt_2 _ _)) hu
  rw [yz]
  refine wpAny_bind (wpAny_isInstance t2 isSubtype_tuple_tuple ?_)
  simp only [Bool.not_true,Bool.false_eq_true,if_false]
  refine wpAny_bind (wpAny_tupleItemsOf h1 d1 (wpAny_bind (wpAny_tupleItemsOf h2 d2 ?_)))
  exact mS (g:=.gt) L hs ⟨_,rfl,by simp,q⟩
 |ge =>
  refine wpAny_richCompare_same_room (op:=.GtE) t1 t2 F.slot_tuple_ge (wpAny_call_entry F.slot_tuple_ge t1 F.entry_tuple_ge ?_ (F.args_tuple_ge_2 _ _)) hu
  rw [yy]
  refine wpAny_bind (wpAny_isInstance t2 isSubtype_tuple_tuple ?_)
  simp only [Bool.not_true,Bool.false_eq_true,if_false]
  refine wpAny_bind (wpAny_tupleItemsOf h1 d1 (wpAny_bind (wpAny_tupleItemsOf h2 d2 ?_)))
  exact mS (g:=.ge) L hs ⟨_,rfl,by simp,q⟩
theorem zR {g:Cp}(a b:Int) (t u:Tok):cT A s (cop g) (.int a t) (.int b u) (gl g (.i a) (.i b)):=by
 intro prog w E Q q
 cases g with
 |lt=>exact lt_int (A:=A) q
 |gt=>exact gt_int (A:=A) q
 |ge =>
  have e:gl .ge (.i a) (.i b)=decide (b<=a):=by
   show (!decide (a<b))=_
   rw [Bool.eq_iff_iff]
   simp only [Bool.not_eq_true',decide_eq_false_iff_not,decide_eq_true_eq,Int.not_lt]
  rw [e] at q
  exact PySem.P.ge_int (A:=A) q
theorem yA {g:Cp}(a b:Bool):cT A s (cop g) (.bool a) (.bool b) (gl g (.tt a) (.tt b)):=by
 intro prog w E Q q
 cases g with
 |lt =>
  have q':Q (.bool (decide (b2i a<b2i b))) s:=by
   rw [show decide (b2i a<b2i b)=gl .lt (.tt a) (.tt b) by cases a<;>cases b<;>rfl];exact q
  exact lt_bool (A:=A) q'
 |gt =>
  have q':Q (.bool (decide (b2i a>b2i b))) s:=by
   rw [show decide (b2i a>b2i b)=gl .gt (.tt a) (.tt b) by cases a<;>cases b<;>rfl];exact q
  exact gt_bool (A:=A) q'
 |ge =>
  have q':Q (.bool (decide (b2i a≥b2i b))) s:=by
   rw [show decide (b2i a≥b2i b)=gl .ge (.tt a) (.tt b) by cases a<;>cases b<;>rfl];exact q
  exact ge_bool (A:=A) q'
theorem zS {g:Cp}(a b:Str) (t u:Tok):cT A s (cop g) (.str a t) (.str b u) (gl g (.s a) (.s b)):=by
 intro prog w E Q q
 cases g with
 |lt=>exact lt_str (A:=A) q
 |gt=>exact PySem.P.gt_str (A:=A) q
 |ge=>exact PySem.P.ge_str (A:=A) q
theorem BO {g:Cp}{h t h' t':Ky}:gl g (.cons h t) (.cons h' t')=if h=h' then gl g t t' else gl g h h':=by
 cases g with
 |lt=>show Ky.lt _ _=if h=h' then Ky.lt t t' else Ky.lt h h';rw [Ky.bH]
 |gt =>
  show Ky.lt _ _=if h=h' then Ky.lt t' t else Ky.lt h' h
  rw [Ky.bH]
  by_cases e:h=h'
  ·rw [if_pos e,if_pos e.symm]
  ·rw [if_neg e,if_neg (Ne.symm e)]
 |ge =>
  show (!Ky.lt _ _)=if h=h' then !Ky.lt t t' else !Ky.lt h h'
  rw [Ky.bH]
  by_cases e:h=h'
  ·rw [if_pos e,if_pos e]
  ·rw [if_neg e,if_neg e]
end
theorem cj {h:Heap}{a:Value}{n:Int}{as:List Addr}(r:Reads h a (.int n) as):∃ t,a=.int n t:=by cases r;exact ⟨_,rfl⟩
theorem ck {h:Heap}{a:Value}{n:Str}{as:List Addr}(r:Reads h a (.str n) as):∃ t,a=.str n t:=by cases r;exact ⟨_,rfl⟩
theorem cB {h:Heap}{a:Value}{n:Bool}{as:List Addr}(r:Reads h a (.bool n) as):a=.bool n:=by cases r;rfl
theorem bz {h:Heap}{a:Value}{ds:List PyData}{as:List Addr}(r:Reads h a (.tuple ds) as):∃ (l:Addr) (o:Obj) (vs:Array Value) (n:Nat),a=.ref l/\h.get? l=some o/\o.cls=.type "tuple" /\ o.data=.seq vs n/\ReadsAll h vs.toList ds as:=by
 cases r with
 |tuple a1 a2 a3 a4=>exact ⟨_,_,_,_,rfl,a1,a2,a3,a4⟩
theorem dP {h:Heap}{us:List Value}{d:PyData}{ds:List PyData}{as:List Addr}(r:ReadsAll h us (d::ds) as):∃ u vs a1 a2,us=u::vs/\Reads h u d a1/\ReadsAll h vs ds a2:=by
 cases r with
 |cons r1 r2=>exact ⟨_,_,_,_,rfl,r1,r2⟩
theorem pJ:∀ {x y:Ky}{h:Heap},Ky.ok x=true->Ky.ok y=true->(∀ {a:Value}{as bs:List Addr},Reads h a x.dat as->Reads h a y.dat bs->x=y) /\
  (∀ {us:List Value}{as bs:List Addr},Ky.ok.isRow x=true->Ky.ok.isRow y=true->ReadsAll h us x.row as->ReadsAll h us y.row bs->x=y):=by
 intro x
 induction x with
 |i n =>
  intro y h _ oy
  refine ⟨fun {a as bs} r q=>?_,fun {us as bs} z=>by cases z⟩
  obtain ⟨t,rfl⟩:=cj r
  cases y with
  |i m=>obtain ⟨_,e⟩:=cj q;cases e;rfl
  |s m=>obtain ⟨_,e⟩:=ck q;cases e
  |tt m=>have e:=cB q;cases e
  |nil=>obtain ⟨_,_,_,_,e,_⟩:=bz q;cases e
  |cons u v=>obtain ⟨_,_,_,_,e,_⟩:=bz q;cases e
 |s n =>
  intro y h _ oy
  refine ⟨fun {a as bs} r q=>?_,fun {us as bs} z=>by cases z⟩
  obtain ⟨t,rfl⟩:=ck r
  cases y with
  |i m=>obtain ⟨_,e⟩:=cj q;cases e
  |s m=>obtain ⟨_,e⟩:=ck q;cases e;rfl
  |tt m=>have e:=cB q;cases e
  |nil=>obtain ⟨_,_,_,_,e,_⟩:=bz q;cases e
  |cons u v=>obtain ⟨_,_,_,_,e,_⟩:=bz q;cases e
 |tt n =>
  intro y h _ oy
  refine ⟨fun {a as bs} r q=>?_,fun {us as bs} z=>by cases z⟩
  obtain rfl:=cB r
  cases y with
  |i m=>obtain ⟨_,e⟩:=cj q;cases e
  |s m=>obtain ⟨_,e⟩:=ck q;cases e
  |tt m=>have e:=cB q;cases e;rfl
  |nil=>obtain ⟨_,_,_,_,e,_⟩:=bz q;cases e
  |cons u v=>obtain ⟨_,_,_,_,e,_⟩:=bz q;cases e
 |nil =>
  intro y h _ oy
  have go:∀ {us:List Value}{as bs:List Addr},Ky.ok.isRow y=true->ReadsAll h us [] as->ReadsAll h us y.row bs->Ky.nil=y:=fun {us as bs} z r q=>by
   cases r
   cases y with
   |nil=>rfl
   |cons u v=>simp only [Ky.row] at q;cases q
   |_=>cases z
  refine ⟨fun {a as bs} r q=>?_,fun {us as bs} _ z r q=>go z (by simpa only [Ky.row] using r) q⟩
  obtain ⟨l,o,vs,n,rfl,a1,a2,a3,a4⟩:=bz r
  cases y with
  |nil=>rfl
  |cons u v =>
   obtain ⟨l',o',MG,n',e,b1,b2,b3,b4⟩:=bz q
   cases e
   rw [a1] at b1;cases b1
   rw [a3] at b3;cases b3
   exact go rfl a4 b4
  |i n=>obtain ⟨_,e⟩:=cj q;cases e
  |s n=>obtain ⟨_,e⟩:=ck q;cases e
  |tt n=>have e:=cB q;cases e
 |cons u v iu iv =>
  intro y h ox oy
  simp only [Ky.eA,Bool.and_eq_true] at ox
  have go:∀ {us:List Value}{as bs:List Addr},Ky.ok.isRow y=true->ReadsAll h us (u.dat::v.row) as->ReadsAll h us y.row bs->Ky.cons u v=y:=fun {us as bs} z r q=>by
   cases y with
   |nil=>simp only [Ky.row] at q;cases q;cases r
   |cons u' v' =>
    simp only [Ky.eA,Bool.and_eq_true] at oy
    simp only [Ky.row] at q
    obtain ⟨_,_,_,_,rfl,r1,r2⟩:=dP r
    obtain ⟨_,_,_,_,e,q1,q2⟩:=dP q
    cases e
    rw [(iu ox.1.1 oy.1.1).1 r1 q1,(iv ox.1.2 oy.1.2).2 ox.2 oy.2 r2 q2]
   |_=>cases z
  refine ⟨fun {a as bs} r q=>?_,fun {us as bs} _ z r q=>go z (by simpa only [Ky.row] using r) q⟩
  obtain ⟨l,o,vs,n,rfl,a1,a2,a3,a4⟩:=bz r
  have tup:∀ {ds:List PyData}{bs:List Addr},Reads h (.ref l) (.tuple ds) bs->ReadsAll h vs.toList ds bs:=fun {ds bs} q=>by
   obtain ⟨l',o',MG,n',e,b1,b2,b3,b4⟩:=bz q
   cases e
   rw [a1] at b1;cases b1
   rw [a3] at b3;cases b3
   exact b4
  cases y with
  |nil=>exact go rfl a4 (tup q)
  |cons u' v'=>exact go rfl a4 (tup q)
  |i n=>obtain ⟨_,e⟩:=cj q;cases e
  |s n=>obtain ⟨_,e⟩:=ck q;cases e
  |tt n=>have e:=cB q;cases e
theorem BP:∀ (x:Ky),
  (∀ {y:Ky}{A:Around}{s:Shared}{a b:Value}{as bs:List Addr},Ky.shp x y=true->Ky.ok x=true->Ky.ok y=true->Reads s.heap a x.dat as->Reads s.heap b y.dat bs->A.units+x.dep<cLine->EqAt A s a b (decide (x=y))) /\
  (∀ {y:Ky}{A:Around}{s:Shared}{us vs:List Value}{as bs:List Addr},Ky.ok.isRow x=true->Ky.shp x y=true->Ky.ok x=true->Ky.ok y=true->ReadsAll s.heap us x.row as->ReadsAll s.heap vs y.row bs->A.units+x.dep<=cLine ->
   ∀ j (h1:j<us.length) (h2:j<vs.length),EqAt A s us[j] vs[j] (pairEq x.row y.row j)):=by
 have tup:∀ {x y:Ky}{A:Around}{s:Shared}{l m:Addr}{o u:Obj}{xs ys:Array Value}{n k:Nat}{as bs:List Addr},
   (∀ {y:Ky}{A:Around}{s:Shared}{us vs:List Value}{as bs:List Addr},Ky.ok.isRow x=true->Ky.shp x y=true->Ky.ok x=true->Ky.ok y=true->ReadsAll s.heap us x.row as->ReadsAll s.heap vs y.row bs->A.units+x.dep<=cLine ->
    ∀ j (h1:j<us.length) (h2:j<vs.length),EqAt A s us[j] vs[j] (pairEq x.row y.row j)) ->
   Ky.ok.isRow x=true->Ky.ok.isRow y=true->Ky.shp x y=true->Ky.ok x=true->Ky.ok y=true->s.heap.get? l=some o->o.cls=.type "tuple"->o.data=.seq xs n->ReadsAll s.heap xs.toList x.row as ->
   s.heap.get? m=some u->u.cls=.type "tuple"->u.data=.seq ys k->ReadsAll s.heap ys.toList y.row bs->A.units+x.dep<cLine->EqAt A s (.ref l) (.ref m) (decide (x=y)):=by
  intro x y A s l m o u xs ys n k as bs lp hr hr' hs ox oy a1 a2 a3 a4 b1 b2 b3 b4 hu
  by_cases hll:l=m
  ·subst hll
   rw [a1] at b1;cases b1
   rw [a3] at b3;cases b3
   rw [decide_eq_true ((pJ ox oy).2 hr hr' a4 b4)]
   exact EqAt.same _
  ·have n1:xs.size=x.row.length:=by simpa using ReadsAll.length _ _ _ a4
   have n2:ys.size=y.row.length:=by simpa using ReadsAll.length _ _ _ b4
   rw [<- (Ky.iF hs ox).2 hr,<- eqvAll_eq,<- n1,<- n2]
   refine EqAt.of_refs hll (RcAt.tuples ⟨_,a1,a2,_,a3⟩ ⟨_,b1,b2,_,b3⟩ (by omega) λj j1 j2=>?_)
   have:=lp (A:=A.in1) hr hs ox oy a4 b4 (by show A.units+1+x.dep<=cLine;omega) j (by simpa using j1) (by simpa using j2)
   simpa using this
 intro x
 induction x with
 |i a =>
  refine ⟨fun {y A s a' b' as bs} hs ox oy ra rb hu=>?_,fun {y A s us vs as bs} h=>by cases h⟩
  cases y<;>first|cases hs|skip
  obtain ⟨t,rfl⟩:=cj ra
  obtain ⟨u,rfl⟩:=cj rb
  rename_i b
  rw [show decide (Ky.i a=Ky.i b)=(a==b) by rw [Bool.eq_iff_iff];simp]
  exact EqAt.int_int a t b u
 |s a =>
  refine ⟨fun {y A s a' b' as bs} hs ox oy ra rb hu=>?_,fun {y A s us vs as bs} h=>by cases h⟩
  cases y<;>first|cases hs|skip
  obtain ⟨t,rfl⟩:=ck ra
  obtain ⟨u,rfl⟩:=ck rb
  rename_i b
  rw [show decide (Ky.s a=Ky.s b)=(a==b) by rw [Bool.eq_iff_iff];simp]
  exact EqAt.str_str a t b u
 |tt a =>
  refine ⟨fun {y A s a' b' as bs} hs ox oy ra rb hu=>?_,fun {y A s us vs as bs} h=>by cases h⟩
  cases y<;>first|cases hs|skip
  obtain rfl:=cB ra
  obtain rfl:=cB rb
  rename_i b
  rw [show decide (Ky.tt a=Ky.tt b)=(a==b) by rw [Bool.eq_iff_iff];simp]
  exact EqAt.bool_bool a b
 |nil =>
  have lp:∀ {y:Ky}{A:Around}{s:Shared}{us vs:List Value}{as bs:List Addr},Ky.ok.isRow .nil=true->Ky.shp .nil y=true->Ky.ok .nil=true->Ky.ok y=true->ReadsAll s.heap us Ky.nil.row as->ReadsAll s.heap vs y.row bs->A.units+Ky.nil.dep<=cLine ->
    ∀ j (h1:j<us.length) (h2:j<vs.length),EqAt A s us[j] vs[j] (pairEq Ky.nil.row y.row j):=by
   intro y A s us vs as bs _ hs _ _ ra rb _ j h1
   simp only [Ky.row] at ra
   cases ra
   exact absurd h1 (Nat.not_lt_zero _)
  refine ⟨fun {y A s a' b' as bs} hs ox oy ra rb hu=>?_,lp⟩
  cases y<;>first|cases hs|skip
  obtain ⟨_,_,_,_,rfl,a1,a2,a3,a4⟩:=bz ra
  obtain ⟨_,_,_,_,rfl,b1,b2,b3,b4⟩:=bz rb
  exact tup lp rfl rfl rfl rfl rfl a1 a2 a3 a4 b1 b2 b3 b4 hu
 |cons h t ih it =>
  have lp:∀ {y:Ky}{A:Around}{s:Shared}{us vs:List Value}{as bs:List Addr},Ky.ok.isRow (.cons h t)=true->Ky.shp (.cons h t) y=true->Ky.ok (.cons h t)=true->Ky.ok y=true->ReadsAll s.heap us (Ky.cons h t).row as->ReadsAll s.heap vs y.row bs->A.units+(Ky.cons h t).dep<=cLine ->
    ∀ j (h1:j<us.length) (h2:j<vs.length),EqAt A s us[j] vs[j] (pairEq (Ky.cons h t).row y.row j):=by
   intro y A s us vs as bs _ hs ox oy ra rb hu j h1 h2
   cases y with
   |cons h' t' =>
    simp only [Ky.b9,Bool.and_eq_true] at hs
    simp only [Ky.eA,Bool.and_eq_true] at ox oy
    simp only [Ky.jd] at hu
    simp only [Ky.row] at ra rb ⊢
    ·obtain ⟨_,_,_,_,rfl,r,rs⟩:=dP ra
     ·obtain ⟨_,_,_,_,rfl,r',rs'⟩:=dP rb
      cases j with
      |zero =>
       have:=ih.1 (A:=A) hs.1 ox.1.1 oy.1.1 r r' (by omega)
       rw [<- (Ky.iF hs.1 ox.1.1).1] at this
       exact this
      |succ j=>exact it.2 (A:=A) ox.2 hs.2 ox.1.2 oy.1.2 rs rs' (by omega) j (Nat.lt_of_succ_lt_succ h1) (Nat.lt_of_succ_lt_succ h2)
   |_=>cases hs
  refine ⟨fun {y A s a' b' as bs} hs ox oy ra rb hu=>?_,lp⟩
  cases y with
  |cons h' t' =>
   obtain ⟨_,_,_,_,rfl,a1,a2,a3,a4⟩:=bz ra
   obtain ⟨_,_,_,_,rfl,b1,b2,b3,b4⟩:=bz rb
   exact tup lp rfl rfl hs ox oy a1 a2 a3 a4 b1 b2 b3 b4 hu
  |_=>cases hs
theorem oW {x y:Ky}{A:Around}{s:Shared}{a b:Value}{as bs:List Addr}(h:Ky.shp x y=true) (ox:Ky.ok x=true) (oy:Ky.ok y=true) (ra:Reads s.heap a x.dat as) (rb:Reads s.heap b y.dat bs) (hu:A.units+x.dep<cLine) :
  EqAt A s a b (decide (x=y)):=(BP x).1 h ox oy ra rb hu
theorem mj (g:Cp):∀ (x:Ky),
  (∀ {y:Ky}{A:Around}{s:Shared}{a b:Value}{as bs:List Addr},Ky.shp x y=true->Ky.ok x=true->Ky.ok y=true->Reads s.heap a x.dat as->Reads s.heap b y.dat bs->A.units+x.dep+1<cLine->cT A s (cop g) a b (gl g x y)) /\
  (∀ {y:Ky}{A:Around}{s:Shared}{us vs:List Value}{as bs:List Addr},Ky.ok.isRow x=true->Ky.shp x y=true->Ky.ok x=true->Ky.ok y=true->ReadsAll s.heap us x.row as->ReadsAll s.heap vs y.row bs->A.units+x.dep<cLine ->
   LexAt A s (cop g) us vs (gl g x y)/\us.length=vs.length):=by
 have tup:∀ {x y:Ky}{A:Around}{s:Shared}{l m:Addr}{o u:Obj}{xs ys:Array Value}{n k:Nat}{as bs:List Addr},
   (∀ {y:Ky}{A:Around}{s:Shared}{us vs:List Value}{as bs:List Addr},Ky.ok.isRow x=true->Ky.shp x y=true->Ky.ok x=true->Ky.ok y=true->ReadsAll s.heap us x.row as->ReadsAll s.heap vs y.row bs->A.units+x.dep<cLine->LexAt A s (cop g) us vs (gl g x y)/\us.length=vs.length) ->
   Ky.ok.isRow x=true->Ky.shp x y=true->Ky.ok x=true->Ky.ok y=true->s.heap.get? l=some o->o.cls=.type "tuple"->o.data=.seq xs n->ReadsAll s.heap xs.toList x.row as ->
   s.heap.get? m=some u->u.cls=.type "tuple"->u.data=.seq ys k->ReadsAll s.heap ys.toList y.row bs->A.units+x.dep+1<cLine->cT A s (cop g) (.ref l) (.ref m) (gl g x y):=by
  intro x y A s l m o u xs ys n k as bs lp hr hs ox oy a1 a2 a3 a4 b1 b2 b3 b4 hu
  obtain ⟨L,hl⟩:=lp (A:=A.in1) hr hs ox oy a4 b4 (by show A.units+1+x.dep<cLine;omega)
  exact xF a1 a2 a3 b1 b2 b3 (by omega) L (by simpa using hl)
 intro x
 induction x with
 |i a =>
  refine ⟨fun {y A s a' b' as bs} hs ox oy ra rb hu=>?_,fun {y A s us vs as bs} h=>by cases h⟩
  cases y<;>first|cases hs|skip
  obtain ⟨t,rfl⟩:=cj ra
  obtain ⟨u,rfl⟩:=cj rb
  exact zR _ _ _ _
 |s a =>
  refine ⟨fun {y A s a' b' as bs} hs ox oy ra rb hu=>?_,fun {y A s us vs as bs} h=>by cases h⟩
  cases y<;>first|cases hs|skip
  obtain ⟨t,rfl⟩:=ck ra
  obtain ⟨u,rfl⟩:=ck rb
  exact zS _ _ _ _
 |tt a =>
  refine ⟨fun {y A s a' b' as bs} hs ox oy ra rb hu=>?_,fun {y A s us vs as bs} h=>by cases h⟩
  cases y<;>first|cases hs|skip
  obtain rfl:=cB ra
  obtain rfl:=cB rb
  exact yA _ _
 |nil =>
  have lp:∀ {y:Ky}{A:Around}{s:Shared}{us vs:List Value}{as bs:List Addr},Ky.ok.isRow .nil=true->Ky.shp .nil y=true->Ky.ok .nil=true->Ky.ok y=true->ReadsAll s.heap us Ky.nil.row as->ReadsAll s.heap vs y.row bs->A.units+Ky.nil.dep<cLine ->
    LexAt A s (cop g) us vs (gl g .nil y)/\us.length=vs.length:=by
   intro y A s us vs as bs _ hs _ _ ra rb _
   cases y<;>first|cases hs|skip
   simp only [Ky.row] at ra rb
   cases ra;cases rb
   exact ⟨by cases g<;>exact .nil,rfl⟩
  refine ⟨fun {y A s a' b' as bs} hs ox oy ra rb hu=>?_,lp⟩
  cases y<;>first|cases hs|skip
  obtain ⟨_,_,_,_,rfl,a1,a2,a3,a4⟩:=bz ra
  obtain ⟨_,_,_,_,rfl,b1,b2,b3,b4⟩:=bz rb
  exact tup lp rfl rfl rfl rfl a1 a2 a3 a4 b1 b2 b3 b4 hu
 |cons h t ih it =>
  have lp:∀ {y:Ky}{A:Around}{s:Shared}{us vs:List Value}{as bs:List Addr},Ky.ok.isRow (.cons h t)=true->Ky.shp (.cons h t) y=true->Ky.ok (.cons h t)=true->Ky.ok y=true->ReadsAll s.heap us (Ky.cons h t).row as->ReadsAll s.heap vs y.row bs->A.units+(Ky.cons h t).dep<cLine ->
    LexAt A s (cop g) us vs (gl g (.cons h t) y)/\us.length=vs.length:=by
   intro y A s us vs as bs _ hs ox oy ra rb hu
   cases y with
   |cons h' t' =>
    simp only [Ky.b9,Bool.and_eq_true] at hs
    simp only [Ky.eA,Bool.and_eq_true] at ox oy
    simp only [Ky.jd] at hu
    simp only [Ky.row] at ra rb
    ·obtain ⟨_,_,_,_,rfl,r,rs⟩:=dP ra
     ·obtain ⟨_,_,_,_,rfl,r',rs'⟩:=dP rb
      have eq:=oW (A:=A) hs.1 ox.1.1 oy.1.1 r r' (by omega)
      rw [BO]
      by_cases e:h=h'
      ·rw [decide_eq_true e] at eq
       rw [if_pos e]
       obtain ⟨L,l⟩:=it.2 (A:=A) ox.2 hs.2 ox.1.2 oy.1.2 rs rs' (by omega)
       exact ⟨.same eq L,by simp [l]⟩
      ·rw [decide_eq_false e] at eq
       rw [if_neg e]
       refine ⟨.diff eq (ih.1 hs.1 ox.1.1 oy.1.1 r r' (by omega)),?_⟩
       have l1:=ReadsAll.length _ _ _ rs
       have l2:=ReadsAll.length _ _ _ rs'
       have rowlen:∀ {a b:Ky},Ky.shp a b=true->a.row.length=b.row.length:=by
        intro a
        induction a with
        |cons u v iu iv =>
         intro b e
         cases b with
         |cons u' v' =>
          simp only [Ky.b9,Bool.and_eq_true] at e
          simp only [Ky.row,List.length_cons,iv e.2]
         |_=>cases e
        |_=>intro b e;cases b<;>first|rfl|cases e
       simp [l1,l2,rowlen hs.2]
   |_=>cases hs
  refine ⟨fun {y A s a' b' as bs} hs ox oy ra rb hu=>?_,lp⟩
  cases y with
  |cons h' t' =>
   obtain ⟨_,_,_,_,rfl,a1,a2,a3,a4⟩:=bz ra
   obtain ⟨_,_,_,_,rfl,b1,b2,b3,b4⟩:=bz rb
   exact tup lp rfl hs ox oy a1 a2 a3 a4 b1 b2 b3 b4 hu
  |_=>cases hs
def KR (s:Shared) (v:Value) (k:Ky):Prop:=Ky.ok k=true/\∃ as,Reads s.heap v k.dat as
theorem KR.inj {s:Shared}{v:Value}{k k':Ky}(h:KR s v k) (h':KR s v k'):k=k':=by
 obtain ⟨o,as,r⟩:=h
 obtain ⟨o',as',r'⟩:=h'
 exact (pJ o o').1 r r'
open Classical in
def bQ (s:Shared) (v:Value):Ky:=if h:∃ k,KR s v k then h.choose else .nil
theorem fW {s:Shared}{v:Value}{k:Ky}(h:KR s v k):bQ s v=k:=by
 unfold bQ
 have e:∃ k,KR s v k:=⟨k,h⟩
 rw [dif_pos e]
 exact e.choose_spec.inj h
def tY (A:Around) (s:Shared) (one:Bool) (x y:Value) (c:Bool):Prop :=
 ∀ (prog:Program) (w:World) (E:Value->Shared->Prop) (Q:Bool->Shared->Prop),Q c s->wpAny (model prog w) A (oneLt' one x y) Q E s
theorem xI {prog:Program}{w:World}{A:Around}{E:Value->Shared->Prop}{s:Shared}{a b:Bool}{Q:Bool->Shared->Prop}(h:Q (!a&&b) s):wpAny (model prog w) A (oneLt' true (.bool a) (.bool b)) Q E s:=by
 rw [oneLt'_eq]
 simp only [if_true]
 refine wpAny_bind (wpAny_cRoomFor_byValue rfl ?_)
 refine wpAny_bind (wpAny_callSpecialIfBound?_slot (typeIs_bool' s a) F.slot_bool_lt (call_gives F.slot_bool_lt (typeIs_bool' s a) F.entry_int_lt (F.args_int_lt_2 _ _) (gives_int_lt_bools a b) ?_))
 have e:((λx1 x2:Int=>decide (x1<x2)) (if a=true then 1 else 0) (if b=true then 1 else 0))=(!a&&b):=by cases a<;>cases b<;>rfl
 show wpAny _ _ _ _ _ _
 rw [e]
 exact wpAny_truthy_bool h
theorem cT.one {A:Around}{s:Shared}{x y:Value}{c:Bool}(h:cT A s .Lt x y c):tY A s false x y c:=λprog w E Q q=>by
 rw [oneLt'_eq]
 simp only [Bool.false_eq_true,if_false]
 exact wpAny_bind (h prog w _ _ (wpAny_truthy_bool q))
inductive LexO (A:Around) (s:Shared):Bool->List Value->List Value->Bool->Prop
 |nil {one}:LexO A s one [] [] false
 |same {one x y xs ys c}:EqAt A s x y true->LexO A s false xs ys c->LexO A s one (x::xs) (y::ys) c
 |diff {one x y xs ys c}:EqAt A s x y false->tY A s one x y c->LexO A s one (x::xs) (y::ys) c
theorem LexAt.o {A:Around}{s:Shared}{xs ys:List Value}{c:Bool}(h:LexAt A s .Lt xs ys c):LexO A s false xs ys c:=by
 induction h with
 |nil=>exact .nil
 |same e _ ih=>exact .same e ih
 |diff e c=>exact .diff e c.one
theorem wz (fb:Bool) (x y:Value):keyLt' (tuples' fb) x y=(do
  let xs <- Builtin.List.listItems x;let ys <- Builtin.List.listItems y
  for ((p,q),i) in (xs.toList.zip ys.toList).zipIdx do
   if !(<- eqBool p q) then return <- oneLt' (fb&&i==0) p q
  return xs.size<ys.size):=rfl
theorem BQ {A:Around}{s:Shared}{fb:Bool}{l m:Addr}{o u:Obj}{xs ys:Array Value}{n k:Nat}{c:Bool}(h1:s.heap.get? l=some o) (d1:o.data=.seq xs n) (h2:s.heap.get? m=some u) (d2:u.data=.seq ys k)
  (L:LexO A s fb xs.toList ys.toList c) (hs:xs.size=ys.size){prog:Program}{w:World}{E:Value->Shared->Prop}{Q:Bool->Shared->Prop}(q:Q c s):wpAny (model prog w) A (keyLt' (tuples' fb) (.ref l) (.ref m)) Q E s:=by
 rw [wz]
 refine wpAny_bind (listItems_at h1 d1 (wpAny_bind (listItems_at h2 d2 (wpAny_bind ?_))))
 refine wpAny_forIn_list _ (λrest r z=>r.1=none/\z=s/\∃ NL MG i one,rest=(NL.zip MG).zipIdx i/\(fb&&i==0)=one/\LexO A s one NL MG c) _ ?_ ?_ _ _ ⟨rfl,rfl,xs.toList,ys.toList,0,fb,rfl,by simp,L⟩
 ·rintro ⟨⟨x,y⟩,i'⟩ rest r z ⟨hr,rfl,NL,MG,i,one,hz,ho,L'⟩
  cases L' with
  |nil=>simp at hz
  |same e L2 =>
   simp only [List.zip_cons_cons,List.zipIdx_cons,List.cons.injEq,Prod.mk.injEq] at hz
   obtain ⟨⟨⟨rfl,rfl⟩,rfl⟩,rfl⟩:=hz
   refine wpAny_bind (e prog w _ _ ?_)
   exact wpAny_pure ⟨rfl,rfl,_,_,_,false,rfl,by simp,L2⟩
  |diff e cm =>
   simp only [List.zip_cons_cons,List.zipIdx_cons,List.cons.injEq,Prod.mk.injEq] at hz
   obtain ⟨⟨⟨rfl,rfl⟩,rfl⟩,rfl⟩:=hz
   refine wpAny_bind (e prog w _ _ ?_)
   rw [<- ho] at cm
   exact wpAny_bind (cm prog w _ _ (wpAny_pure (wpAny_pure q)))
 ·rintro ⟨r1,r2⟩ z ⟨hr,rfl,NL,MG,i,one,hz,ho,L'⟩
  simp only at hr
  subst hr
  have hc:c=false:=by
   cases L' with
   |nil=>rfl
   |same _ _=>simp at hz
   |diff _ _=>simp at hz
  subst hc
  refine wpAny_pure ?_
  rw [hs]
  simpa using q
noncomputable def tyK:Ky->String
 |.i _=>"int"
 |.s _=>"str"
 |.tt _=>"bool"
 |_=>"tuple"
noncomputable def dQ:Ky->SortKind
 |.cons h _=>tuples' (Value.type (tyK h) != Value.type "tuple")
 |_=>oneType'
noncomputable def fit:Ky->Bool
 |.i _=>true
 |.s _=>true
 |.cons h _=>match h with|.nil=>false|_=>true
 |_=>false
theorem HL {x y:Ky}{A:Around}{s:Shared}{a b:Value}(hx:KR s a x) (hy:KR s b y) (hs:Ky.shp x y=true) (hf:fit x=true) (hu:A.units+x.dep+1<cLine){prog:Program}{w:World}{E:Value->Shared->Prop}{Q:Bool->Shared->Prop}
  (q:Q (Ky.lt x y) s):wpAny (model prog w) A (keyLt' (dQ x) a b) Q E s:=by
 obtain ⟨ox,as,ra⟩:=hx
 obtain ⟨oy,bs,rb⟩:=hy
 cases x with
 |i n =>
  cases y<;>first|cases hs|skip
  obtain ⟨t,rfl⟩:=cj ra
  obtain ⟨u,rfl⟩:=cj rb
  exact oneLt_int q
 |s n =>
  cases y<;>first|cases hs|skip
  obtain ⟨t,rfl⟩:=ck ra
  obtain ⟨u,rfl⟩:=ck rb
  exact oneLt_str q
 |tt v=>cases hf
 |nil=>cases hf
 |cons h t =>
  cases y with
  |cons h' t' =>
   ·obtain ⟨_,_,_,_,rfl,a1,a2,a3,a4⟩:=bz ra
    ·obtain ⟨_,_,_,_,rfl,b1,b2,b3,b4⟩:=bz rb
     have L:=(mj .lt (.cons h t)).2 (A:=A) rfl hs ox oy a4 b4 (by omega)
     refine BQ a1 a3 b1 b3 ?_ (by simpa using L.2) q
     simp only [Ky.b9,Bool.and_eq_true] at hs
     simp only [Ky.eA,Bool.and_eq_true] at ox oy
     simp only [Ky.jd] at hu
     clear L
     generalize Array.toList _=us0 at a4 ⊢
     generalize Array.toList _=vs0 at b4 ⊢
     ·obtain ⟨_,_,_,_,rfl,r,rs⟩:=dP a4
      ·obtain ⟨_,_,_,_,rfl,r',rs'⟩:=dP b4
       have eq:=oW (A:=A) hs.1 ox.1.1 oy.1.1 r r' (by omega)
       have rest:=(mj .lt t).2 (A:=A) ox.2 hs.2 ox.1.2 oy.1.2 rs rs' (by omega)
       show LexO A s _ _ _ (Ky.lt (.cons h t) (.cons h' t'))
       simp only [Ky.bH]
       by_cases e:h=h'
       ·rw [decide_eq_true e] at eq
        rw [if_pos e]
        exact .same eq rest.1.o
       ·rw [decide_eq_false e] at eq
        rw [if_neg e]
        refine .diff eq ?_
        cases h with
        |i n =>
         cases h'<;>first|cases hs.1|skip
         obtain ⟨t,rfl⟩:=cj r
         obtain ⟨u,rfl⟩:=cj r'
         exact λprog w E Q q=>oneLt_int q
        |s n =>
         cases h'<;>first|cases hs.1|skip
         obtain ⟨t,rfl⟩:=ck r
         obtain ⟨u,rfl⟩:=ck r'
         exact λprog w E Q q=>oneLt_str q
        |tt v =>
         cases h'<;>first|cases hs.1|skip
         obtain rfl:=cB r
         obtain rfl:=cB r'
         exact λprog w E Q q=>xI q
        |nil=>cases hf
        |cons h2 t2=>exact cT.one ((mj .lt (.cons h2 t2)).1 (A:=A) hs.1 ox.1.1 oy.1.1 r r' (by omega))
  |_=>cases hs
end S6
namespace S6
open PySem PyProof.Rows PySem.SeqAt
theorem Ky.shp_trans:∀ {a b c:Ky},Ky.shp a b=true->Ky.shp b c=true->Ky.shp a c=true:=by
 intro a
 induction a with
 |cons u v iu iv =>
  intro b c e f
  cases b<;>first|cases e|skip
  cases c<;>first|cases f|skip
  simp only [Ky.b9,Bool.and_eq_true] at *
  exact ⟨iu e.1 f.1,iv e.2 f.2⟩
 |_ =>
     intro b c e f;cases b<;>first|cases e|skip
     all_goals (cases c<;>first|cases f|skip)
     all_goals rfl
theorem Ky.shp_dep:∀ {a b:Ky},Ky.shp a b=true->a.dep=b.dep:=by
 intro a
 induction a with
 |cons u v iu iv =>
  intro b e
  cases b<;>first|cases e|skip
  simp only [Ky.b9,Bool.and_eq_true] at e
  simp only [Ky.jd,iu e.1,iv e.2]
 |_=>intro b e;cases b<;>first|rfl|cases e
theorem sf {a b:Ky}(e:Ky.shp a b=true):tyK b=tyK a:=by
 cases a<;>cases b<;>first|rfl|cases e
theorem EM {a b:Ky}(e:Ky.shp a b=true):dQ b=dQ a:=by
 cases a with
 |cons h t =>
  cases b with
  |cons h' t' =>
   simp only [Ky.b9,Bool.and_eq_true] at e
   simp only [dQ,sf e.1]
  |_=>cases e
 |_=>cases b<;>first|rfl|cases e
theorem BR {a b:Ky}(e:Ky.shp a b=true) (hf:fit a=true):fit b=true:=by
 cases a with
 |cons h t =>
  cases b with
  |cons h' t' =>
   simp only [Ky.b9,Bool.and_eq_true] at e
   have e1:=e.1
   cases h<;>cases h'<;>first|rfl|(cases hf;done)|(cases e1;done)
  |_=>cases e
 |_=>cases b<;>first|rfl|(cases hf;done)|(cases e;done)
section
variable {M:Model}{A:Around}{E:Value->Shared->Prop}{s:Shared}
theorem iG {α β:Type}{f:α->Sem β}{g:α->β}:∀ {l:List α}{Q:List β->Shared->Prop},(∀ v∈l,∀ Q':β->Shared->Prop,Q' (g v) s->wpAny M A (f v) Q' E s)->Q (l.map g) s->wpAny M A (l.mapM f) Q E s
 |[],Q,_,q=>by rw [List.mapM_nil];exact wpAny_pure q
 |v::l,Q,h,q=>by
  rw [List.mapM_cons]
  refine wpAny_bind (h v (List.mem_cons_self ..) _ (wpAny_bind (iG (λu hu=>h u (List.mem_cons_of_mem _ hu)) (wpAny_pure ?_))))
  exact q
theorem KR.ty {v:Value}{k:Ky}(h:KR s v k):s.TypeIs v (tyK k):=by
 obtain ⟨_,as,r⟩:=h
 cases k<;>simp only [Ky.dat] at r<;>cases r
 ·exact typeIs_int s _ _
 ·exact typeIs_str s _ _
 ·exact PySem.typeIs_bool s _
 ·exact ⟨_,‹_›,‹_›⟩
 ·exact ⟨_,‹_›,‹_›⟩
theorem o9 {l:List Value}{T:String}{Q:Option Value->Shared->Prop}(h0:l≠[]) (h:∀ u∈l,s.TypeIs u T) (q:Q (some (.type T)) s):wpAny M A (oneTypeOnly' l.toArray) Q E s:=by
 rw [oneTypeOnly'_eq,List.mapM_toArray,map_eq_pure_bind]
 refine wpAny_bind (wpAny_bind (iG (g:=λ_=>Value.type T) (λu hu Q' q'=>wpAny_typeOf (h u hu) q') (wpAny_pure ?_)))
 cases l with
 |nil=>exact (h0 rfl).elim
 |cons v l =>
  have e0:(List.map (λ_:Value=>Value.type T) (v::l)).toArray[0]?=some (Value.type T):=by simp
  have ea:((List.map (λ_:Value=>Value.type T) (v::l)).toArray.all λx=>x==Value.type T)=true:=by
   simp only [List.all_toArray,List.all_map,List.all_eq_true]
   intro _ _
   show (Value.type T==Value.type T)=true
   exact beq_self_eq_true _
  rw [e0]
  simp only [ea,if_true]
  exact wpAny_pure q
theorem ow (v:Value):firstOfTuple' v=(do
  if (<- typeOf v) != .type "tuple" then return none
  return (<- Builtin.List.listItems v)[0]?):=rfl
noncomputable def hd1 (s:Shared):Value->Option Value
 |.ref a=>match s.heap.get? a with
  |some o=>match o.data with
   |.seq xs _=>xs[0]?
   |_=>none
  |none=>none
 |_=>none
theorem xJ {vs:List Value}{k0:Ky}{Q:SortKind->Shared->Prop}(h0:vs≠[]) (hf:fit k0=true) (hk:∀ v∈vs,∃ k,KR s v k/\Ky.shp k0 k=true) (q:Q (dQ k0) s):wpAny M A (keyKind' vs.toArray) Q E s:=by
 rw [keyKind'_eq,List.mapM_toArray,map_eq_pure_bind]
 have flat:∀ T:String,(Value.type T != Value.type "tuple")=true->(∀ v∈vs,s.TypeIs v T)->dQ k0=oneType'->wpAny M A (do
   let firsts <- vs.mapM firstOfTuple' >>= λx=>pure x.toArray
   if firsts.all (·.isSome) then
    rule "list.sort.keys-are-tuples"
    return tuples' ((<- oneTypeOnly' (firsts.filterMap id)).any (· != .type "tuple"))
   if (firsts[0]?.bind id).isSome then return general'
   return if (<- oneTypeOnly' vs.toArray).isSome then oneType' else general') Q E s:=by
  intro T hT ht hkd
  refine wpAny_bind (wpAny_bind (iG (g:=λ_=>none) (λv hv Q' q'=>?_) (wpAny_pure ?_)))
  ·rw [ow]
   refine wpAny_bind (wpAny_typeOf (ht v hv) ?_)
   rw [if_pos hT]
   exact wpAny_pure q'
  ·cases vs with
   |nil=>exact (h0 rfl).elim
   |cons v l =>
    rw [if_neg (by simp),if_neg (by simp)]
    refine wpAny_bind (o9 (by simp) ht ?_)
    rw [hkd] at q
    exact wpAny_pure q
 cases k0 with
 |tt v=>cases hf
 |nil=>cases hf
 |i n =>
  refine flat "int" (by decide) (λv hv=>?_) rfl
  obtain ⟨k,r,e⟩:=hk v hv
  cases k<;>first|exact r.ty|cases e
 |s n =>
  refine flat "str" (by decide) (λv hv=>?_) rfl
  obtain ⟨k,r,e⟩:=hk v hv
  cases k<;>first|exact r.ty|cases e
 |cons h t =>
  have each:∀ v∈vs,∃ a o xs n u,v=.ref a/\s.heap.get? a=some o/\o.cls=.type "tuple" /\ o.data=.seq xs n/\xs[0]?=some u/\s.TypeIs u (tyK h):=by
   intro v hv
   obtain ⟨k,⟨ok,as,r⟩,e⟩:=hk v hv
   cases k with
   |cons h' t' =>
    simp only [Ky.dat] at r
    cases r with
    |tuple a1 a2 a3 a4 =>
     rename_i xs n
     generalize hl:xs.toList=l at a4
     cases a4 with
     |cons r rs =>
      rename_i u us _ _
      simp only [Ky.eA,Bool.and_eq_true] at ok
      simp only [Ky.b9,Bool.and_eq_true] at e
      have ty:s.TypeIs u (tyK h'):=KR.ty ⟨ok.1.1,_,r⟩
      have et:tyK h'=tyK h:=sf e.1
      refine ⟨_,_,xs,_,u,rfl,a1,a2,a3,?_,et ▸ ty⟩
      rw [<- Array.getElem?_toList,hl];rfl
   |_=>cases e
  have gh:∀ v∈vs,∃ u,hd1 s v=some u/\s.TypeIs u (tyK h):=by
   intro v hv
   obtain ⟨a,o,xs,n,u,rfl,h1,_,h3,h4,h5⟩:=each v hv
   exact ⟨u,by simp only [hd1,h1,h3,h4],h5⟩
  refine wpAny_bind (wpAny_bind (iG (g:=hd1 s) (λv hv Q' q'=>?_) (wpAny_pure ?_)))
  ·obtain ⟨a,o,xs,n,u,rfl,h1,h2,h3,h4,h5⟩:=each v hv
   rw [ow]
   refine wpAny_bind (wpAny_typeOf (T:="tuple") ⟨o,h1,h2⟩ ?_)
   rw [if_neg (by decide)]
   refine wpAny_bind (listItems_at h1 h3 (wpAny_pure ?_))
   simpa only [hd1,h1,h3] using q'
  ·have all:(List.map (hd1 s) vs).toArray.all (·.isSome)=true:=by
    simp only [List.all_toArray,List.all_map,List.all_eq_true]
    intro v hv
    obtain ⟨u,e,_⟩:=gh v hv
    show (hd1 s v).isSome=true
    rw [e];rfl
   rw [if_pos all]
   refine wpAny_bind (wpAny_rule ?_)
   have fm:(List.map (hd1 s) vs).toArray.filterMap id=((List.map (hd1 s) vs).filterMap id).toArray:=by simp
   rw [fm]
   refine wpAny_bind (o9 (T:=tyK h) ?_ (λu hu=>?_) (wpAny_pure q))
   ·cases vs with
    |nil=>exact (h0 rfl).elim
    |cons v l =>
     obtain ⟨u,e,_⟩:=gh v (List.mem_cons_self ..)
     simp [e]
   ·rw [List.mem_filterMap] at hu
    obtain ⟨x,hx,ex⟩:=hu
    rw [List.mem_map] at hx
    obtain ⟨v,hv,rfl⟩:=hx
    obtain ⟨u',e,ht⟩:=gh v hv
    rw [show id (hd1 s v)=hd1 s v from rfl,e] at ex
    cases ex;exact ht
end
theorem pK {α:Type}{prog:Program}{w:World}{A:Around}{E:Value->Shared->Prop}{s:Shared}{ks us:List Value}{k0:Ky}{rest:Unit×SortSt->Sem α}{Q:α->Shared->Prop}(hl:ks.length=us.length) (Mi:us.length<64) (hf:fit k0=true)
  (hk:∀ v∈ks,∃ k,KR s v k/\Ky.shp k0 k=true) (hu:A.units+k0.dep+1<cLine)
  (h:∀ st:SortSt,(arrOf st).Perm (ks.toArray.zip us.toArray)->failedOf st=none->(∀ i j (hj:j<(arrOf st).size) (hi:i<(arrOf st).size),i<=j->Ky.lt (bQ s (arrOf st)[j].1) (bQ s (arrOf st)[i].1)=false)->wpAny (model prog w) A (rest ((),st)) Q E s) :
  wpAny (model prog w) A (do
   let kind <- if us.toArray.size<2 then pure general' else keyKind' ks.toArray
   let r <- (if us.toArray.size<2 then pure () else sortRuns').run (SortSt.mk' kind (ks.toArray.zip us.toArray) #[] 7 none)
   rest r) Q E s:=by
 have sz:(ks.toArray.zip us.toArray).size=us.length:=by simp [hl]
 by_cases h2:us.toArray.size<2
 ·rw [if_pos h2,if_pos h2]
  refine wpAny_bind (wpAny_pure ?_)
  dsimp only
  rw [StateT.run_pure]
  refine wpAny_bind (wpAny_pure (h _ (Array.Perm.refl _) rfl λi j hj hi ij=>?_))
  have e:i=j:=by
   have:j<(ks.toArray.zip us.toArray).size:=hj
   rw [sz] at this
   simp only [List.size_toArray] at h2
   omega
  subst e
  exact Ky.irr _
 ·rw [if_neg h2,if_neg h2]
  simp only [List.size_toArray] at h2
  refine wpAny_bind (xJ (k0:=k0) (by intro e;rw [e] at hl;simp at hl;omega) hf hk ?_)
  have L5:∀ v∈ks,KR s v (bQ s v)/\Ky.shp k0 (bQ s v)=true:=λv hv=>by
   obtain ⟨k,r,e⟩:=hk v hv
   rw [fW r];exact ⟨r,e⟩
  have mem:∀ p∈(ks.toArray.zip us.toArray).toList,p.1∈ks:=λp hp=>by
   rw [show (ks.toArray.zip us.toArray).toList=ks.zip us by simp] at hp
   exact (List.of_mem_zip hp).1
  have Q4:∀ x∈ks.map (bQ s),∀ y∈ks.map (bQ s),Ky.shp x y=true:=λx hx y hy=>by
   rw [List.mem_map] at hx hy
   obtain ⟨v,hv,rfl⟩:=hx
   obtain ⟨v',OX,rfl⟩:=hy
   exact Ky.shp_trans (Ky.qa (L5 v hv).2) (L5 v' OX).2
  let ρ:Keyed->Nat:=λp=>rnk (ks.map (bQ s)) (bQ s p.1)
  have C:Cm prog w A s (dQ k0) (ks.toArray.zip us.toArray) ρ:=λx y hx hy E' Q' q'=>by
   have mx:=mem x hx
   have my:=mem y hy
   have q2:Q' (Ky.lt (bQ s x.1) (bQ s y.1)) s:=by
    rw [<- se Q4 (List.mem_map_of_mem mx) (List.mem_map_of_mem my)];exact q'
   rw [<- EM (L5 x.1 mx).2]
   refine HL (L5 x.1 mx).1 (L5 y.1 my).1 (Q4 _ (List.mem_map_of_mem mx) _ (List.mem_map_of_mem my)) (BR (L5 x.1 mx).2 hf) ?_ q2
   rw [<- Ky.shp_dep (L5 x.1 mx).2];exact hu
  refine wpAny_bind (wpAny_mono (EK (E:=E) (st:=SortSt.mk' (dQ k0) (ks.toArray.zip us.toArray) #[] 7 none) (Q:=λ_ z=>(arrOf z).Perm (ks.toArray.zip us.toArray)/\failedOf z=none/\Up ρ (arrOf z) (ks.toArray.zip us.toArray).size) C ⟨Array.Perm.refl _,rfl,rfl,rfl⟩ (by rw [sz];omega) (by rw [sz];exact Mi)
   λz a1 a2 a3=>⟨a1,a2,a3⟩) ?_ λ_ _ e=>e)
  rintro ⟨⟨⟩,z⟩ s' ⟨rfl,zp,zf,zu⟩
  refine h z zp zf λi j hj hi ij=>?_
  have up:=zu i j ij (by rw [<- zp.size_eq];exact hj)
  have mz:∀ k (hk:k<(arrOf z).size),(arrOf z)[k].1∈ks:=λk hk=>mem _ ((Array.perm_iff_toList_perm.mp zp).mem_iff.mp (by simp))
  have e1:∀ k (hk:k<(arrOf z).size),rk ρ (arrOf z) k=ρ (arrOf z)[k]:=λk hk=>by unfold rk;rw [getElem?_pos _ k hk];rfl
  rw [e1 i hi,e1 j hj] at up
  rw [<- se Q4 (List.mem_map_of_mem (mz j hj)) (List.mem_map_of_mem (mz i hi))]
  exact decide_eq_false (Nat.not_lt.mpr up)
end S6
namespace T2
open PySem PySem.Spec PyProof.Rows L2 S6
mutual
noncomputable def tre:Ky->T
 |.i n=>.int n
 |.s x=>.str x
 |.tt v=>.bl v
 |.nil=>.tup []
 |.cons h t=>.tup (tre h::g8 t)
noncomputable def g8:Ky->List T
 |.cons h t=>tre h::g8 t
 |_=>[]
end
theorem lx:∀ k:Ky,cN (tre k)=some k.dat/\bF (g8 k)=some k.row
 |.i n=>⟨rfl,rfl⟩
 |.s n=>⟨rfl,rfl⟩
 |.tt n=>⟨rfl,rfl⟩
 |.nil=>⟨rfl,rfl⟩
 |.cons h t=>by
  have h1:=(lx h).1
  have h2:=(lx t).2
  exact ⟨by show (bF (tre h::g8 t)).map PyData.tuple=_;rw [l9 h1 h2];rfl,l9 h1 h2⟩
theorem tZ {X:Cx}{K:Fg}{pins:List (Addr×Obj)}{U:L2.St}{H:Hp}{S:Sto}{s:Shared}{k:Ky}{v:V}{u:Value}(hK:X.K=K) (I:Inv X pins U H s) (r:Rp K H S (tre k) v) (rv:au v u) (ok:Ky.ok k=true):KR s u k:=by
 subst hK
 exact ⟨ok,eK I (ma r (lx k).1) rv⟩
theorem fX {α β:Type}(f:α->β){m n:List β}(h:m.Perm n):∀ {l:List α},n=l.map f->∃ l':List α,l'.Perm l/\m=l'.map f:=by
 induction h with
 |nil =>
  intro l e
  exact ⟨[],by rw [List.map_eq_nil_iff.mp e.symm],rfl⟩
 |cons x _ ih =>
  intro l e
  cases l with
  |nil=>cases e
  |cons a l =>
   simp only [List.map_cons,List.cons.injEq] at e
   obtain ⟨l',p,q⟩:=ih e.2
   exact ⟨a::l',p.cons a,by rw [List.map_cons,q,e.1]⟩
 |swap x y z =>
  intro l e
  cases l with
  |nil=>cases e
  |cons a l =>
   cases l with
   |nil=>simp at e
   |cons b l =>
    simp only [List.map_cons,List.cons.injEq] at e
    exact ⟨b::a::l,List.Perm.swap a b l,by rw [List.map_cons,List.map_cons,e.1,e.2.1,e.2.2]⟩
 |trans _ _ ih1 ih2 =>
  intro l e
  obtain ⟨l',p,q⟩:=ih2 e
  obtain ⟨l2,p2,q2⟩:=ih1 q
  exact ⟨l2,p2.trans p,q2⟩
structure Rec where
 t:T
 v:V
 u:Value
 ku:Value
section
variable {X:Cx}{K:Fg}{pins:List (Addr×Obj)}{U:L2.St}{H H':Hp}{S:Sto}{s:Shared}
theorem mm:∀ {ts:List T}{vs:List V}{us ks:List Value},Rps K H S ts vs->ag vs us->ks.length=us.length->∃ R:List Rec,R.map (·.t)=ts/\R.map (·.v)=vs/\R.map (·.u)=us/\R.map (·.ku)=ks/\∀ r∈R,Rp K H S r.t r.v/\au r.v r.u
 |_,_,_,[],.nil,.nil,_=>⟨[],rfl,rfl,rfl,rfl,λ_ h=>by cases h⟩
 |_,_,_,_::_,.nil,.nil,h=>by simp at h
 |_,_,_,[],.cons _ _,.cons _ _,h=>by simp at h
 |t::ts,v::vs,u::us,k::ks,.cons a b,.cons c d,h=>by
  obtain ⟨R,e1,e2,e3,e4,e5⟩:=mm b d (by simpa using h)
  refine ⟨⟨t,v,u,k⟩::R,by simp [e1],by simp [e2],by simp [e3],by simp [e4],λr hr=>?_⟩
  rcases List.mem_cons.mp hr with rfl|hr
  ·exact ⟨a,c⟩
  ·exact e5 r hr
theorem lB:∀ {R:List Rec},(∀ r∈R,Rp K H S r.t r.v/\au r.v r.u)->Rps K H S (R.map (·.t)) (R.map (·.v))/\ag (R.map (·.v)) (R.map (·.u))
 |[],_=>⟨.nil,.nil⟩
 |r::R,h=>by
  obtain ⟨a,b⟩:=h r (List.mem_cons_self ..)
  obtain ⟨c,d⟩:=lB λx hx=>h x (List.mem_cons_of_mem _ hx)
  exact ⟨.cons a c,.cons b d⟩
end
theorem wK (a f:Value):argsOk "sorted" ⟨[a],[(Str.ofString "key",f)]⟩:=by unfold argsOk;kernel_rfl
theorem vU (a f:Value):argsOk "list.sort" ⟨[a],[(Str.ofString "key",f)]⟩:=by unfold argsOk;kernel_rfl
theorem oB {prog:Program}{w:World}{A:Around}{E:Value->Shared->Prop}{s:Shared}{Ty:String}{name:Str}{id:String}{b:Builtin}{self:Value}{rest:List Value}{kw:List (Str×Value)}{Q:Value->Shared->Prop}(h:Slot Ty name id) (hT:s.TypeIs self Ty)
  (hb:entryFor table id=some b) (hc:wpAny (model prog w) A.in1 (b ⟨self::rest,kw⟩) (λfin s'=>∃ v,fin=.done (.ret v)/\Q v s') E s) (ha:argsOk id ⟨self::rest,kw⟩):wpAny (model prog w) A (call (.builtin id) (self::rest) kw) Q E s:=by
 refine wpAny_call (codeAny_call_builtin h.plain hb (h.check _ _ _ _ _ _ _ _ hT ha (wpAny_mono hc (λfin s' h'=>?_) λ_ _ h'=>h')))
 obtain ⟨v,rfl,hv⟩:=h';exact hv
def jx (a:Addr) (before:Nat) (s:SortSt):Sem PySem.Fin:=do
 let touched:=(<- seqEpoch a) != before
 Builtin.List.listUpdate (.ref a) λ_=>(arrOf s).map (·.2)
 if let some e:=failedOf s then rule "list.sort.comparison-raised";throw e
 if touched then rule "list.sort.modified";raiseError "ValueError" "list modified during sort"
 ret .none
def og (Qa items:Array Value) (rest:SortSt->Sem PySem.Fin):Sem PySem.Fin:=do
 let kind <- if items.size<2 then pure general' else keyKind' Qa
 let r <- (if items.size<2 then pure () else sortRuns').run (SortSt.mk' kind (Qa.zip items) #[] 7 none)
 rest r.2
def g9 (a:Addr) (B:Array Value->Nat->Value->Sem PySem.Fin):Sem PySem.Fin:=do
 let items <- Builtin.List.listItems (.ref a)
 Builtin.List.listUpdate (.ref a) λ_=>#[]
 let before <- seqEpoch a
 let held <- newTuple items.toList
 let keyStore <- newList []
 holding [held,keyStore] (B items before keyStore)
def oh (a fa:Addr) (items:Array Value) (keyStore:Value) (x:Value) (_:PUnit):Sem (ForInStep PUnit):=do
 match <- (call (.ref fa) [x]).attempt with
 |.ok k=>Builtin.List.listUpdate keyStore (·.push k)
 |.error e =>
  rule "list.sort.key-raised"
  let made <- Builtin.List.listItems keyStore
  Builtin.List.listUpdate keyStore λ_=>#[]
  letGo made.toList.reverse [e]
  Builtin.List.listUpdate (.ref a) λ_=>items;throw e
 pure (.yield ⟨⟩)
def nJ (a fa:Addr) (items:Array Value) (before:Nat) (keyStore:Value):Sem PySem.Fin:=do
 rule "list.sort.key"
 let _ <- forIn items PUnit.unit (oh a fa items keyStore)
 let Qa <- Builtin.List.listItems keyStore
 og Qa items λs=>do
  Builtin.List.listUpdate keyStore λ_=>#[]
  letGo ((arrOf s).map (·.1)).toList (failedOf s).toList
  jx a before s
theorem xb (a fa:Addr):Builtin.«list.sort» ⟨[.ref a],[(Str.ofString "key",.ref fa)]⟩=g9 a (nJ a fa):=by rfl
section
variable {X:Cx}{K:Fg}{pins:List (Addr×Obj)}{U:L2.St}{H H':Hp}{S:Sto}{s:Shared}
theorem iQ {D:Addr}{φ:Heap->Prop}{ws:List V}{its its':List Value}{n:Nat}{f:Array Value->Array Value}(I:Inv X pins U H s) (h:H D=some (.ext φ)) (e:s.heap.get? D=some (seqObj "list" its.toArray n)) (hf:f its.toArray=its'.toArray) (r:ag ws its') (hz:ws.length<=sizeLine) :
  Inv X pins U (upd H D (bC D ws)) { s with heap:=s.heap.update D (Obj.mapSeq f) }:=by
 obtain ⟨hh,g,d,t,os⟩:=s
 have e2:=get?_update_seq e f
 rw [hf] at e2
 refine I.write (t':=t) (h':=hh.update D (Obj.mapSeq f)) (x:=D) (e:=D) (by rw [h];trivial) (.inl rfl) (λb u hb q=>(Heap.get?_update_other _ _ (Ne.symm hb)).trans q) ⟨_,e2⟩ ⟨⟨hz,its',_,r,e2⟩,⟨_,e2⟩,λh1 h2 ⟨z',i',n',r',q'⟩ k=>⟨z',i',n',r',k _ q'⟩⟩
theorem t4 {D:Addr}{zs:List V}(I:Inv X pins U H s) (h:H D=some (bC D zs)):zs.length<=sizeLine/\∃ its n,ag zs its/\s.heap.get? D=some (seqObj "list" its.toArray n):=by
 obtain ⟨⟨z,its,n,r,e⟩,_,_⟩:=I.hok D _ h
 exact ⟨z,its,n,r,e⟩
theorem sh {D:Addr}{zs:List V}{its:List Value}{n t':Nat}{h':Heap}(I:Inv X pins U H s) (k:∀ b u,s.heap.get? b=some u->h'.get? b=some u) (hp:s.heap.objs.size<=D) (r:ag zs its) (hz:zs.length<=sizeLine)
  (e:h'.get? D=some (seqObj "list" its.toArray n)):Inv X pins U (upd H D (bC D zs)) { s with heap:=h',toks:=t' } :=
 I.laid k hp ⟨⟨hz,its,n,r,e⟩,⟨_,e⟩,λh1 h2 zz96 k=>by obtain ⟨z',i',n',r',q'⟩:=zz96;exact ⟨z',i',n',r',k _ q'⟩⟩
end
def cC (D:Addr) (o:Obj):HO:=.ext λh=>h.get? D=some o
theorem si {X:Cx}{pins:List (Addr×Obj)}{U:L2.St}{H:Hp}{s:Shared}{D:Addr}{o:Obj}{t':Nat}{h':Heap}(I:Inv X pins U H s) (k:∀ b u,s.heap.get? b=some u->h'.get? b=some u) (hp:s.heap.objs.size<=D) (e:h'.get? D=some o):Inv X pins U (upd H D (cC D o)) { s with heap:=h',toks:=t' } :=
 I.laid k hp ⟨e,⟨_,e⟩,λh1 h2 p k=>k _ p⟩
theorem t5 {X:Cx}{pins:List (Addr×Obj)}{U:L2.St}{H:Hp}{s:Shared}{D:Addr}{o:Obj}(I:Inv X pins U H s) (h:H D=some (cC D o)):s.heap.get? D=some o:=(I.hok D _ h).1
def hJ (tr:Bool) (xs:List T) (κ:T->Ky) (S:Sto) (Q:T->Sto->Prop):Prop:=∀ zs:List T,zs.Perm xs->zs.Pairwise (λa b=>Ky.lt (κ b) (κ a)=false)->bi tr zs S Q
def mT (tr:Bool) (f:Addr) (Ka:WSp):List T->List T->Sto->(T->Sto->Prop)->Prop:=λts us S Q=>∃ x xs κ k0,ts=[x]/\us=[.ref f]/\aS S x=some xs/\xs.length<64/\fit k0=true/\k0.dep<=30 /\
 (∀ t∈xs,Ky.ok (κ t)=true/\Ky.shp k0 (κ t)=true/\∀ S' Q',Q' (tre (κ t)) S'->Ka [t] S' Q')/\hJ tr xs κ S Q
def lCK (K:Fg) (g:List T->List T->Sto->(T->Sto->Prop)->Prop):List V->List V->Hp->VK->Prop:=λxs zs H Q=>∃ S ts us Qt,SRp K H S/\Rps K H S ts xs/\Rps K H S us zs/\g ts us S Qt/\Bh K H S Qt Q
section
variable {X:Cx}{K:Fg}{pins:List (Addr×Obj)}{U:L2.St}{H Hc:Hp}{S:Sto}{s:Shared}{E:Value->Shared->Prop}
theorem zT {κ:T->Ky}{k0:Ky}{ls:List T}(hK:X.K=K) (I:Inv X pins U H s) (hk:∀ t∈ls,Ky.ok (κ t)=true/\Ky.shp k0 (κ t)=true){R:List Rec}:∀ {vs:List V},Rps K H S (R.map λr=>tre (κ r.t)) vs->ag vs (R.map (·.ku))->(∀ r∈R,r.t∈ls)->∀ r∈R,KR s r.ku (κ r.t)/\Ky.shp k0 (κ r.t)=true:=by
 induction R with
 |nil=>intro _ _ _ _ r hr;cases hr
 |cons r0 R ih =>
  intro kvs a b m r hr
  cases a with
  |cons a1 a2 =>
   cases b with
   |cons b1 b2 =>
    rcases List.mem_cons.mp hr with rfl|hr
    ·have:=hk r.t (m r (List.mem_cons_self ..))
     exact ⟨tZ hK I a1 b1 this.1,this.2⟩
    ·exact ih a2 b2 (λx hx=>m x (List.mem_cons_of_mem _ hx)) r hr
theorem zU {κ:T->Ky}{R:List Rec}{ar:Array Keyed}(eR:ar.toList=R.map λr=>((r.ku,r.u):Keyed)) (L5:∀ r∈R,KR s r.ku (κ r.t))
  (hs:∀ i j (hj:j<ar.size) (hi:i<ar.size),i<=j->Ky.lt (bQ s ar[j].1) (bQ s ar[i].1)=false):(R.map (·.t)).Pairwise (λa b=>Ky.lt (κ b) (κ a)=false):=by
 obtain ⟨l⟩:=ar
 subst eR
 rw [List.pairwise_map,List.pairwise_iff_getElem]
 intro i j hi hj ij
 have:=hs i j (by simpa using hj) (by simpa using hi) (Nat.le_of_lt ij)
 simp only [List.getElem_toArray,List.getElem_map] at this
 rw [fW (L5 _ (List.getElem_mem hi)),fW (L5 _ (List.getElem_mem hj))] at this
 exact this
theorem yB {κ:T->Ky}{k0:Ky}{ls:List T}{vs kvs:List V}{its OV:List Value}(hK:X.K=K) (I:Inv X pins U H s) (hk:∀ t∈ls,Ky.ok (κ t)=true/\Ky.shp k0 (κ t)=true)
  (rs:Rps K H S ls vs) (rv:ag vs its) (rk:Rps K H S (ls.map λt=>tre (κ t)) kvs) (Qb:ag kvs OV) (lk:OV.length=its.length) :
  (∀ v∈OV,∃ k,KR s v k/\Ky.shp k0 k=true)/\∀ ar:Array Keyed,ar.Perm (OV.toArray.zip its.toArray)->(∀ i j (hj:j<ar.size) (hi:i<ar.size),i<=j->Ky.lt (bQ s ar[j].1) (bQ s ar[i].1)=false) ->
   ∃ zs MG NL,zs.Perm ls/\zs.Pairwise (λa b=>Ky.lt (κ b) (κ a)=false)/\ar.map (·.2)=NL.toArray/\Rps K H S zs MG/\ag MG NL/\MG.length=its.length:=by
 obtain ⟨R,q1,q2,q3,q4,q5⟩:=mm rs rv lk
 have L5:=zT (R:=R) hK I hk (by rw [<- q1,List.map_map] at rk;exact rk) (by rw [q4];exact Qb) λr hr=>by rw [<- q1];exact List.mem_map_of_mem hr
 refine ⟨λv hv=>?_,λar hp hs=>?_⟩
 ·rw [<- q4] at hv
  obtain ⟨r,hr,rfl⟩:=List.mem_map.mp hv
  exact ⟨_,L5 r hr⟩
 ·obtain ⟨R',pR,eR⟩:=fX (λr:Rec=>((r.ku,r.u):Keyed)) (Array.perm_iff_toList_perm.mp hp) (l:=R) (by
   have:(OV.toArray.zip its.toArray).toList=OV.zip its:=by simp
   rw [this,<- q3,<- q4]
   exact List.zip_map')
  have m:∀ r∈R',r∈R:=λr hr=>pR.mem_iff.mp hr
  obtain ⟨rz,vz⟩:=lB λr hr=>q5 r (m r hr)
  refine ⟨_,_,_,by rw [<- q1];exact pR.map _,zU eR (λr hr=>(L5 r (m r hr)).1) hs,?_,rz,vz,by rw [List.length_map,pR.length_eq,<- q3,List.length_map]⟩
  apply Array.toList_inj.mp
  rw [Array.toList_map,eR,List.map_map]
  rfl
theorem qb {A:Around}{L:Addr}{ep:Nat}{st:SortSt}{us:List Value}{vs:List V}{P:Shared->Prop}(I:Inv X pins U Hc s) (eL:Hc L=some (cC L (seqObj "list" #[] ep))) (hf:failedOf st=none) (Ko:(arrOf st).map (·.2)=us.toArray) (vz:ag vs us) (hz:vs.length<=sizeLine)
  (h:∀ s',Inv X pins U (upd Hc L (.lst vs)) s'->P s'):wpAny (model X.prog X.w) A (jx L ep st) (λfin s'=>∃ v,fin=.done (.ret v)/\P s') E s:=by
 unfold jx
 have e:=t5 I eL
 refine wpAny_bind (seqEpoch_at e rfl (wpAny_bind (listUpdate_at e rfl ?_ (by simp) (by rw [Ko,List.size_toArray,<- vz.length];exact Nat.le_succ_of_le hz))))
 rw [hf]
 simp only [bne_self_eq_false,Bool.false_eq_true,if_false]
 have I8:=(iQ I eL (its:=[]) e (f:=λ_=>(arrOf st).map (·.2)) Ko vz hz).ofAcc (D:=L) aF
 rw [gi] at I8
 exact wpAny_pure ⟨_,rfl,h _ I8⟩
theorem qc {tr:Bool}{L:Addr}{φ:Heap->Prop}{zs:List T}{vs:List V}{Qt:T->Sto->Prop}{Q:VK}(b:Bh K H S Qt Q) (nL:H L=none) (fc:Fr H S Hc S) (sc:SRp K Hc S) (eL:Hc L=some (.ext φ)) (nS:S L=none) (rz:Rps K Hc S zs vs) (fin:bi tr zs S Qt):Q (.ref L) (upd Hc L (.lst vs)):=by
 cases tr with
 |false=>exact b _ _ (.lst _) S (Fr.at fc nL) (sc.chg eL nS) (.lst nS aF (Rps.chg eL rz)) fin
 |true =>
  refine b _ _ (.ref L) _ (λa o h nn=>?_) (SRp.trk eL sc rz) .ref (fin L nS)
  rw [av (bt h nL)]
  exact Fr.at fc nL a o h nn
theorem BS {A:Around}{L:Addr}{its:List Value}{B:Array Value->Nat->Value->Sem PySem.Fin}{Q:PySem.Fin->Shared->Prop}(I:Inv X pins U H s) (sr:SRp K H S){h1:Heap}(hL:h1.objs.size=L) (old:∀ b u,s.heap.get? b=some u->h1.get? b=some u) (sz:s.heap.objs.size<=L) (hz:its.length<=sizeLine)
  (h:∀ ep Hc s5,Inv X pins U Hc s5->Hc L=some (cC L (seqObj "list" #[] ep))->Hc (L+2)=some (bC (L+2) [])->H L=none->H (L+2)=none->Fr H S Hc S->SRp K Hc S->wpAny (model X.prog X.w) A (B its.toArray ep (.ref (L+2))) Q E s5) :
  wpAny (model X.prog X.w) A (g9 L B) Q E { s with heap:=h1.push (seqObj "list" its.toArray 0) }:=by
 have Pc:(h1.push (seqObj "list" its.toArray 0)).get? L=some (seqObj "list" its.toArray 0):=hL ▸ Heap.get?_push_size _ rfl
 unfold g9
 refine wpAny_bind (listItems_at Pc rfl (wpAny_bind (listUpdate_at Pc rfl ?_ (by simpa using hz) (by simp))))
 obtain ⟨ep,ho1⟩:∃ ep,((h1.push (seqObj "list" its.toArray 0)).update L (Obj.mapSeq λ_=>#[])).get? L=some (seqObj "list" #[] ep):=⟨_,get?_update_seq Pc (λ_=>#[])⟩
 refine wpAny_bind (seqEpoch_at ho1 rfl ?_)
 have sz2:((h1.push (seqObj "list" its.toArray 0)).update L (Obj.mapSeq λ_=>#[])).objs.size=L+1:=by rw [Heap.size_update,size_push',hL]
 have I2:=si (t':=s.toks) I (λb u e=>(Heap.get?_update_other _ _ (Ne.symm (Nat.ne_of_lt (Nat.lt_of_lt_of_le (Heap.lt_size e) sz)))).trans (Heap.get?_push_of_some (seqObj "list" its.toArray 0) (old b u e))) sz ho1
 have ne:L+2≠L:=Nat.ne_of_gt (Nat.lt_add_of_pos_right (by decide))
 have nL:H L=none:=I.hok.fresh sz
 have nk:H (L+2)=none:=I.hok.fresh (Nat.le_add_right_of_le sz)
 have nk2:upd H L (cC L (seqObj "list" #[] ep)) (L+2)=none:=by rw [ao ne];exact nk
 refine wpAny_bind (wpAny_newTuple (wpAny_bind (wpAny_newList ?_)) (by simpa using hz))
 generalize (h1.push (seqObj "list" its.toArray 0)).update L (Obj.mapSeq λ_=>#[])=h2 at *
 have sz3:(h2.push { cls:=.type "tuple",data:=.seq its.toArray.toList.toArray }).objs.size=L+2:=by rw [size_push',sz2]
 dsimp only
 rw [sz3]
 refine wpAny_holding (h ep _ _ (sh (D:=L+2) (s:={ s with heap:=h2,toks:=s.toks }) I2 (λb u e=>Heap.get?_push_of_some _ (Heap.get?_push_of_some _ e)) (Nat.le_trans (Nat.le_of_eq sz2) (Nat.le_succ _)) .nil (Nat.zero_le _) (sz3 ▸ Heap.get?_push_size _ rfl)) (by rw [ao ne.symm];exact aF) aF nL nk ((Fr.new nL).trans (Fr.new nk2)) ((sr.new nL).new nk2))
theorem pL {kw:List (Str×Value)}{ls:List T}{x:T}{B:Addr->Array Value->Nat->Value->Sem PySem.Fin}{Ψ:Value->Shared->Prop}{u:Value}{y:V}(hK:X.K=K) (I:Inv X pins U H s) (sr:SRp K H S) (rx:Rp K H S x y) (ru:au y u) (ev:aS S x=some ls)
  (ha:∀ a,argsOk "sorted" ⟨[a],kw⟩) (ha':∀ a,argsOk "list.sort" ⟨[a],kw⟩) (hb:∀ a,Builtin.«list.sort» ⟨[.ref a],kw⟩=g9 a (B a))
  (h:∀ L ep Hc s5 vs its,Rps K H S ls vs->ag vs its->its.length<=sizeLine->Inv X pins U Hc s5->Hc L=some (cC L (seqObj "list" #[] ep))->Hc (L+2)=some (bC (L+2) [])->H L=none->H (L+2)=none->Fr H S Hc S->SRp K Hc S ->
   wpAny (model X.prog X.w) X.A.in1.in1 (B L its.toArray ep (.ref (L+2))) (λfin s'=>∃ v,fin=.done (.ret v)/\Ψ (.ref L) s') E s5):wpAny (model X.prog X.w) X.A (call (.builtin "sorted") [u] kw) Ψ E s:=by
 obtain ⟨pl,vs,rfl,hS,rs⟩:=cw sr rx ev
 cases ru
 subst hK
 obtain ⟨its,Oi,⟨o,n,eo,ec,_,ed⟩,hz⟩:=I.list hS
 rw [Oi.length] at hz
 have h:=λL ep Hc s5=>h L ep Hc s5 vs its rs Oi hz
 refine oO kind_sorted plain_sorted entry_sorted (ha _) ?_
 unfold Builtin.«sorted»
 refine wpAny_bind (m:=checkCount "sorted" 1 1 _) (wpAny_pure (wpAny_bind (collect_list (l:=pl) (vs:=its) ⟨o,eo,ec,n,ed⟩ (wpAny_bind (wpAny_newList ?_ hz)) hz)))
 have old:∀ b u,s.heap.get? b=some u->((s.heap.push (seqObj "list" #[] 0)).update s.heap.objs.size (Obj.mapSeq (·++its.toArray))).get? b=some u:=λb u e=>(Heap.get?_update_other _ _ (Ne.symm (Nat.ne_of_lt (Heap.lt_size e)))).trans (Heap.get?_push_of_some _ e)
 have sz:s.heap.objs.size<=((s.heap.push (seqObj "list" #[] 0)).update s.heap.objs.size (Obj.mapSeq (·++its.toArray))).objs.size:=by rw [Heap.size_update,size_push'];exact Nat.le_succ _
 generalize (s.heap.push (seqObj "list" #[] 0)).update s.heap.objs.size (Obj.mapSeq (·++its.toArray))=h1 at *
 refine wpAny_bind (wpAny_holding (oB slot_list_sort (Ty:="list") ⟨_,Heap.get?_push_size _ rfl,rfl⟩ entry_list_sort ?_ (ha' _)))
 rw [hb]
 refine BS I sr rfl old sz hz λep Hc s5 a1 a2 a3 a4 a5 a6 a7=>wpAny_mono (h _ ep Hc s5 a1 a2 a3 a4 a5 a6 a7) (λfin s' zz97=>by obtain ⟨v,e,q⟩:=zz97;exact ⟨v,e,wpAny_pure q⟩) λ_ _ q=>q
structure SInv (X:Cx) (K:Fg) (pins:List (Addr×Obj)) (U:L2.St) (H:Hp) (S:Sto) (L:Addr) (ep:Nat) (κ:T->Ky) (ts:List T) (kvs:List V) (Hc:Hp) (s:Shared):Prop where
 I:Inv X pins U Hc s
 eL:Hc L=some (cC L (seqObj "list" #[] ep))
 ek:Hc (L+2)=some (bC (L+2) kvs)
 fc:Fr H S Hc S
 sc:SRp K Hc S
 rk:Rps K Hc S (ts.map λt=>tre (κ t)) kvs
variable {k:Nat}{f:Addr}{fd:FuncData}{x p:Str}{Ka:WSp}{L:Addr}{ep:Nat}{κ:T->Ky}{ts ls:List T}{kvs:List V}{t:T}
theorem BU {v:V}{u:Value}{items:Array Value}{Q:ForInStep PUnit->Shared->Prop}(F:FnOk X.prog X.w X.K X.mg X.base CX0 k f fd [p] (lSp K Ka)) (D:Df X.K X.mg x f fd [p]) (hr:Room (k+2) X.A) (rt:Rp K H S t v) (ru:au v u) (hk:∀ S' Q',Q' (tre (κ t)) S'->Ka [t] S' Q')
  (nS:S L=none) (nk:H (L+2)=none) (nSk:S (L+2)=none) (hl:ts.length+1<=sizeLine) (J:SInv X K pins U H S L ep κ ts kvs Hc s)
  (h:∀ Qc Hc' s',SInv X K pins U H S L ep κ (ts++[t]) Qc Hc' s'->Q (.yield ⟨⟩) s'):wpAny (model X.prog X.w) X.A.in1.in1 (oh L f items (.ref (L+2)) u ⟨⟩) Q E s:=by
 unfold oh
 refine wpAny_bind (wpAny_attempt (wpAny_call (codeAny_mono (F.run X.A.in1.in1 X.stack s Hc ⟨[u],[]⟩ [u] [v] (λv' H'=>Fr Hc S H' S/\SRp K H' S/\Rp K H' S (tre (κ t)) v') E0 hr.in1.in1 J.I.env0.in1.in1 (D.b s [u] J.I.kIn rfl) (.cons ru .nil)
  ⟨S,[t],λk' S'=>S'=S/\k'=tre (κ t),J.sc,.cons (rt.fr J.fc) .nil,hk S _ ⟨rfl,rfl⟩,λv' H' t' S' f' s' r' q'=>by obtain ⟨rfl,rfl⟩:=q';exact ⟨f',s',r'⟩⟩) λr s2 LZ=>?_)))
 cases r with
 |error e=>exact False.elim LZ
 |ok fl =>
  cases fl with
  |next=>exact False.elim LZ
  |brk=>exact False.elim LZ
  |cont=>exact False.elim LZ
  |ret ku =>
   obtain ⟨v',H',I',r',f',s'',rp'⟩:=J.I.after LZ
   have ek':=(f' (L+2) _ J.ek nSk).1
   obtain ⟨zz,OV,nn,Qb,eku⟩:=t4 I' ek'
   have lk:(kvs++[v']).length<=sizeLine:=by rw [List.length_append,J.rk.length,List.length_map];exact hl
   have r2:=Qb.append (.cons r' .nil)
   have lk2:(OV++[ku]).length<=sizeLine:=r2.length ▸ lk
   refine wpAny_bind (listUpdate_at eku rfl ?_ ?_ ?_)
   ·refine wpAny_pure (h _ _ _ ⟨iQ I' ek' eku (its':=OV++[ku]) (by simp) r2 lk,?_,aF,Fr.at (J.fc.trans f') nk,s''.chg ek' nSk,?_⟩)
    ·rw [ao (Ne.symm (Nat.ne_of_gt (Nat.lt_add_of_pos_right (by decide))))]
     exact (f' L _ J.eL nS).1
    ·rw [List.map_append]
     exact Rps.chg ek' ((J.rk.fr f').append (.cons rp' .nil))
   ·exact Nat.le_of_succ_le (by rw [List.length_append] at lk2;exact lk2)
   ·rw [Array.size_push]
    exact Nat.le_succ_of_le (by rw [List.length_append] at lk2;exact lk2)
variable {tr:Bool}{k0:Ky}{vs:List V}{its:List Value}{Qt:T->Sto->Prop}{Q:VK}
theorem qP {A:Around}{rest:SortSt->Sem PySem.Fin}{P:PySem.Fin->Shared->Prop}{OV:List Value}(hK:X.K=K) (Mi:ls.length<64) (hf:fit k0=true) (hd:A.units+k0.dep+1<cLine) (I:Inv X pins U H s) (hk:∀ t∈ls,Ky.ok (κ t)=true/\Ky.shp k0 (κ t)=true) (rs:Rps K H S ls vs) (rv:ag vs its) (rk:Rps K H S (ls.map λt=>tre (κ t)) kvs) (Qb:ag kvs OV)
  (h:∀ st zs MG NL,failedOf st=none->zs.Perm ls->zs.Pairwise (λa b=>Ky.lt (κ b) (κ a)=false)->(arrOf st).map (·.2)=NL.toArray->Rps K H S zs MG->ag MG NL->MG.length=its.length->wpAny (model X.prog X.w) A (rest st) P E s):wpAny (model X.prog X.w) A (og OV.toArray its.toArray rest) P E s:=by
 have lk:OV.length=its.length:=by rw [<- Qb.length,rk.length,List.length_map,<- rs.length,rv.length]
 obtain ⟨g1,g2⟩:=yB hK I hk rs rv rk Qb lk
 refine pK (k0:=k0) lk (by rw [<- rv.length,rs.length];exact Mi) hf g1 hd λst hp MH hs=>?_
 obtain ⟨zs,MG,NL,p1,p2,Ko,rz,vz,lz⟩:=g2 _ hp hs
 exact h st zs MG NL MH p1 p2 Ko rz vz lz
theorem zV (hK:X.K=K) (F:FnOk X.prog X.w X.K X.mg X.base CX0 k f fd [p] (lSp K Ka)) (D:Df X.K X.mg x f fd [p]) (hr:Room (k+2) X.A) (Mi:ls.length<64) (hf:fit k0=true) (hd:k0.dep<=30) (hk:∀ t∈ls,Ky.ok (κ t)=true/\Ky.shp k0 (κ t)=true/\∀ S' Q',Q' (tre (κ t)) S'->Ka [t] S' Q') (hq:hJ tr ls κ S Qt) (b:Bh K H S Qt Q)
  (rs:Rps K H S ls vs) (rv:ag vs its) (hz:its.length<=sizeLine) (nL:H L=none) (nk:H (L+2)=none) (nS:S L=none) (nSk:S (L+2)=none) (J:SInv X K pins U H S L ep κ [] [] Hc s) :
  wpAny (model X.prog X.w) X.A.in1.in1 (nJ L f its.toArray ep (.ref (L+2))) (λfin s'=>∃ v,fin=.done (.ret v)/\EP X pins U Q (.ref L) s') E s:=by
 unfold nJ
 refine wpAny_bind (wpAny_rule (wpAny_bind ?_))
 have hl:ls.length<=sizeLine:=by rw [<- rs.length,rv.length];exact hz
 refine PySem.MeetsSeq2.wpAny_forIn_array _ (λrest _ s'=>∃ ts rts Oi kvs Hc,ls=ts++rts/\Rps K H S rts Oi/\ag Oi rest/\SInv X K pins U H S L ep κ ts kvs Hc s') _ ?_ ?_ _ _ ⟨[],ls,vs,[],Hc,rfl,rs,rv,J⟩
 ·rintro u rest ⟨⟩ s' ⟨ts,rts,Oi,kvs,Hc,e,r1,r2,J⟩
  cases r2 with
  |cons ru r2 =>
  cases r1 with
  |cons rt r1 =>
  rw [e] at hl
  exact BU F D hr rt ru (hk _ (by rw [e];simp)).2.2 nS nk nSk (by simp at hl;omega) J λQc Hc' s' J'=>⟨_,_,_,_,_,by rw [e];simp,r1,r2,J'⟩
 ·rintro ⟨⟩ s' ⟨ts,rts,Oi,kvs,Hc,e,r1,r2,J⟩
  cases r2
  cases r1
  rw [List.append_nil] at e
  subst e
  obtain ⟨zz,OV,nn,Qb,eku⟩:=t4 J.I J.ek
  refine wpAny_bind (listItems_at eku rfl ?_)
  refine qP hK Mi hf (by have:=hr.in1.in1.units;omega) J.I (λt ht=>⟨(hk t ht).1,(hk t ht).2.1⟩) (rs.fr J.fc) rv J.rk Qb λst zs MG NL MH p1 p2 Ko rz vz lz=>?_
  refine wpAny_bind (listUpdate_at eku rfl (wpAny_bind (wpAny_letGo ?_)) (by rw [List.size_toArray,<- Qb.length];exact zz) (Nat.zero_le _))
  have I6:=iQ J.I J.ek eku (f:=λ_=>#[]) (its':=[]) (ws:=[]) rfl .nil (Nat.zero_le _)
  have eL6:upd _ (L+2) (bC (L+2) []) L=_:=(ao (Ne.symm (Nat.ne_of_gt (Nat.lt_add_of_pos_right (by decide))))).trans J.eL
  exact qb I6 eL6 MH Ko vz (lz ▸ hz) λs' I8=>⟨.ref L,_,I8,rfl,qc b nL (Fr.at J.fc nk) (J.sc.chg J.ek nSk) eL6 nS (Rps.chg J.ek rz) (hq _ p1 p2)⟩
end
theorem BV {X:Cx}{K:Fg}(tr:Bool){k:Nat}{f:Addr}{fd:FuncData}{x p:Str}{Ka:WSp}(hK:X.K=K) (F:FnOk X.prog X.w X.K X.mg X.base CX0 k f fd [p] (lSp K Ka)) (D:Df X.K X.mg x f fd [p]) (hr:Room (k+2) X.A) :
  rO X (.builtin "sorted") [Str.ofString "key"] (lCK K (mT tr f Ka)):=by
 rintro pins s U H xs zs us ws Q I rv rz ⟨S,ts,NL,Qt,sr,r1,r2,⟨x,ls,κ,k0,e1,e2,ev,Mi,hf,hd,hk,hq⟩,b⟩
 subst e1 e2
 cases r1 with
 |cons rx Pp =>
 cases Pp
 cases r2 with
 |cons rf Pp =>
 cases Pp
 cases rf
 obtain ⟨u,rfl,ru⟩:=bW rv
 obtain ⟨u',rfl,ru'⟩:=bW rz
 cases ru'
 exact pL hK I sr rx ru ev (wK · _) (vU · _) (xb · f) λL ep Hc s5 vs its rs Oi hz J eL ek nL nk fc sc=>zV hK F D hr Mi hf hd hk hq b rs Oi hz nL nk (sr.fresh nL) (sr.fresh nk) ⟨J,eL,ek,fc,sc,.nil⟩
def wSK (g:List T->List T->Sto->(T->Sto->Prop)->Prop) (wr:WA) (wk:WE):WE:=λU S Q=>wr U S λts S1=>wk U S1 λy S2=>g ts [y] S2 Q
theorem EN {K:Fg}{g:List T->List T->Sto->(T->Sto->Prop)->Prop}{wr:WA}{wk:WE}{U H Q}(h:lE K (wSK g wr wk) U H Q):uT (lCK K g) (lA K wr) (nt (lE K wk) dn) U H Q:=by
 obtain ⟨S,J6,Qt,s,c,q,hq⟩:=h
 refine ⟨S,J6,_,s,c,q,λvs H1 ts S1 f1 s1 r1 q1=>?_⟩
 refine ⟨S1,J6,_,s1,c.fr f1,q1,λy H2 ty S2 f2 s2 r2 q2=>?_⟩
 exact ⟨S2,ts,[ty],Qt,s2,r1.fr f2,.cons r2 .nil,q2,λv H' t S' f=>hq v H' t S' ((f1.trans f2).trans f)⟩
theorem qQ {X:Cx}{K:Fg}(tr:Bool){k:Nat}{f:Addr}{fd:FuncData}{fx pn:Str}{Ka:WSp}{p pos kp OY:Pos}{e:Expr}{wr:WA}(hK:X.K=K) (F:FnOk X.prog X.w X.K X.mg X.base CX0 k f fd [pn] (lSp K Ka)) (D:Df X.K X.mg fx f fd [pn]) (hr:Room (k+2) X.A)
  (hg:Gl X "sorted") (hm:X.mg "sorted"=none) (hgf:Gl X fx) (ha:QA K X [e] wr) (KC:(fx==("__debug__":Str))=false:=by decide)
  (hks:(backToKw pos (keywordEach [⟨some (Str.ofString "key"),.Name fx kp,OY⟩] X.env)).filterMap (·.1)=[Str.ofString "key"]:=by rfl)
  (he:backTo pos (starEach [e] X.env)=(false,eval e X.env)::backTo pos (starEach [] X.env):=by rfl)
  (LD:(backTo pos (starEach [e] X.env)).any (·.1)=false:=by rfl)
  (Pl:(backToKw pos (keywordEach [⟨some (Str.ofString "key"),.Name fx kp,OY⟩] X.env)).all (·.1.isSome)=true:=by rfl)
  (QY:(backToKw pos (keywordEach [⟨some (Str.ofString "key"),.Name fx kp,OY⟩] X.env)).any (·.1.isNone)=false:=by rfl) :
  QE K X (.Call (.Name "sorted" p) [e] [⟨some (Str.ofString "key"),.Name fx kp,OY⟩] pos) (wSK (mT tr f Ka) wr (wC (.ref f))):=by
 have hk:QE K X (.Name fx kp) (wC (.ref f)):=mO (qt (v:=.ref f) hgf D.hm rfl KC) λ_ _=>.ref
 exact PE.of (yn (BV tr hK F D hr) hg hm PyProof.Rows.boot_sorted ha (Bb hk DN) hks (by decide) (by decide) he LD Pl QY) λ_ _ _ h=>EN h
theorem JL {U:StT}{S:Sto}{Q:T->Sto->Prop}{g:List T->List T->Sto->(T->Sto->Prop)->Prop}{wr:WA}{wk:WE}(h:wr U S λts S1=>wk U S1 λy S2=>g ts [y] S2 Q):wSK g wr wk U S Q:=h
theorem qR {α:Type}{S:Sto}{Q:T->Sto->Prop}{tr:Bool}{f:Addr}{Ka:WSp}{ft:α->T}{ls:List α}{x:T}(Qd:T->Ky) (k0:Ky) (e:aS S x=some (ls.map ft)) (Mi:ls.length<64) (hf:fit k0=true) (hd:k0.dep<=30)
  (hk:∀ a∈ls,Ky.ok (Qd (ft a))=true/\Ky.shp k0 (Qd (ft a))=true/\∀ S' Q',Q' (tre (Qd (ft a))) S'->Ka [ft a] S' Q')
  (h:∀ l':List α,l'.Perm ls->l'.Pairwise (λa b=>Ky.lt (Qd (ft b)) (Qd (ft a))=false)->bi tr (l'.map ft) S Q):mT tr f Ka [x] [.ref f] S Q:=by
 refine ⟨x,ls.map ft,Qd,k0,rfl,rfl,e,by rw [List.length_map];exact Mi,hf,hd,λt ht=>?_,λzs hp hs=>?_⟩
 ·obtain ⟨a,ha,rfl⟩:=List.mem_map.mp ht
  exact hk a ha
 ·obtain ⟨l',p,rfl⟩:=fX ft hp rfl
  rw [List.pairwise_map] at hs
  exact h l' p hs
end T2
namespace Tm
open PySem PySem.Spec PyProof.Rows
abbrev tl (x:Str):List Nat:=x.cps.toList
theorem ext {x y:Str}(h:tl x=tl y):x=y:=by cases x;cases y;simp only [tl] at h;rw [Array.toList_inj.mp h]
theorem len (x:Str):(tl x).length=x.length:=by simp [tl,Str.length]
theorem bE (x y:Str):tl (x++y)=tl x++tl y:=by show (x.cps++y.cps).toList=_;simp [tl]
theorem HM (l:List Nat):tl ⟨l.toArray⟩=l:=by simp [tl]
noncomputable def aW (g:List Nat):List (List Nat)->List Nat
 |[]=>[]
 |[p]=>p
 |p::q::r=>p++g++aW g (q::r)
theorem lD (g:Str):∀ ps:List Str,tl (Str.join g ps)=aW (tl g) (ps.map tl)
 |[]=>rfl
 |[p]=>rfl
 |p::q::r=>by
  have ih:=lD g (q::r)
  show tl ((p++g++Str.join g (q::r)):Str)=tl p++tl g++aW (tl g) ((q::r).map tl)
  rw [<- ih,bE,bE]
theorem iH (g:Str) (ps:List Str):tl (Txt.join g ps)=aW (tl g) (ps.map tl):=by
 rw [show Txt.join g ps=Str.join g ps from StrLaws.glued_eq_join g ps,lD]
theorem gS:tl (" ":Str)=[32]:=by decide +kernel
theorem empty:tl ("":Str)=[]:=by decide +kernel
theorem pc (x:Str):aW [32] ((Txt.split x " ").map tl)=tl x:=by
 have:=lD " " (Txt.split x " ")
 rw [StrLaws.join_split,gS] at this
 exact this.symm
theorem split_free (x:Str):∀ p∈(Txt.split x " ").map tl,32∉p:=λp hp=>by
 obtain ⟨q,hq,rfl⟩:=List.mem_map.mp hp
 exact StrLaws.split_free x 32 q hq
theorem zW (x:Str):(Txt.split x " ")≠[]:=λh=>by
 have:=split_pos x " "
 rw [h] at this;simp at this
theorem sj (n d:Nat) (h:d<=n) (o:Option Int):HT.sIx n d o<=n:=by
 cases o with
 |none=>exact h
 |some v=>simp only [HT.sIx];split<;>omega
theorem zX (lo hi:Option Int) (n:Nat):Builtin.Str.strSliceIndices lo hi 1 n=(List.range (HT.sIx n n hi - HT.sIx n 0 lo)).map λk=>HT.sIx n 0 lo+k:=by
 have c:∀ i:Int,max 0 (min (if i<0 then i+(n:Int) else i) (n:Int))=(((if i<0 then (i+(n:Int)).toNat else min i.toNat n):Nat):Int):=λi=>by split<;>omega
 have L5:Builtin.Str.strSliceIndices lo hi 1 n=sliceRange ((HT.sIx n 0 lo:Nat):Int) ((HT.sIx n n hi:Nat):Int) 1:=by
  unfold Builtin.Str.strSliceIndices
  cases lo with
  |none =>
   cases hi with
   |none=>rfl
   |some j=>simp only [show (1:Int)>0 by decide,if_true,c,HT.sIx];rfl
  |some i =>
   cases hi with
   |none=>simp only [show (1:Int)>0 by decide,if_true,c,HT.sIx]
   |some j=>simp only [show (1:Int)>0 by decide,if_true,c,HT.sIx]
 rw [L5]
 unfold sliceRange
 simp only [show (1:Int)>0 by decide,if_true,Int.one_mul]
 have hc:(if ((HT.sIx n 0 lo:Nat):Int)<((HT.sIx n n hi:Nat):Int) then (((HT.sIx n n hi:Nat):Int) - ((HT.sIx n 0 lo:Nat):Int)+1 - 1) / 1 else 0).toNat=HT.sIx n n hi - HT.sIx n 0 lo:=by
  split
  ·rw [Int.ediv_one];omega
  ·simp;omega
 rw [hc]
 apply List.map_congr_left
 intro k _
 omega
theorem lF (x:Str) (lo hi:Option Int):tl (Txt.slice x lo hi)=((tl x).drop (HT.sIx x.length 0 lo)).take (HT.sIx x.length x.length hi - HT.sIx x.length 0 lo):=by
 have hA:=sj x.length 0 (Nat.zero_le _) lo
 have hB:=sj x.length x.length (Nat.le_refl _) hi
 have hl:=len x
 unfold Txt.slice
 rw [zX]
 split
 ·next h =>
  simp only [beq_self_eq_true,Bool.true_and,List.length_map,List.length_range,beq_iff_eq] at h
  have h0:HT.sIx x.length 0 lo=0\/x.length=0:=by omega
  rcases h0 with h0|h0
  ·rw [h0,List.drop_zero,List.take_of_length_le (by omega)]
  ·have:tl x=[]:=List.length_eq_zero_iff.mp (by omega)
   rw [this];simp
 ·rw [HM]
  have:=StrLaws.picks (tl x) (HT.sIx x.length x.length hi - HT.sIx x.length 0 lo) (HT.sIx x.length 0 lo)
  by_cases hle:HT.sIx x.length 0 lo<=HT.sIx x.length x.length hi
  ·rw [<- this (by rw [hl];omega)]
   simp [tl]
  ·rw [show HT.sIx x.length x.length hi - HT.sIx x.length 0 lo=0 by omega];simp
theorem eM (x:Str) (k:Nat):tl (Txt.slice x none (some k))=(tl x).take k:=by
 rw [lF,HT.sIx_none,HT.sIx_nat,List.drop_zero,Nat.sub_zero,<- len x,<- List.take_take,List.take_of_length_le (Nat.le_refl _)]
theorem pe (x:Str) (k:Nat):tl (Txt.slice x (some k) none)=(tl x).drop k:=by
 rw [lF,HT.sIx_none,HT.sIx_nat,<- len x,List.take_of_length_le (by simp [List.length_drop])]
 by_cases h:k<=(tl x).length
 ·rw [Nat.min_eq_left h]
 ·rw [Nat.min_eq_right (by omega),List.drop_eq_nil_of_le (Nat.le_refl _),List.drop_eq_nil_of_le (by omega)]
theorem sk (x y:Str):Txt.startswith x y=decide ((tl x).take (tl y).length=tl y):=by
 unfold Txt.startswith
 rw [StrLaws.subAt_eq,List.drop_zero,Nat.zero_add,len]
 by_cases h:y.length<=x.length
 ·simp only [h,decide_true,Bool.true_and]
  rw [Bool.eq_iff_iff];simp
 ·simp only [h,decide_false,Bool.false_and]
  symm
  rw [decide_eq_false_iff_not]
  intro e
  have:=congrArg List.length e
  rw [List.length_take,len,len] at this
  omega
theorem EO {g:Str}{ps:List Str}{b:Nat}(h:∀ p∈ps,p.length<=b) (h2:ps.length * (b+g.length)<=10000):JoinOk g ps=true:=by
 have main:∀ (ps:List Str) (J9:Nat),(∀ p∈ps,p.length<=b)->ps.foldl (λa p=>a+p.length+g.length) J9<=J9+ps.length * (b+g.length):=by
  intro ps
  induction ps with
  |nil=>intro J9 _;simp
  |cons p r ih =>
   intro J9 h
   have:=ih (J9+p.length+g.length) λq hq=>h q (List.mem_cons_of_mem _ hq)
   have hp:=h p List.mem_cons_self
   simp only [List.foldl_cons,List.length_cons,Nat.add_mul,Nat.one_mul] at this ⊢
   omega
 have:=main ps 0 h
 unfold JoinOk Builtin.Str.tooLong
 rw [List.foldl_toArray]
 have hs:sizeLine=16777216:=sizeLine_eq
 simp only [Bool.not_eq_true',decide_eq_false_iff_not]
 omega
theorem qd (zs:List Str):T2.d6 (zs.map T2.T.str)=some zs:=by
 induction zs with
 |nil=>rfl
 |cons a l ih=>simp [T2.qJ,ih]
theorem BW (d:Nat):Str.length ⟨#[d]⟩=1:=rfl
theorem pM:Str.length (Str.ofString " ")=1:=by decide +kernel
theorem k7:Str.length (Str.ofString "")=0:=by decide +kernel
theorem BX (g:Str){b:Nat}:∀ zs:List Str,(∀ y∈zs,y.length<=b)->(Txt.join g zs).length<=zs.length * (b+g.length):=by
 intro zs h
 rw [<- len,iH,<- len g]
 induction zs with
 |nil=>simp [aW]
 |cons y r ih =>
  have hy:=h y List.mem_cons_self
  rw [<- len] at hy
  have h3:=ih λq hq=>h q (List.mem_cons_of_mem _ hq)
  cases r with
  |nil=>simp only [List.map_cons,List.map_nil,aW,List.length_cons,List.length_nil];omega
  |cons y2 r2 =>
   simp only [List.map_cons,aW,List.length_append,List.length_cons,Nat.add_mul,Nat.one_mul] at h3 ⊢
   omega
theorem pN (g:List Nat):∀ (ps:List (List Nat)) (p:List Nat),p∈ps->p.length<=(aW g ps).length
 |[],_,h=>by cases h
 |[q],p,h=>by rw [List.mem_singleton.mp h];simp [aW]
 |q::q2::r,p,h=>by
  simp only [aW,List.length_append]
  rcases List.mem_cons.mp h with rfl|h
  ·omega
  ·have:=pN g (q2::r) p h
   omega
theorem yC {a x:Str}(h:x∈Txt.split a " "):x.length<=a.length:=by
 have:=pN [32] _ _ (List.mem_map_of_mem (f:=tl) h)
 rw [pc,len,len] at this
 exact this
theorem wL (x y:Str):Txt.startswith x y=decide (Txt.slice x none (some (y.length:Int))=y):=by
 rw [sk,len,Bool.eq_iff_iff]
 simp only [decide_eq_true_eq]
 constructor
 ·intro h;exact ext (by rw [eM];exact h)
 ·intro h;rw [<- eM,h]
end Tm
namespace T2
open PySem PySem.Spec PyProof.Rows L2
section
variable {K:Fg}{X:Cx}{k:Nat}{f:Addr}{fd:FuncData}{ps:List Str}{Ka:WSp}{x m:Str}{p pos apos cpos:Pos}{e o:Expr}{es:List Expr}{wa wb:WE}{wr:WA}{id ty:String}{g:GC}{gm:GM}{i:Nat}
theorem aa (i:Nat) (hN:X.N[i]?=some x:=by rfl) (hv:Vis X.env.scope x:=by first|exact Or.inl rfl|exact Or.inr (Or.inl rfl)|exact Or.inr (Or.inr rfl)) (hd:(x==("__debug__":Str))=false:=by decide)
  (Oh:(x==("__classdict__":Str))=false:=by decide):QE K X (.Name x pos) (wV i):=GZ (Dj hN hv hd Oh)
theorem vm {n:String}(hg:Gl X x) (hm:X.mg x=none) (hv:bootBuiltins x=some (.type n)) (hn:x ≠ "__name__":=by decide) (hd:(x==("__debug__":Str))=false:=by decide):QE K X (.Name x pos) (wC (.ty n)) :=
 mO (AV (v:=.ty n) hg hm hv rfl hn hd) λ_ _=>.ty
theorem db {n:Int}(hg:Gl X x) (hm:∃ tk,X.mg x=some (.int n tk)) (hd:(x==("__debug__":Str))=false:=by decide):QE K X (.Name x pos) (wC (.int n)):=by
 obtain ⟨tk,hm⟩:=hm
 exact mO (qt (v:=.int n) hg hm ⟨tk,rfl⟩ hd) λ_ _=>.int
theorem EQ (F:FnOk X.prog X.w X.K X.mg X.base CX0 k f fd ps (lSp K Ka)) (D:Df X.K X.mg x f fd ps) (hr:Room k X.A) (hg:Gl X x) (ha:QA K X (e::es) wr)
  (KC:(x==("__debug__":Str))=false:=by decide) (he:starEach (e::es) X.env=(false,eval e X.env)::starEach es X.env:=by rfl) (KL:(backTo pos (starEach es X.env)).any (·.1)=false:=by rfl) :
  QE K X (.Call (.Name x p) (e::es) [] pos) (gQ Ka [] wr):=D' (dvs:=[]) (λ_ _=>.nil) (A9 F hr hg D.hm D.kp D.b .nil fh ha KC he KL)
theorem JM (hc:bu X (.builtin id) (lC K g)) (hg:Gl X x) (hm:X.mg x=none) (hv:bootBuiltins x=some (.builtin id)) (ha:QA K X (e::es) wr) (hn:x ≠ "__name__":=by decide) (KC:(x==("__debug__":Str))=false:=by decide)
  (he:starEach (e::es) X.env=(false,eval e X.env)::starEach es X.env:=by rfl) (KL:(backTo pos (starEach es X.env)).any (·.1)=false:=by rfl):QE K X (.Call (.Name x p) (e::es) [] pos) (wCB g wr):=vh (zr hc hg hm hv ha hn KC he KL)
theorem je (hc:bu X (.type id) (lC K g)) (hg:Gl X x) (hm:X.mg x=none) (hv:bootBuiltins x=some (.type id)) (ha:QA K X (e::es) wr) (hn:x ≠ "__name__":=by decide) (KC:(x==("__debug__":Str))=false:=by decide)
  (he:starEach (e::es) X.env=(false,eval e X.env)::starEach es X.env:=by rfl) (KL:(backTo pos (starEach es X.env)).any (·.1)=false:=by rfl):QE K X (.Call (.Name x p) (e::es) [] pos) (wCB g wr):=vh (yg hc hg hm hv ha hn KC he KL)
theorem JN (hK:X.K=K) (pa:PlainAttrs ty) (slot:Slot ty m id) (O8:typeOf (.builtin id)=pure (.type "method_descriptor")) (hm:MtR X id (lM K gm)) (ho:QE K X o wa) (ha:QA K X (e::es) wr)
  (h:∀ {to t r},PE X o to->MtR X id r->PA X (e::es) t->PE X (.Call (.Attribute o m apos) (e::es) [] cpos) (tBM X.K ty r to t)):QE K X (.Call (.Attribute o m apos) (e::es) [] cpos) (wBM ty gm wa wr):=by
 subst hK
 exact Jt (h ho hm ha)
theorem BY {y:Str}{i:Nat}(hN:X.N.Nodup) (hi:X.N[i]?=some y) (hx:Loc X.env.scope y) (hf:X.fn y=true\/X.env.scope.names.lookup y=some .local:=by first|exact .inl rfl|exact .inr rfl|assumption):QG K X (.Name y pos) (wgN i):=Bx (A0 hN hi hx hf)
theorem ER {i:Expr}{wo wi:WE}{g:GS}(ho:QE K X o wo) (hi:QE K X i wi) (hs:dm X (fJ K g))
  (h:∀ {to ti t},PE X o to->PE X i ti->dm X t->PG X (.Subscript o i pos) (L2.d7 to ti t)):QG K X (.Subscript o i pos) (wgS wo wi g):=En (h ho hi hs)
end
end T2
namespace T2
open PySem PySem.Spec PyProof.Rows L2 S6
theorem oP (a:Value):argsOk "sorted" ⟨[a],[]⟩:=by unfold argsOk;kernel_rfl
theorem oA (a:Value):argsOk "list.sort" ⟨[a],[]⟩:=by unfold argsOk;kernel_rfl
theorem oF (a:Addr):Builtin.«list.sort» ⟨[.ref a],[]⟩=g9 a λitems before _=>og items items (jx a before):=by rfl
def t6 (tr:Bool):List T->Sto->(T->Sto->Prop)->Prop:=λts S Q=>∃ x xs κ k0,ts=[x]/\aS S x=some xs/\xs.length<64/\fit k0=true/\k0.dep<=30 /\
 (∀ t∈xs,Ky.ok (κ t)=true/\Ky.shp k0 (κ t)=true/\tre (κ t)=t)/\hJ tr xs κ S Q
theorem ES {X:Cx}{K:Fg}(tr:Bool) (hK:X.K=K) (hr:Room 2 X.A) :
  bu X (.builtin "sorted") (lC K (t6 tr)):=by
 rintro pins s U H xs us Q I rv ⟨S,ts,Qt,sr,r1,⟨x,ls,κ,k0,e1,ev,Mi,hf,hd,hk,hq⟩,b⟩
 subst e1
 cases r1 with
 |cons rx Pp =>
 cases Pp
 obtain ⟨u,rfl,ru⟩:=bW rv
 refine pL hK I sr rx ru ev oP oA oF λL ep Hc s5 vs its rs Oi hz J eL ek nL nk fc sc=>?_
 have rs5:=rs.fr fc
 refine qP hK Mi hf (by have:=hr.in1.in1.units;omega) J (λt ht=>⟨(hk t ht).1,(hk t ht).2.1⟩) rs5 Oi (by rw [List.map_congr_left λt ht=>(hk t ht).2.2,List.map_id'];exact rs5) Oi λst zs MG NL MH p1 p2 Ko rz vz lz=>?_
 exact qb J eL MH Ko vz (lz ▸ hz) λs' I8=>⟨.ref L,_,I8,rfl,qc b nL fc sc eL (sr.fresh nL) rz (hq _ p1 p2)⟩
theorem ET {α:Type}{S:Sto}{Q:T->Sto->Prop}{tr:Bool}{ls:List α}{x:T}(κ:α->Ky) (Qd:T->Ky) (k0:Ky) (e:aS S x=some (ls.map λa=>tre (κ a))) (hT:∀ a∈ls,Qd (tre (κ a))=κ a) (Mi:ls.length<64) (hf:fit k0=true) (hd:k0.dep<=30)
  (hk:∀ a∈ls,Ky.ok (κ a)=true/\Ky.shp k0 (κ a)=true)
  (h:∀ l':List α,l'.Perm ls->l'.Pairwise (λa b=>Ky.lt (κ b) (κ a)=false)->bi tr (l'.map λa=>tre (κ a)) S Q):t6 tr [x] S Q:=by
 refine ⟨x,ls.map λa=>tre (κ a),Qd,k0,rfl,e,by rw [List.length_map];exact Mi,hf,hd,λt ht=>?_,λzs hp hs=>?_⟩
 ·obtain ⟨a,ha,rfl⟩:=List.mem_map.mp ht
  have:=hk a ha
  rw [hT a ha]
  exact ⟨this.1,this.2,rfl⟩
 ·obtain ⟨l',p,rfl⟩:=fX (λa=>tre (κ a)) hp rfl
  rw [List.pairwise_map] at hs
  refine h l' p (hs.imp_of_mem fun {a b} ha hb q=>?_)
  rw [hT a (p.mem_iff.mp ha),hT b (p.mem_iff.mp hb)] at q
  exact q
end T2
namespace T2
open PySem PySem.Spec PyProof.Rows L2
section
variable {κ:Type}[DecidableEq κ]
noncomputable def br (kts:List (κ×T)) (k:κ):Option T:=(kts.find? λkv=>decide (kv.1=k)).map (·.2)
noncomputable def fj (kts:List (κ×T)) (k:κ) (t:T):List (κ×T) :=
 if (kts.any λkv=>decide (kv.1=k))=true then kts.map (λkv=>if kv.1=k then (kv.1,t) else kv) else kts++[(k,t)]
abbrev PrT (K:Fg) (H:Hp) (S:Sto):List (κ×T)->List (κ×V)->Prop:=Paired λ(p:κ×T) (q:κ×V)=>p.1=q.1/\Rp K H S p.2 q.2
variable {K:Fg}{H:Hp}{S:Sto}
theorem zY {k:κ}{t:T}:∀ {kts:List (κ×T)}{kvs:List (κ×V)},PrT K H S kts kvs->br kts k=some t->∃ v,bw kvs k=some v/\Rp K H S t v:=by
 intro kts kvs pr
 induction pr with
 |nil=>intro e;cases e
 |@cons p q2 l l' er ps ih =>
  intro h
  obtain ⟨a,b⟩:=p;obtain ⟨c,d⟩:=q2;obtain ⟨e,r⟩:=er
  simp only at e;subst e
  unfold br bw at *
  rw [List.find?_cons] at h ⊢
  by_cases z:a=k
  ·simp only [z,decide_true,Option.map_some,Option.some.injEq] at h ⊢
   subst h;exact ⟨d,rfl,r⟩
  ·simp only [z,decide_false] at h ⊢
   exact ih h
theorem lH {k:κ}:∀ {kts:List (κ×T)}{kvs:List (κ×V)},PrT K H S kts kvs->(bw kvs k).isSome=(br kts k).isSome:=by
 intro kts kvs pr
 induction pr with
 |nil=>exact rfl
 |@cons p q2 l l' er ps ih =>
  obtain ⟨a,b⟩:=p;obtain ⟨c,d⟩:=q2;obtain ⟨e,r⟩:=er
  simp only at e;subst e
  unfold br bw
  rw [List.find?_cons,List.find?_cons]
  by_cases z:a=k
  ·simp [z]
  ·simp only [z,decide_false]
   exact ih
theorem EU {k:κ}:∀ {kts:List (κ×T)}{kvs:List (κ×V)},PrT K H S kts kvs->(kvs.any λkv=>decide (kv.1=k))=kts.any λkv=>decide (kv.1=k):=by
 intro kts kvs pr
 induction pr with
 |nil=>exact rfl
 |@cons p q2 l l' er ps ih =>
  obtain ⟨a,b⟩:=p;obtain ⟨c,d⟩:=q2;obtain ⟨e,r⟩:=er
  simp only at e;subst e
  rw [List.any_cons,List.any_cons,ih]
theorem Paired.app {α β:Type}{F:α->β->Prop}:∀ {a:List α}{b:List β}{c:List α}{d:List β},Paired F a b->Paired F c d->Paired F (a++c) (b++d)
 |_,_,_,_,.nil,r=>r
 |_,_,_,_,.cons h t,r=>.cons h (Paired.app t r)
theorem BZ {k:κ}{t:T}{v:V}(r:Rp K H S t v):∀ {kts:List (κ×T)}{kvs:List (κ×V)},PrT K H S kts kvs->PrT K H S (kts.map λkv=>if kv.1=k then (kv.1,t) else kv) (kvs.map λkv=>if kv.1=k then (kv.1,v) else kv):=by
 intro kts kvs pr
 induction pr with
 |nil=>exact .nil
 |@cons p q2 l l' er ps ih =>
  obtain ⟨a,b⟩:=p;obtain ⟨c,d⟩:=q2;obtain ⟨e,q⟩:=er
  simp only at e;subst e
  refine .cons ?_ (ih)
  dsimp only
  by_cases z:a=k
  ·rw [if_pos z,if_pos z];exact ⟨rfl,r⟩
  ·rw [if_neg z,if_neg z];exact ⟨rfl,q⟩
theorem EV {k:κ}{t:T}{v:V}(r:Rp K H S t v){kts:List (κ×T)}{kvs:List (κ×V)}(p:PrT K H S kts kvs):PrT K H S (fj kts k t) (cu kvs k v):=by
 unfold fj cu
 rw [EU p]
 split
 ·exact BZ r p
 ·exact Paired.app p (.cons ⟨rfl,r⟩ .nil)
end
noncomputable def c3:Key->T
 |.inl i=>.int i
 |.inr x=>.str x
section
variable {K:Fg}{X:Cx}{H:Hp}{S:Sto}
theorem jf {t:T}{v:V}{k:Key}(r:Rp K H S t v) (e:dH t=some k):v=kV k:=by
 cases r<;>simp only [dH,Option.some.injEq,reduceCtorEq] at e<;>subst e<;>rfl
theorem qS (k:Key):Rp K H S (c3 k) (kV k):=by cases k<;>constructor
def RdT (w:World) (S:Sto) (a:Addr) (kts:List (Key×T)):Prop:=S a=some (.dK kts)\/∃ od kvs,S a=some (.fK w od kvs kts)
theorem nK {w:World}{a:Addr}{kts:List (Key×T)}(s:SRp K H S) (g:RdT w S a kts):∃ kvs,RdK w H a kvs/\PrT K H S kts kvs:=by
 rcases g with e|⟨od,kvs,e⟩
 ·cases s a _ e with
  |dK h p=>exact ⟨_,.inl h,p⟩
 ·cases s a _ e with
  |fK h p=>exact ⟨_,.inr ⟨_,h⟩,p⟩
theorem t7 {a:Addr}{kts:List (Key×T)}(s:SRp K H S) (e:S a=some (.dK kts)):∃ kvs,H a=some (.dK kvs)/\PrT K H S kts kvs:=by
 cases s a _ e with
 |dK h p=>exact ⟨_,h,p⟩
def hU (w:World) (neg:Bool):G2:=λx y S Q=>∃ a kts k,y=.ref a/\RdT w S a kts/\dH x=some k/\Q (.bl (neg ^^ (br kts k).isSome)) S
theorem HN:OpR X (compareOp .In) (l2 K (hU X.w false)):=by
 rintro pins s U H x y v u Q I rx ry ⟨S,tx,ty,Qt,sr,hx,hy,⟨a,kts,k,e,g,ek,q⟩,b⟩
 subst e
 cases hy
 cases (show u=Value.ref a from ry)
 obtain ⟨kvs,hg,p⟩:=nK sr g
 have:=jf hx ek
 subst this
 refine Jp I hg rx λs' I'=>⟨.bl (bw kvs k).isSome,H,I',rfl,b _ H _ S .refl sr .bl ?_⟩
 rw [lH p];simpa using q
theorem zZ:OpR X (compareOp .NotIn) (l2 K (hU X.w true)):=by
 rintro pins s U H x y v u Q I rx ry ⟨S,tx,ty,Qt,sr,hx,hy,⟨a,kts,k,e,g,ek,q⟩,b⟩
 subst e
 cases hy
 cases (show u=Value.ref a from ry)
 obtain ⟨kvs,hg,p⟩:=nK sr g
 have:=jf hx ek
 subst this
 refine Bw I hg rx λs' I'=>⟨.bl (!(bw kvs k).isSome),H,I',rfl,b _ H _ S .refl sr .bl ?_⟩
 rw [lH p];simpa using q
def t8:GS:=λo i v S Q=>∃ a kts k,o=.ref a/\S a=some (.dK kts)/\dH i=some k/\kts.length<sizeLine/\Q (put S a (.dK (fj kts k v)))
theorem EW (hu:X.A.units+1<cLine):dm X (fJ K t8):=by
 rintro pins s U H o i v ov iv u Q I ro ri rv ⟨S,to,ti,tv,Qt,sr,hO,hI,hV,⟨a,kts,k,e,ea,ek,hl,q⟩,b⟩
 subst e
 cases hO
 cases (show ov=Value.ref a from ro)
 obtain ⟨kvs,hk,p⟩:=t7 sr ea
 have:=jf hI ek
 subst this
 have hn:S a≠none:=by rw [ea];simp
 refine yr hu I (jp.k hk (by rw [Paired.len p];exact hl)) ri rv λs' I'=>⟨_,I',?_⟩
 exact b _ _ (Fr.write hn) (sr.write hn (.dK aF (Paired.mapP (EV hV p) λ_ _ z=>⟨z.1,z.2.fr (Fr.write hn)⟩))) q
def t9:WE:=λ_ S Q=>∀ p,S p=none->Q (.ref p) (put S p (.dK []))
theorem sm {pos:Pos}:QE K X (.Dict [] [] pos) t9:=PE.of zD λU H Q ⟨S,J6,Qt,s,c,q,hq⟩=>λp hp =>
 hq _ _ (.ref p) _ (Fr.newT hp) (s.newT hp (.dK aF .nil)) .ref (q p (s.fresh hp))
theorem B0:∀ {kts:List (Key×T)}{kvs:List (Key×V)},PrT K H S kts kvs->Rps K H S (kts.map λkv=>c3 kv.1) (kvs.map λkv=>kV kv.1):=by
 intro kts kvs pr
 induction pr with
 |nil=>exact .nil
 |@cons p q2 l l' er ps ih =>
  obtain ⟨a,b⟩:=p;obtain ⟨c,d⟩:=q2;obtain ⟨e,r⟩:=er
  simp only at e;subst e
  exact .cons (qS a) (ih)
noncomputable def jg (kv:Key×T):T:=.tup [c3 kv.1,kv.2]
def wiP (w:World) (wa:WE):WI:=λU S R=>wa U S λx S1=>∃ d kts,x=.ref d/\S1 d=some (.dK kts)/\∀ od kvs,R ⟨kts.map jg,λS'=>S' d=some (.fK w od kvs kts)⟩ (put S1 d (.fK w od kvs kts))
theorem B1 {w:World}{d:Addr}{od:Obj}{kts:List (Key×T)}{kvs:List (Key×V)}(s:SRp K H S) (e:S d=some (.dK kts)) (p:PrT K H S kts kvs) :
  Fr H S (upd H d (fzH w d od kvs)) (put S d (.fK w od kvs kts))/\SRp K (upd H d (fzH w d od kvs)) (put S d (.fK w od kvs kts)):=by
 have hn:S d≠none:=by rw [e];simp
 exact ⟨Fr.write hn,s.write hn (.fK aF (Paired.mapP p λ_ _ z=>⟨z.1,z.2.fr (Fr.write hn)⟩))⟩
theorem z3 {o:Expr}{wa:WE}{L4:List Expr}{x1:Nat}{Lf apos cpos:Pos}(ho:QE K X o wa) (hK:X.K=K)
  (KZ:attributeBase o "items" X.env (eval o X.env)=eval o X.env:=by rfl) (LP:(apos.endLine==cpos.line)=true:=by rfl):QI K X (.Tuple L4 x1 Lf) (.Call (.Attribute o "items" apos) [] [] cpos) (wiP X.w wa):=by
 subst hK
 refine PI.of (zI (DQ PySem.F.plainAttrs_dict PySem.F.slot_dict_items PySem.F.type_dict_items zH ho KZ LP)) λU H R zz98=>?_
 obtain ⟨S,J6,Rt,s,c,q,hq⟩:=zz98
 refine ⟨S,J6,_,s,c,q,λx H1 tx S1 f1 s1 r1 q1=>?_⟩
 obtain ⟨d,kts,rfl,ed,q1⟩:=q1
 cases r1
 obtain ⟨kvs,hk,p⟩:=t7 s1 ed
 refine ⟨.inr (.inr (.inl ⟨rfl,.inl ⟨_,hk⟩⟩)),d,kvs,rfl,rfl,hk,λv hv=>?_⟩
 have nd:d≠v:=bt hk hv
 refine ⟨v,d,kvs,rfl,aF,by rw [ao nd];exact hk,λod=>?_⟩
 have fv:Fr H1 S1 (upd H1 v (gO v d)) S1:=Fr.new hv
 obtain ⟨f2,s2⟩:=B1 (w:=X.w) (od:=od) (s1.new (u:=gO v d) hv) ed (Paired.mapP p λ_ _ z=>⟨z.1,z.2.fr fv⟩)
 refine hq _ _ _ _ ((f1.trans fv).trans f2) s2 ⟨?_,?_,?_⟩ (q1 od kvs)
 ·intro H' S' i f' s' g hi
  cases s' d _ g with
  |fK h p' =>
   dsimp only at hi
   rw [List.length_map] at hi
   exact ⟨h,by rw [Paired.len p'];exact hi⟩
 ·rintro H' S' i x H'' f' s' g hi ⟨pp,kv,ek,hp,ex,eH⟩
  subst eH ex
  cases s' d _ g with
  |fK h p' =>
   obtain ⟨kt,e1,e2⟩:=jq p' ek
   refine ⟨jg kt,by rw [List.getElem?_map,e1];rfl,Fr.new hp,s'.new hp,?_⟩
   refine .tup (s'.fresh hp) aF (.cons ?_ (.cons (e2.2.fr (Fr.new hp)) .nil))
   rw [e2.1];exact qS _
 ·intro H' S' f' s' g
  cases s' d _ g with
  |fK h p'=>exact ⟨h,by rw [Paired.len p',List.length_map];exact Nat.le_refl _⟩
def oj (w:World) (we:WE):WE:=λU S Q=>we U S λt S'=>∃ d od kvs kts,S' d=some (.fK w od kvs kts)/\Q t (put S' d (.dK kts))
theorem B2 {w:World}{d:Addr}{od:Obj}{kts:List (Key×T)}{kvs:List (Key×V)}(s:SRp K H S) (e:S d=some (.fK w od kvs kts)) :
  H d=some (fzH w d od kvs)/\Fr H S (upd H d (.dK kvs)) (put S d (.dK kts))/\SRp K (upd H d (.dK kvs)) (put S d (.dK kts)):=by
 have hn:S d≠none:=by rw [e];simp
 cases s d _ e with
 |fK h p=>exact ⟨h,Fr.write hn,s.write hn (.dK aF (Paired.mapP p λ_ _ z=>⟨z.1,z.2.fr (Fr.write hn)⟩))⟩
theorem HP {e:Expr}{we:WE}(h:QE K X e we):QE K X e (oj X.w we):=PE.of (PE.unf h) λU H Q zz99=>by
 obtain ⟨S,J6,Qt,s,c,q,hq⟩:=zz99
 refine ⟨S,J6,_,s,c,q,λv H1 t S1 f1 s1 r1 q1=>?_⟩
 obtain ⟨d,od,kvs,kts,e,q1⟩:=q1
 obtain ⟨h1,f2,s2⟩:=B2 s1 e
 exact ⟨d,od,kvs,h1,hq v _ t _ (f1.trans f2) s2 (r1.fr f2) q1⟩
end
section
variable {K:Fg}{X:Cx}{k:Nat}{f C:Addr}{fd:FuncData}{ps:List Str}{Ka:WSp}{x m fl:Str}{p pos apos cpos KA:Pos}{e o value:Expr}{es:List Expr}{wa wv:WE}{wr:WA}{G:Addr->Prop}
theorem gz (M:Mk X.K C f) (F:FnOk X.prog X.w X.K X.mg X.base CX0 k f fd ["self"] (lSp K Ka)) (hb:ap X.K fd ["self"] []) (hr:Room (k+1) X.A) (hg:Gl X x) (hm:X.mg x=some (.ref C)) (KC:(x==("__debug__":Str))=false:=by decide) :
  QE K X (.Call (.Name x p) [] [] pos) (gR C Ka [] dM):=BA (dvs:=[]) (λ_ _=>.nil) (zq M F hr hg hm hb .nil fh KC)
theorem bP {pl:Sem Bool}(hG:∀ C,G C->Cls X.K C/\Meth X.K C m f) (F:FnOk X.prog X.w X.K X.mg X.base CX0 k f fd ps (lSp K Ka)) (hb:ap X.K fd ps []) (hr:Room k X.A) (ho:QE K X o wa) (ha:QA K X (e::es) wr)
  (Nb:starEach (e::es) X.env=(false,eval e X.env)::starEach es X.env:=by rfl) (KL:(backTo pos (starEach es X.env)).any (·.1)=false:=by rfl)
  (ht:eval (.Call (.Attribute o m apos) (e::es) [] pos) X.env=(do
   let ov <- eval o X.env
   standAt apos.atName
   let (f,first) <- holding [ov] (getMethod ov m pl)
   callWith pos f first (backTo pos (starEach (e::es) X.env)) (backToKw pos (keywordEach [] X.env))):=by rfl) :
  QE K X (.Call (.Attribute o m apos) (e::es) [] pos) (d5 G m Ka [] wa wr):=Ea (dvs:=[]) (λ_ _=>.nil) (zK (pl:=pl) ho hG F hr hb .nil fh ha Nb KL ht)
theorem cy {pl:Sem Bool}(hG:∀ C,G C->Cls X.K C/\Meth X.K C m f) (F:FnOk X.prog X.w X.K X.mg X.base CX0 k f fd ps (lSp K Ka)) (hb:ap X.K fd ps []) (hr:Room k X.A) (ho:QE K X o wa)
  (ht:eval (.Call (.Attribute o m apos) [] [] pos) X.env=(do
   let ov <- eval o X.env
   standAt apos.atName
   let (f,first) <- holding [ov] (getMethod ov m pl)
   callWith pos f first (backTo pos (starEach [] X.env)) (backToKw pos (keywordEach [] X.env))):=by rfl) :
  QE K X (.Call (.Attribute o m apos) [] [] pos) (d5 G m Ka [] wa dM):=Bz (dvs:=[]) (λ_ _=>.nil) (yv (pl:=pl) ho hG F hr hb .nil fh ht)
theorem HQ (hK:X.K=K) (hG:∀ C,G C->Cls K C/\aC K C fl) (he:QE K X o wa) (hb:attributeBase o fl X.env (eval o X.env)=eval o X.env:=by rfl):QE K X (.Attribute o fl pos) (jr G wa fl):=G8 hK hG he hb
theorem fq (w:World) (hw:X.w=w):OpR X (compareOp .In) (l2 K (hU w false)):=by subst hw;exact HN
theorem ir (w:World) (hw:X.w=w):OpR X (compareOp .NotIn) (l2 K (hU w true)):=by subst hw;exact zZ
theorem B3 (w:World){L4:List Expr}{x1:Nat}{Lf:Pos}(hw:X.w=w) (hK:X.K=K) (ho:QE K X o wa)
  (KZ:attributeBase o "items" X.env (eval o X.env)=eval o X.env:=by rfl) (LP:(apos.endLine==cpos.line)=true:=by rfl):QI K X (.Tuple L4 x1 Lf) (.Call (.Attribute o "items" apos) [] [] cpos) (wiP w wa):=by subst hw;exact z3 ho hK KZ LP
theorem HR (w:World) (hw:X.w=w) (h:QE K X e wa):QE K X e (oj w wa):=by subst hw;exact HP h
structure FunD (K:Fg) (x qual:Str) (st:Stmt) (f:Addr) (fd:FuncData):Prop where
 ex:∃ (oc:Value) (od:Option Addr) (dV kV doc pm:Value) (an:Option Addr) (cdv ct:Value) (osl:Array (Option Value)),
  fd=PySem.W.fnOf x qual (cx st) (bO st) (aj st) dV kV doc pm an cdv ct/\K.lookup f=some ⟨oc,od,.func fd,osl⟩/\PySem.W.codeIn K cdv qual=true
theorem Fun.toD {x qual:Str}{st:Stmt}(F:Fun K x qual st f fd):FunD K x qual st f fd:=by
 obtain ⟨oc,od,kV,doc,pm,an,cdv,ct,osl,h⟩:=F.ex
 exact ⟨⟨oc,od,.none,kV,doc,pm,an,cdv,ct,osl,h⟩⟩
theorem B4 {P:Program}{w:World}{mg:Str->Option Value}{base:Heap}{x qual:Str}{st:Stmt}{N:List Str}(F:FunD K x qual st f fd) (Sc:FnScope N ps (aj st)) (len:∀ ts S Q,Ka ts S Q->ts.length=ps.length)
  (Lg:∀ (cdv:Value) (A:Around) (outer:List Env) (s:Shared) (H:Hp) (E:XK),Room k (A.deeper (envOfC qual (aj st) s.heap.objs.size f cdv)) ->
   ∃ u,QSs K (cK CX0 P w K mg base N qual (aj st) f cdv A outer s H E).nox (bO st) u/\∀ ts S Q,Ka ts S Q->u { nx:=λ_ S'=>Fin Q .non S',rt:=Fin Q } (b0 N ts) S):FnOk P w K mg base CX0 (k+1) f fd ps (lSp K Ka):=by
 obtain ⟨oc,od,dV,kV,doc,pm,an,cdv,ct,osl,rfl,lk,Oh⟩:=F.ex
 refine ny lk Oh Sc (λvs H Q E ⟨S,ts,Qt,s,r,q,_⟩=>by rw [r.length];exact len _ _ _ q) λA outer s H vs Q E hr ⟨S,ts,Qt,sr,r,q,b⟩=>?_
 obtain ⟨u,hu,hq⟩:=Lg cdv A outer s H E hr
 exact ⟨_,L2.PSs.nox hu,S,b0 N ts,_,sr,kZ r,hq ts S Qt q,⟨λ_ H' _ S' f s' _ q'=>Fin.ends b f s' .non q',λv H' t S' f s' r' q'=>Fin.ends b f s' r' q',λ_ _ _ _ _ _ _ q'=>q'.elim,λ_ _ _ _ _ _ _ q'=>q'.elim⟩⟩
end
section
variable {U:StT}{S:Sto}{D:EndsT}{Q:T->Sto->Prop}{R:Prop}{w:World}{a d C:Addr}{G:Addr->Prop}{fs:List (Str×T)}{m fl:Str}{t:T}{x y:T}{kts:List (Key×T)}{k:Key}{i:Int}
theorem EY {Ka:WSp}{wr:WA}(h:wr U S λts S1=>∀ x,S1 x=none->Ka (.ref x::(ts++[])) (put S1 x (.ins C [])) (λt S2=>t=.non/\Q (.ref x) S2)):gR C Ka [] wr U S Q:=h
theorem EZ {Ka:WSp}{LF:List T}{wa:WE}{wr:WA}(h:wa U S λx S1=>∃ a C fs,x=.ref a/\S1 a=some (.ins C fs)/\G C/\fs.lookup m=none/\wr U S1 λts S2=>Ka (x::(ts++LF)) S2 Q):d5 G m Ka LF wa wr U S Q:=h
theorem E1 (e:S a=some (.ins C fs)) (g:G C) (l:fs.lookup m=none) (h:R):∃ a' C' Mh,T.ref a=.ref a'/\S a'=some (.ins C' Mh)/\G C'/\Mh.lookup m=none/\R:=⟨a,C,fs,rfl,e,g,l,h⟩
theorem HS {wa:WE}(h:wa U S λx S1=>∃ a C fs v,x=.ref a/\S1 a=some (.ins C fs)/\G C/\fs.lookup fl=some v/\Q v S1):jr G wa fl U S Q:=h
theorem HU {P:T->Prop}(e:S a=some (.ins C fs)) (g:G C) (l:fs.lookup fl=some t) (h:P t):∃ a' C' Mh v,T.ref a=.ref a'/\S a'=some (.ins C' Mh)/\G C'/\Mh.lookup fl=some v/\P v:=⟨a,C,fs,t,rfl,e,g,l,h⟩
theorem E2 {wa wv:WE}(h:wv U S λy S1=>wa U S1 λx S2=>∃ a C fs,x=.ref a/\S2 a=some (.ins C fs)/\G C/\fs.length<1000/\D.nx U (put S2 a (.ins C (bR fl y fs)))):tM G wa wv fl D U S:=h
theorem dW {P:Addr->Addr->List (Str×T)->Prop}(e:S a=some (.ins C fs)) (g:G C) (l:fs.length<1000) (h:P a C fs):∃ a' C' Mh,T.ref a=.ref a'/\S a'=some (.ins C' Mh)/\G C'/\Mh.length<1000/\P a' C' Mh:=⟨a,C,fs,rfl,e,g,l,h⟩
theorem HV {we:WE}(h:we U S λt S'=>∃ d od kvs kts,S' d=some (.fK w od kvs kts)/\Q t (put S' d (.dK kts))):oj w we U S Q:=h
theorem E3 (h:∀ p,S p=none->Q (.ref p) (put S p (.dK []))):t9 U S Q:=h
theorem cU {n:Bool}(e:S a=some (.dK kts)) (ek:dH x=some k) (h:Q (.bl (n ^^ (br kts k).isSome)) S):hU w n x (.ref a) S Q:=⟨a,kts,k,rfl,.inl e,ek,h⟩
theorem E4 {v:T}{Q:Sto->Prop}(e:S a=some (.dK kts)) (ek:dH y=some k) (l:kts.length<sizeLine) (h:Q (put S a (.dK (fj kts k v)))):t8 (.ref a) y v S Q:=⟨a,kts,k,rfl,e,ek,l,h⟩
theorem JO {wa:WE}{R:Src->Sto->Prop}(h:wa U S λx S1=>∃ d kts,x=.ref d/\S1 d=some (.dK kts)/\∀ od kvs,R ⟨kts.map jg,λS'=>S' d=some (.fK w od kvs kts)⟩ (put S1 d (.fK w od kvs kts))):wiP w wa U S R:=h
theorem JP {P:Addr->List (Key×T)->Prop}(e:S d=some (.dK kts)) (h:P d kts):∃ d' Pq,T.ref d=.ref d'/\S d'=some (.dK Pq)/\P d' Pq:=⟨d,kts,rfl,e,h⟩
theorem JQ {P:Addr->List (Key×T)->Prop}{od:Obj}{kvs:List (Key×V)}(e:S d=some (.fK w od kvs kts)) (h:P d kts):∃ d' od' Qc Pq,S d'=some (.fK w od' Qc Pq)/\P d' Pq:=⟨d,od,kvs,kts,e,h⟩
end
end T2
namespace L2
open PySem PySem.Spec PyProof.Rows
end L2
namespace T2
open PySem PySem.Spec PyProof.Rows L2
section
variable {K:Fg}{X:Cx}{H:Hp}{S:Sto}
theorem gH {k:Nat}{f C:Addr}{fd:FuncData}{ps:List Str}{Ka:WSp}{x:Str}{p pos:Pos}{e:Expr}{es:List Expr}{wr:WA}(M:Mk X.K C f) (F:FnOk X.prog X.w X.K X.mg X.base CX0 k f fd ps (lSp K Ka)) (hb:ap X.K fd ps []) (hr:Room (k+1) X.A) (hg:Gl X x) (hm:X.mg x=some (.ref C))
  (ha:QA K X (e::es) wr) (KC:(x==("__debug__":Str))=false:=by decide) (he:starEach (e::es) X.env=(false,eval e X.env)::starEach es X.env:=by rfl) (KL:(backTo pos (starEach es X.env)).any (·.1)=false:=by rfl) :
  QE K X (.Call (.Name x p) (e::es) [] pos) (gR C Ka [] wr):=Eb (dvs:=[]) (λ_ _=>.nil) (Ba M F hr hg hm hb .nil fh ha KC he KL)
end
end T2
namespace T2
open PySem PySem.Spec PyProof.Rows L2 S6
theorem z4 {prog:Program}{w:World}{A:Around}{E:Value->Shared->Prop}{s:Shared}{Ty:String}{r d:Addr}{n:Nat}{P:Nat->Value->Prop}{OK:Heap->Prop}{R:List Value->Shared->Prop}
  (src:PySem.W.KdlSrc prog w Ty r d n P OK) (hA:A.handled=none) (ok:OK s.heap) (le:n<=sizeLine)
  (h:∀ (h1:Heap) (tk:Nat) (J9:Array Value),(∀ b o,s.heap.get? b=some o->h1.get? b=some o)->s.heap.objs.size<=h1.objs.size->ItemsOf P J9 n->R J9.toList { s with heap:=h1,toks:=tk }) :
  wpAny (model prog w) A (collect (.ref r)) R E s:=by
 have lt:=src.there _ ok
 unfold collect
 refine wpAny_bind (wpAny_runValue (codeAny_builtin entry_proto_collect' ?_))
 rw [Around.under_plainId PySem.F.plain_proto_collect _]
 show wpAny _ A.in1 (newList [] >>= λl=>again (.builtin "list.__iadd__" ⟨[l,.ref r],[]⟩)) _ _ s
 refine wpAny_bind (wpAny_newObj_type (wpAny_pure ⟨plainId_quiet PySem.F.plain_list_iadd _,codeAny_builtin entry_list_iadd' ?_⟩))
 rw [Around.under_plainId PySem.F.plain_list_iadd _]
 have new:(s.heap.push { cls:=.type "list",data:=.seq ([]:List Value).toArray }).get? s.heap.objs.size=some { cls:=.type "list",data:=.seq #[] }:=Heap.get?_push_size _ rfl
 show wpAny _ A.in1 (Builtin.List.listExtendWith (.ref s.heap.objs.size) (.ref r) (.ref s.heap.objs.size)) _ _ _
 have main:=PySem.W.kdl_extend (A:=A) (s:={ s with heap:=s.heap.push { cls:=.type "list",data:=.seq ([]:List Value).toArray } })
  (R:=λ(q:Result) (s':Shared)=>∃ (h1:Heap) (tk:Nat) (J9:Array Value) (c:Nat),q=.ok (.ret (.ref s.heap.objs.size))/\s'={ s with heap:=h1,toks:=tk } /\
   (∀ b o,s.heap.get? b=some o->h1.get? b=some o)/\h1.get? s.heap.objs.size=some { cls:=.type "list",dict:=none,data:=.seq J9 c,slots:=#[] }/\ItemsOf P J9 n)
  src hA (src.keep _ _ ok λb _ o e=>Heap.get?_push_of_some _ e) s.heap.objs.size (Nat.ne_of_gt lt.1) (Nat.ne_of_gt lt.2) (.ref s.heap.objs.size) 0 new
  (λh1 tk J9 c hk hS ha=>⟨h1,tk,J9,c,rfl,rfl,λb o e=>hk b o (Nat.ne_of_lt (Heap.lt_size e)) (Heap.get?_push_of_some _ e),hS,ha⟩) le
 refine wpAny_mono main (λfin s' x=>?_) λe s' x=>?_
 ·cases fin with
  |done f =>
   obtain ⟨h1,tk,J9,c,e,rfl,hk,hS,ha⟩:=x
   cases e
   show wpAny _ A (load s.heap.objs.size >>= _) _ _ _
   exact wpAny_bind (wpAny_load hS (wpAny_pure (h h1 tk J9 hk (Nat.le_of_lt (Heap.lt_size hS)) ha)))
  |again c₁ =>
   refine ⟨x.1,codeAny_mono x.2 λq Pe y=>?_⟩
   obtain ⟨h1,tk,J9,c,rfl,rfl,hk,hS,ha⟩:=y
   show wpAny _ A (load s.heap.objs.size >>= _) _ _ _
   exact wpAny_bind (wpAny_load hS (wpAny_pure (h h1 tk J9 hk (Nat.le_of_lt (Heap.lt_size hS)) ha)))
 ·obtain ⟨_,_,_,_,e',_⟩:=x
  cases e'
theorem B5 {X:Cx}{K:Fg}(tr:Bool) (hK:X.K=K) (hr:Room 2 X.A){pins:List (Addr×Obj)}{s:Shared}{U:L2.St}{H:Hp}{S:Sto}{pl:Addr}{ls:List T}{vs:List V}{κ:T->Ky}{k0:Ky}{Qt:T->Sto->Prop}{Q:VK}
  (I:Inv X pins U H s) (sr:SRp K H S) (rs:Rps K H S ls vs) (Mi:ls.length<64) (hz:vs.length<=sizeLine) (hf:fit k0=true) (hd:k0.dep<=30)
  (hk:∀ t∈ls,Ky.ok (κ t)=true/\Ky.shp k0 (κ t)=true/\tre (κ t)=t) (hq:hJ tr ls κ S Qt) (b:Bh K H S Qt Q)
  (hcol:∀ (A:Around) (E:Value->Shared->Prop) (R:List Value->Shared->Prop),A.handled=X.A.handled->(∀ (its:List Value) (h1:Heap) (tk:Nat),ag vs its->(∀ b u,s.heap.get? b=some u->h1.get? b=some u)->s.heap.objs.size<=h1.objs.size->R its { s with heap:=h1,toks:=tk })->wpAny (model X.prog X.w) A (collect (.ref pl)) R E s) :
  wpAny (model X.prog X.w) X.A (call (.builtin "sorted") [.ref pl]) (EP X pins U Q) X.xe s:=by
 show wpAny _ X.A (call (.builtin "sorted") [.ref pl] []) _ _ s
 refine oO kind_sorted plain_sorted entry_sorted (oP _) ?_
 unfold Builtin.«sorted»
 refine wpAny_bind (m:=checkCount "sorted" 1 1 _) (wpAny_pure ?_)
 refine wpAny_bind (hcol _ _ _ rfl λits h1 tk Oi old1 sz1=>?_)
 have KS:its.length=ls.length:=by rw [<- Oi.length,rs.length]
 have hsl:its.length<=sizeLine:=by rw [<- Oi.length];exact hz
 refine wpAny_bind (wpAny_newList ?_ hsl)
 dsimp only
 have Pc:(h1.push (seqObj "list" its.toArray 0)).get? h1.objs.size=some (seqObj "list" its.toArray 0):=Heap.get?_push_size _ rfl
 refine wpAny_bind (wpAny_holding (oB slot_list_sort (Ty:="list") ⟨_,Pc,rfl⟩ entry_list_sort ?_ (oA _)))
 rw [oF]
 refine wpAny_bind (listItems_at Pc rfl ?_)
 refine wpAny_bind (listUpdate_at Pc rfl ?_ (by simpa using hsl) (by simp))
 obtain ⟨ep,ho1⟩:∃ ep,((h1.push (seqObj "list" its.toArray 0)).update h1.objs.size (Obj.mapSeq λ_=>#[])).get? h1.objs.size=some (seqObj "list" #[] ep):=⟨_,get?_update_seq Pc (λ_=>#[])⟩
 refine wpAny_bind (seqEpoch_at ho1 rfl ?_)
 generalize hL:h1.objs.size=L at *
 generalize hh2:(h1.push (seqObj "list" its.toArray 0)).update L (Obj.mapSeq λ_=>#[])=h2 at *
 have szh2:h2.objs.size=L+1:=by rw [<- hh2,Heap.size_update,size_push',hL]
 have I2:Inv X pins U (upd H L (cC L (seqObj "list" #[] ep))) { s with heap:=h2,toks:=tk } :=
  si I (λb u e=>by rw [<- hh2];exact (Heap.get?_update_other _ _ (Ne.symm (Nat.ne_of_lt (Nat.lt_of_lt_of_le (Heap.lt_size e) sz1)))).trans (Heap.get?_push_of_some _ (old1 b u e))) sz1 ho1
 refine wpAny_bind (wpAny_newTuple ?_ (by simpa using hsl))
 refine wpAny_bind (wpAny_newList ?_)
 dsimp only
 generalize hh3:h2.push { cls:=.type "tuple",data:=.seq its.toArray.toList.toArray }=h3
 have szh3:h3.objs.size=L+2:=by rw [<- hh3,size_push',szh2]
 generalize hh4:h3.push { cls:=.type "list",data:=.seq ([]:List Value).toArray }=h4
 rw [szh3]
 have I4:Inv X pins U (upd (upd H L (cC L (seqObj "list" #[] ep))) (L+2) (bC (L+2) [])) { s with heap:=h4,toks:=tk } :=
  sh (s:={ s with heap:=h2,toks:=tk }) I2 (λb u e=>by rw [<- hh4,<- hh3];exact Heap.get?_push_of_some _ (Heap.get?_push_of_some _ e)) (by show h2.objs.size<=_;omega) .nil (Nat.zero_le _) (by rw [<- hh4,<- szh3];exact Heap.get?_push_size _ rfl)
 have ne1:L+2≠L:=Nat.ne_of_gt (Nat.lt_add_of_pos_right (by decide))
 have ne2:L≠L+2:=Ne.symm ne1
 have nL:H L=none:=I.hok.fresh sz1
 have nk:H (L+2)=none:=I.hok.fresh (by omega)
 have nk2:upd H L (cC L (seqObj "list" #[] ep)) (L+2)=none:=by rw [ao ne1];exact nk
 have nSL:S L=none:=sr.fresh nL
 have nSk:S (L+2)=none:=sr.fresh nk
 generalize hHc:upd (upd H L (cC L (seqObj "list" #[] ep))) (L+2) (bC (L+2) [])=Hc at *
 have eL:Hc L=some (cC L (seqObj "list" #[] ep)):=by rw [<- hHc,ao ne2];exact aF
 have ek:Hc (L+2)=some (bC (L+2) []):=by rw [<- hHc];exact aF
 have fc:Fr H S Hc S:=by rw [<- hHc];exact (Fr.new nL).trans (Fr.new nk2)
 have sc:SRp K Hc S:=by rw [<- hHc];exact (sr.new nL).new nk2
 refine wpAny_holding (wpAny_bind (wpAny_pure ?_))
 generalize hs5:({ s with heap:=h4,toks:=tk }:Shared)=s5 at *
 have rs5:=rs.fr fc
 obtain ⟨R,q1,q2,q3,q4,q5⟩:=mm rs5 Oi (rfl:its.length=its.length)
 have L5:∀ r∈R,KR s5 r.ku (κ r.t)/\Ky.shp k0 (κ r.t)=true:=by
  have go:∀ {R:List Rec}{vs:List V},Rps K Hc S (R.map (·.t)) vs->ag vs (R.map (·.ku))->(∀ r∈R,r.t∈ls)->∀ r∈R,KR s5 r.ku (κ r.t)/\Ky.shp k0 (κ r.t)=true:=by
   intro R
   induction R with
   |nil=>intro _ _ _ _ r hr;cases hr
   |cons r0 R ih =>
    intro kvs a b m r hr
    cases a with
    |cons a1 a2 =>
     cases b with
     |cons b1 b2 =>
      rcases List.mem_cons.mp hr with rfl|hr
      ·have:=hk r.t (m r (List.mem_cons_self ..))
       exact ⟨tZ hK I4 (by rw [this.2.2];exact a1) b1 this.1,this.2.1⟩
      ·exact ih a2 b2 (λx hx=>m x (List.mem_cons_of_mem _ hx)) r hr
  exact go (by rw [q1];exact rs5) (by rw [q4];exact Oi) λr hr=>by rw [<- q1];exact List.mem_map_of_mem hr
 refine pK (k0:=k0) rfl (by rw [KS];exact Mi) hf (λv hv=>?_) (by have:=hr.in1.in1.units;omega) λst hp MH hsrt=>?_
 ·rw [<- q4] at hv
  obtain ⟨r,hr,rfl⟩:=List.mem_map.mp hv
  exact ⟨_,L5 r hr⟩
 ·obtain ⟨R',pR,eR⟩:=fX (λr:Rec=>((r.ku,r.u):Keyed)) (Array.perm_iff_toList_perm.mp hp) (l:=R) (by
   have:(its.toArray.zip its.toArray).toList=its.zip its:=by simp
   rw [this]
   conv=>lhs;arg 1;rw [<- q4]
   conv=>lhs;arg 2;rw [<- q3]
   exact List.zip_map')
  have Q5:∀ r∈R',r∈R:=λr hr=>pR.mem_iff.mp hr
  obtain ⟨rz,vz⟩:=lB λr hr=>q5 r (Q5 r hr)
  have lR:R'.length=its.length:=by rw [pR.length_eq,<- q3,List.length_map]
  have szR:(arrOf st).size=R'.length:=by rw [<- Array.length_toList,eR,List.length_map]
  have at_:∀ k (h:k<(arrOf st).size) (h':k<R'.length),(arrOf st)[k].1=R'[k].ku:=λk h h'=>by
   have e1:(arrOf st)[k]=(arrOf st).toList[k]'(by simpa using h):=by simp
   rw [e1,List.getElem_of_eq eR,List.getElem_map]
  have srt:(R'.map (·.t)).Pairwise (λa b=>Ky.lt (κ b) (κ a)=false):=by
   rw [List.pairwise_map,List.pairwise_iff_getElem]
   intro i j hi hj ij
   have:=hsrt i j (by rw [szR];exact hj) (by rw [szR];exact hi) (Nat.le_of_lt ij)
   rw [at_ i (by rw [szR];exact hi) hi,at_ j (by rw [szR];exact hj) hj,fW (L5 _ (Q5 _ (List.getElem_mem hi))).1,fW (L5 _ (Q5 _ (List.getElem_mem hj))).1] at this
   exact this
  have fin:=hq (R'.map (·.t)) (by rw [<- q1];exact pR.map _) srt
  have eL5:=t5 I4 eL
  have Ko:(arrOf st).map (·.2)=(R'.map (·.u)).toArray:=by
   apply Array.toList_inj.mp
   rw [Array.toList_map,eR,List.map_map]
   rfl
  dsimp only
  refine wpAny_bind (seqEpoch_at eL5 rfl ?_)
  refine wpAny_bind (listUpdate_at eL5 rfl ?_ (by simp) (by rw [Ko];simp;omega))
  rw [MH]
  simp only [bne_self_eq_false,Bool.false_eq_true,if_false]
  have I7:=iQ I4 eL (its:=[]) eL5 (f:=λ_=>(arrOf st).map (·.2)) (its':=R'.map (·.u)) Ko vz (by rw [List.length_map,lR];exact hsl)
  have I8:=I7.ofAcc (D:=L) aF
  rw [gi] at I8
  refine wpAny_pure ⟨_,rfl,wpAny_pure ⟨.ref L,_,I8,rfl,?_⟩⟩
  cases tr with
  |false=>exact b _ _ (.lst _) S (Fr.at fc nL) (sc.chg eL nSL) (.lst nSL aF (Rps.chg eL rz)) fin
  |true =>
   refine b _ _ (.ref L) _ (λa o h nn=>?_) (SRp.trk eL sc rz) .ref (fin L nSL)
   have ha:a≠L:=bt h nL
   rw [av ha]
   exact Fr.at fc nL a o h nn
def su (w:World) (tr:Bool):GC:=λts S Q=>∃ a kts κ k0,ts=[.ref a]/\RdT w S a kts/\kts.length<64/\fit k0=true/\k0.dep<=30 /\
 (∀ kv∈kts,Ky.ok (κ (c3 kv.1))=true/\Ky.shp k0 (κ (c3 kv.1))=true/\tre (κ (c3 kv.1))=c3 kv.1)/\hJ tr (kts.map λkv=>c3 kv.1) κ S Q
theorem B6 {X:Cx}{K:Fg}(w:World) (tr:Bool) (hw:X.w=w) (hK:X.K=K) (hc:X.calm=true) (hr:Room 2 X.A):bu X (.builtin "sorted") (lC K (su w tr)):=by
 subst hw
 rintro pins s U H xs us Q I r ⟨S,ts,Qt,sr,rs,⟨a,kts,κ,k0,e,g,Mi,hf,hd,hk,hq⟩,b⟩
 subst e
 cases rs with
 |cons h rn =>
 cases rn
 cases h
 obtain ⟨u,rfl,ru⟩:=bW r
 cases (show u=Value.ref a from ru)
 obtain ⟨kvs,hg,p⟩:=nK sr g
 obtain ⟨z,hs,vs,rel,dd⟩:=rdK I hg
 obtain ⟨ep,da⟩:=dd.dictAt
 have hl:=rel.length
 refine B5 tr hK hr I sr (B0 p) (by rw [List.length_map];exact Mi) (by rw [List.length_map];exact z) hf hd (λt ht=>?_) hq b λA E R hA q=>?_
 ·obtain ⟨kv,hkv,rfl⟩:=List.mem_map.mp ht
  exact hk kv hkv
 ·refine z4 (PySem.W.kdl_dict (knd:=ba X.prog X.w) (kvs:=vs) (ep:=ep) hs) (hA.trans (I.ok.hd hc)) da (by omega) λh1 tk J9 kp sz hi=>q J9.toList h1 tk ?_ kp sz
  refine qG (by rw [List.length_map,hl];have:=hi.1;simpa using this.symm) λj x u e1 e2=>?_
  obtain ⟨k,y,q1,q2⟩:=hi.2 j u (by rw [<- Array.getElem?_toList];exact e2)
  obtain ⟨kv,z1,z2⟩:=jq rel q1
  rw [List.getElem?_map,z1] at e1
  cases e1
  show au (kV kv.1) u
  rw [z2.1];exact tD q2
noncomputable def kyS:T->Ky
 |.str z=>.s z
 |_=>.nil
theorem z5 {w:World}{tr:Bool}{S:Sto}{Q:T->Sto->Prop}{a:Addr}{kts:List (Key×T)}{ns:List Str}(g:RdT w S a kts) (Mi:kts.length<64) (e:kts.map (·.1)=ns.map Sum.inr)
  (h:∀ zs:List Str,zs.Perm ns->zs.Pairwise (λx y=>Ky.lt (.s y) (.s x)=false)->bi tr (zs.map T.str) S Q):su w tr [.ref a] S Q:=by
 have ek:kts.map (λkv=>c3 kv.1)=ns.map T.str:=by
  have:=congrArg (List.map c3) e
  rw [List.map_map,List.map_map] at this
  exact this
 refine ⟨a,kts,kyS,.s "",rfl,g,Mi,rfl,Nat.zero_le _,λkv hkv=>?_,?_⟩
 ·have:kv.1∈ns.map (Sum.inr:Str->Key):=by rw [<- e];exact List.mem_map_of_mem hkv
  obtain ⟨i,_,hi⟩:=List.mem_map.mp this
  rw [<- hi]
  exact ⟨rfl,rfl,rfl⟩
 ·rw [ek]
  intro zs hp hs
  obtain ⟨l,p,rfl⟩:=fX T.str hp rfl
  refine h l p ?_
  rw [List.pairwise_map] at hs
  exact hs
section
variable {K:Fg}{X:Cx}{H:Hp}{S:Sto}
end
end T2
namespace L2
open PySem PySem.Spec PyProof.Rows
end L2
namespace T2
open PySem PySem.Spec PyProof.Rows L2
section
variable {K:Fg}{X:Cx}
end
section
variable {K:Fg}{X:Cx}{e:Expr}{wa:WE}
def vn (wa:WE):WT:=λU S B=>wa U S λx S1=>∃ ts,aS S1 x=some ts/\B (!ts.isEmpty) S1
theorem yD {H:Hp}{S:Sto}{ts:List T}{vs:List V}(r:Rps K H S ts vs):vs.isEmpty=ts.isEmpty:=by cases r<;>rfl
theorem qe (hK:X.K=K) (h:QE K X e wa) (he:∀ whole,isTrue e X.env whole=(do let v <- whole;standAt e.pos;holding [v] (truthy v)):=by intro _;rfl):QT K X e (vn wa):=PT.of (zl h he) λU H Q zz100=>by
 obtain ⟨S,J6,Qt,s,c,q,hq⟩:=zz100
 subst hK
 refine ⟨S,J6,_,s,c,q,λv H1 t S1 f1 s1 r1 zz101=>?_⟩
 obtain ⟨ts,ev,q1⟩:=zz101
 obtain ⟨p,vs,rfl,hS,rs⟩:=cw s1 r1 ev
 exact ⟨!vs.isEmpty,.inl ⟨vs,hS,rfl⟩,hq _ H1 S1 f1 s1 (by rw [yD rs];exact q1)⟩
theorem HW {U:StT}{S:Sto}{B:Bool->Sto->Prop}(h:wa U S λx S1=>∃ ts,aS S1 x=some ts/\B (!ts.isEmpty) S1):vn wa U S B:=h
end
end T2
namespace Xc
open PySem
def Tb (h:Heap) (e:Addr):Prop:=∃ oe vs T,h.get? e=some oe/\oe.data=.fields vs/\vs[1]?=some (.ref T)
structure Ent (fr:List Addr) (e:Addr) (oe:Obj) (h h':Heap):Prop where
 it:∃ T o ts,h.objs.size<=T/\h'.get? e=some (oe.mapFields (·.setIfInBounds 1 (.ref T)))/\h'.get? T=some o/\o.data=.fields ts/\3<ts.size
 keep:∀ b o,h.get? b=some o->b≠e->b∉fr->h'.get? b=some o
 slot:∀ b o,h.get? b=some o->b≠e->∃ sl,h'.get? b=some { o with slots:=sl }
section
variable {M:Model}{A:Around}{E:Value->Shared->Prop}{s:Shared}
theorem qf {base:Heap}{env:Env}{outer:List Env}{L e:Addr}{oe:Obj}{vs:Array Value}{hd:Value}{nx:Bool}{fo:Option Addr}{Q:Unit->Shared->Prop}
  (fr:A.frames=some (env::outer)) (ff:s.heap.FunFrames base (env::outer)) (ef:env.frame=some L) (ge:s.heap.get? e=some oe) (de:oe.data=.fields vs) (sz:1<vs.size)
  (k:∀ h',Ent ((env::outer).filterMap (·.frame)) e oe s.heap h'->Q () { s with heap:=h' }) :
  wpAny M A (do let a <- frameOf env;let pl <- entryPlaceOf L nx;let b <- EntryCells.newEntry hd a .none (rawInt L) .none pl;setField (.ref e) 1 b) (λ_ s'=>Tb s'.heap e/\wpAny M A (setFlight (.ref e) fo) Q E s') E s:=by
 have nfr:e∉(env::outer).filterMap (·.frame):=λz=>by
  obtain ⟨_,o,q,nf⟩:=ff.mem z
  rw [ge] at q;cases q;exact nf vs de
 refine wpAny_bind (wpAny_frameOf_fun fr ff ef λh1 so=>wpAny_bind (wpAny_entryPlaceOf λpl ip=>?_))
 unfold EntryCells.newEntry newFields
 refine wpAny_bind (wpAny_newObj_type ?_ (ip.sizeOk5 _ _ _ _ _))
 have ge1:h1.get? e=some oe:=(so.2.1 e nfr).trans ge
 generalize hob:({ cls:=.type "traceback",dict:=none,data:=.fields ([hd,.ref L,.none,rawInt L,.none]++(if pl.isEmpty then List.replicate 6 Value.none else pl)).toArray }:Obj)=ot
 have dt:ot.data=.fields ([hd,.ref L,.none,rawInt L,.none]++(if pl.isEmpty then List.replicate 6 Value.none else pl)).toArray:=by rw [<- hob]
 have ot0:ot.isFreed=false:=Obj.isFreed_of_fields dt
 have ge2:(h1.push ot).get? e=some oe:=Heap.get?_push_of_some ot ge1
 have neT:h1.objs.size≠e:=Nat.ne_of_gt (Heap.lt_size ge1)
 have de3:=Obj.data_mapFields de (·.setIfInBounds 1 (Value.ref h1.objs.size))
 refine wpAny_setField ge2 de sz ?_
 have ge3:=Heap.get?_update_self (Obj.mapFields (·.setIfInBounds 1 (Value.ref h1.objs.size))) ge2 (Obj.isFreed_of_fields de3)
 have gT3:((h1.push ot).update e (Obj.mapFields (·.setIfInBounds 1 (Value.ref h1.objs.size)))).get? h1.objs.size=some ot:=(Heap.get?_update_other _ _ (Ne.symm neT)).trans (Heap.get?_push_size h1 ot0)
 refine ⟨⟨_,_,h1.objs.size,ge3,de3,by simp [sz]⟩,?_⟩
 unfold setFlight
 refine wpAny_bind (wpAny_field ge3 de3 (x:=.ref h1.objs.size) (by simp [sz]) ?_)
 rw [if_pos (show (Value.ref h1.objs.size != Value.none)=true from by simp)]
 have sz3:3<([hd,Value.ref L,.none,rawInt L,.none]++(if pl.isEmpty then List.replicate 6 Value.none else pl)).toArray.size:=by simp
 refine wpAny_setField gT3 dt sz3 (k _ ?_)
 have kp:∀ b o,b≠e->h1.get? b=some o->(((h1.push ot).update e (Obj.mapFields (·.setIfInBounds 1 (Value.ref h1.objs.size)))).update h1.objs.size (Obj.mapFields (·.setIfInBounds 3 (fo.elim Value.none λf=>rawInt f)))).get? b=some o:=λb o nb hb=>by
  rw [Heap.get?_update_other _ _ (Nat.ne_of_gt (Heap.lt_size hb)),Heap.get?_update_other _ _ (Ne.symm nb)]
  exact Heap.get?_push_of_some ot hb
 refine ⟨⟨h1.objs.size,_,_,Nat.le_of_eq so.1.symm,?_,Heap.get?_update_self _ gT3 (Obj.isFreed_of_fields (Obj.data_mapFields dt _)),Obj.data_mapFields dt _,?_⟩,λb o hb nb nf=>kp b o nb ((so.2.1 b nf).trans hb),λb o hb nb=>?_⟩
 ·rw [Heap.get?_update_other _ _ neT];exact ge3
 ·rw [Array.size_setIfInBounds];exact sz3
 ·obtain ⟨sl,q⟩:=so.2.2 b o hb
  exact ⟨sl,kp b _ nb q⟩
def Exc (h:Heap) (lo:Nat) (N:Addr->Prop) (e:Addr) (cls:Value) (dct:Option Addr):Prop :=
 ∃ oe vs hd,h.get? e=some oe/\oe.cls=cls/\oe.dict=dct/\oe.data=.fields vs/\(vs[1]?=some hd/\vs[2]?=some .none)/\lo<=e/\N e /\
  (hd=.none\/∃ T oT ts,hd=.ref T/\lo<=T/\N T/\T≠e/\h.get? T=some oT/\oT.data=.fields ts/\3<ts.size)
structure Past (fr ch:List Addr) (h h':Heap):Prop where
 keep:∀ b o,h.get? b=some o->b∉ch->b∉fr->h'.get? b=some o
 slot:∀ b o,h.get? b=some o->b∈fr->∃ sl,h'.get? b=some { o with slots:=sl }
 there:∀ b o,h.get? b=some o->∃ o',h'.get? b=some o'
theorem z6 (o:Obj) (f:Array Value->Array Value):(o.mapFields f).dict=o.dict:=by
 obtain ⟨c,d,dt,sl⟩:=o
 cases dt<;>rfl
theorem Exc.mono {h:Heap}{lo lo':Nat}{N:Addr->Prop}{e:Addr}{cls:Value}{dct:Option Addr}(x:Exc h lo N e cls dct) (l:lo'<=lo):Exc h lo' N e cls dct:=by
 obtain ⟨oe,vs,hd,ge,c,d,de,e1,le,ne,hh⟩:=x
 refine ⟨oe,vs,hd,ge,c,d,de,e1,Nat.le_trans l le,ne,hh.imp id λzz102=>by obtain ⟨T,oT,ts,r,lT,q⟩:=zz102;exact ⟨T,oT,ts,r,Nat.le_trans l lT,q⟩⟩
theorem Exc.there {h:Heap}{lo:Nat}{N:Addr->Prop}{e:Addr}{cls:Value}{dct:Option Addr}(x:Exc h lo N e cls dct):∃ oe,h.get? e=some oe/\oe.cls=cls/\oe.dict=dct:=by
 obtain ⟨oe,vs,hd,ge,c,d,_⟩:=x
 exact ⟨oe,ge,c,d⟩
theorem note_it {base:Heap}{env:Env}{outer:List Env}{L e:Addr}{lo:Nat}{N:Addr->Prop}{cls:Value}{dct fo:Option Addr}{Q:Unit->Shared->Prop}
  (fr:A.frames=some (env::outer)) (ff:s.heap.FunFrames base (env::outer)) (ef:env.frame=some L) (hN:∀ b,s.heap.objs.size<=b->N b) (O9:lo<=s.heap.objs.size) (x:Exc s.heap lo N e cls dct)
  (k:∀ h' ch,(∀ b∈ch,lo<=b/\N b/\b∉(env::outer).filterMap (·.frame)/\∃ o vs,s.heap.get? b=some o/\o.data=.fields vs)->Past ((env::outer).filterMap (·.frame)) ch s.heap h'->Exc h' lo N e cls dct->Q () { s with heap:=h' }) :
  wpAny M A (noteFrame (.ref e) env) (λ_ s'=>Tb s'.heap e/\wpAny M A (setFlight (.ref e) fo) Q E s') E s:=by
 obtain ⟨oe,vs,hd,ge,rfl,rfl,de,e1,le,ne,hh⟩:=x
 have sz:1<vs.size:=(Array.getElem?_eq_some_iff.mp e1.1).1
 have nofld:∀ b∈(env::outer).filterMap (·.frame),∀ o,s.heap.get? b=some o->∀ vs,o.data≠.fields vs:=λb hb o q=>by
  obtain ⟨_,o',q',nf⟩:=ff.mem hb
  rw [q] at q';cases q';exact nf
 have nfe:e∉(env::outer).filterMap (·.frame):=λz=>nofld e z _ ge vs de
 have fin:∀ (g h':Heap),g.objs.size=s.heap.objs.size->Ent ((env::outer).filterMap (·.frame)) e oe g h'->Exc h' lo N e oe.cls oe.dict:=by
  rintro g h' sg ⟨⟨T,o,ts,hT,gE,gT,dT,e3⟩,_,_⟩
  have hT':s.heap.objs.size<=T:=by omega
  refine ⟨_,_,.ref T,gE,Obj.cls_mapFields _ _,z6 _ _,Obj.data_mapFields de _,⟨by simp [sz],by rw [Array.getElem?_setIfInBounds,if_neg (by decide)];exact e1.2⟩,le,ne,.inr ⟨T,o,ts,rfl,Nat.le_trans O9 hT',hN T hT',λz=>?_,gT,dT,e3⟩⟩
  have q:e<s.heap.objs.size:=Heap.lt_size ge
  rw [z] at hT'
  exact absurd (Nat.lt_of_lt_of_le q hT') (Nat.lt_irrefl _)
 unfold noteFrame
 simp only [ef]
 refine wpAny_bind (wpAny_field ge de e1.1 ?_)
 rcases hh with rfl|⟨T,oT,ts,rfl,lT,nT,neT,gT,dT,e3⟩
 ·rw [if_neg (by decide)]
  refine qf fr ff ef ge de sz λh' en=>k h' [e] (λb hb=>by rw [List.mem_singleton.mp hb];exact ⟨le,ne,nfe,_,_,ge,de⟩) ⟨λb o hb hk nf=>en.keep b o hb (λz=>hk (List.mem_singleton.mpr z)) nf,λb o hb hf=>en.slot b o hb λz=>nfe (z ▸ hf),λb o hb=>?_⟩ (fin s.heap h' rfl en)
  by_cases z:b=e
  ·subst z
   obtain ⟨T,_,_,_,q,_⟩:=en.it
   exact ⟨_,q⟩
  ·obtain ⟨sl,q⟩:=en.slot b o hb z
   exact ⟨_,q⟩
 ·rw [if_pos (show (Value.ref T != Value.none)=true from by simp)]
  refine wpAny_bind (wpAny_field gT dT (Array.getElem?_eq_getElem e3) ?_)
  have nfT:T∉(env::outer).filterMap (·.frame):=λz=>nofld T z _ gT ts dT
  by_cases hfl:(ts[3]==rawInt L)=true
  ·rw [if_pos hfl]
   refine wpAny_pure ⟨⟨_,_,T,ge,de,e1.1⟩,?_⟩
   unfold setFlight
   refine wpAny_bind (wpAny_field ge de e1.1 ?_)
   rw [if_pos (show (Value.ref T != Value.none)=true from by simp)]
   refine wpAny_setField gT dT e3 (k _ [T] (λb hb=>by rw [List.mem_singleton.mp hb];exact ⟨lT,nT,nfT,_,_,gT,dT⟩) ⟨λb o hb nb _=>?_,λb o hb z=>?_,λb o hb=>?_⟩ ?_)
   ·rw [Heap.get?_update_other _ _ (λz=>nb (List.mem_singleton.mpr z.symm))];exact hb
   ·have nb:T≠b:=λq=>nfT (q ▸ z)
    exact ⟨o.slots,by rw [Heap.get?_update_other _ _ nb];exact hb⟩
   ·by_cases z:b=T
    ·subst z
     exact ⟨_,Heap.get?_update_self _ gT (Obj.isFreed_of_fields (Obj.data_mapFields dT _))⟩
    ·exact ⟨o,by rw [Heap.get?_update_other _ _ (Ne.symm z)];exact hb⟩
   ·exact ⟨oe,vs,.ref T,(Heap.get?_update_other _ _ neT).trans ge,rfl,rfl,de,e1,le,ne,.inr ⟨T,_,_,rfl,lT,nT,neT,Heap.get?_update_self _ gT (Obj.isFreed_of_fields (Obj.data_mapFields dT _)),Obj.data_mapFields dT _,by rw [Array.size_setIfInBounds];exact e3⟩⟩
  rw [if_neg hfl]
  refine wpAny_bind (wpAny_setField gT dT e3 ?_)
  generalize hg:s.heap.update T (Obj.mapFields (·.setIfInBounds 3 Value.none))=g
  have ot:∀ b,b≠T->g.get? b=s.heap.get? b:=λb nb=>by rw [<- hg];exact Heap.get?_update_other _ _ (Ne.symm nb)
  have sg:g.objs.size=s.heap.objs.size:=by rw [<- hg];exact Heap.size_after_update ..
  have ff':g.FunFrames base (env::outer):=ff.of_keeps λb o hb nf=>⟨o,(ot b λz=>by subst z;rw [gT] at hb;cases hb;exact nf ts dT).trans hb,rfl⟩
  refine qf (s:={ s with heap:=g }) fr ff' ef ((ot e (Ne.symm neT)).trans ge) de sz λh' en=>k h' [e,T] (λb hb=>?_) ⟨λb o hb hk nf=>en.keep b o ((ot b λz=>hk (by rw [z];simp)).trans hb) (λz=>hk (by rw [z];simp)) nf,λb o hb hf=>en.slot b o ((ot b λz=>nfT (z ▸ hf)).trans hb) λz=>nfe (z ▸ hf),λb o hb=>?_⟩ (fin g h' sg en)
  ·rcases List.mem_cons.mp hb with z|z
   ·rw [z];exact ⟨le,ne,nfe,_,_,ge,de⟩
   ·rw [List.mem_singleton.mp z];exact ⟨lT,nT,nfT,_,_,gT,dT⟩
  ·by_cases z:b=e
   ·subst z
    obtain ⟨T,_,_,_,q,_⟩:=en.it
    exact ⟨_,q⟩
   ·by_cases z2:b=T
    ·subst z2
     have gT':g.get? b=some (oT.mapFields (·.setIfInBounds 3 Value.none)):=by rw [<- hg];exact Heap.get?_update_self _ gT (Obj.isFreed_of_fields (Obj.data_mapFields dT _))
     obtain ⟨sl,q⟩:=en.slot b _ gT' z
     exact ⟨_,q⟩
    ·obtain ⟨sl,q⟩:=en.slot b o ((ot b z2).trans hb) z
     exact ⟨_,q⟩
end
end Xc
namespace L2
open PySem PySem.Spec PyProof.Rows
def CX1 (P:Program) (w:World):CXT:=λouter H s E e s'=>∃ a C dct H',e=.ref a/\s'.os=s.os/\AllBare s'.gens/\Un (frs outer) [] H H' s.heap s'.heap/\HOk P w H' s'.heap /\
 Xc.Exc s'.heap s.heap.objs.size (λb=>H' b=none) a (.ref C) dct/\E (.ref C) dct H'
abbrev XS:=Addr->Option Addr->St->Hp->Prop
structure Low (X:Cx) (pins:List (Addr×Obj)) (lo:Nat):Prop where
 s0:X.s₀.heap.objs.size<=lo
 loc:X.env.locals<lo
 cell:∀ x c,X.env.cells.lookup x=some c->c<lo
 pin:∀ p∈X.pn++pins,p.1<lo
def XP (X:Cx) (pins:List (Addr×Obj)) (R:XS) (e:Value) (s':Shared):Prop:=∃ a C dct J7 H' lo,e=.ref a/\Inv X pins J7 H' s'/\Low X pins lo/\Xc.Exc s'.heap lo (λb=>H' b=none) a (.ref C) dct/\R C dct J7 H'
abbrev TR:=St->Hp->XS->Prop
def PR (X:Cx) (st:Stmt) (t:TR):Prop:=∀ (pins:List (Addr×Obj)) (s:Shared) (U:St) (H:Hp) (R:XS),Inv X pins U H s->t U H R->wpAny (model X.prog X.w) X.A (exec st X.env) (λ_ _=>False) (XP X pins R) s
def PRs (X:Cx) (st:List Stmt) (t:TR):Prop:=∀ (pins:List (Addr×Obj)) (s:Shared) (U:St) (H:Hp) (R:XS),Inv X pins U H s->t U H R->wpAny (model X.prog X.w) X.A (execs st X.env) (λ_ _=>False) (XP X pins R) s
def PRE (X:Cx) (e:Expr) (t:TR):Prop:=∀ (pins:List (Addr×Obj)) (s:Shared) (U:St) (H:Hp) (R:XS),Inv X pins U H s->t U H R->wpAny (model X.prog X.w) X.A (eval e X.env) (λ_ _=>False) (XP X pins R) s
def PRA (X:Cx) (es:List Expr) (t:TR):Prop:=∀ (pos:Pos) (pins:List (Addr×Obj)) (s:Shared) (U:St) (H:Hp) (R:XS),Inv X pins U H s->t U H R->wpAny (model X.prog X.w) X.A (spliced (backTo pos (starEach es X.env))) (λ_ _=>False) (XP X pins R) s
section
variable {X:Cx}{pins:List (Addr×Obj)}{U:St}{H:Hp}{s:Shared}
theorem Inv.low (I:Inv X pins U H s):Low X pins s.heap.objs.size :=
 ⟨I.sz,I.lt,λx c e=>by obtain ⟨v,o,ho,_⟩:=I.cell x c e;exact Heap.lt_size ho,λp hp=>Heap.lt_size (I.pin p hp).1⟩
theorem b5 {α:Type}{t:Sem α}{Q Q':α->Shared->Prop}{E:Value->Shared->Prop}(h:wpAny (model X.prog X.w) X.A t Q (λ_ _=>False) s) (q:∀ a s,Q a s->Q' a s):wpAny (model X.prog X.w) X.A t Q' E s:=wpAny_mono h q λ_ _ z=>z.elim
variable {st:Stmt}{rest:List Stmt}{t u:TS}{r r2:TR}{e:Expr}{es:List Expr}{te:TE}{ta:TA}{pos:Pos}
theorem z7 (h:PR X st r):PRs X (st::rest) r:=λpins s U H R I q=>wpAny_execs_cons (wpAny_mono (h pins s U H R I q) (λ_ _ z=>z.elim) λ_ _ z=>z)
def HX (t:TS) (r:TR):TR:=λU H R=>t { nx:=λJ7 H'=>r J7 H' R,rt:=λ_ _=>False } U H
theorem z8 (h1:PS X.nox st t) (h2:PRs X rest r):PRs X (st::rest) (HX t r):=by
 intro pins s U H R I q
 refine wpAny_execs_cons (b5 (h1 pins s U H _ (I.wish _) q) λf s1 q=>?_)
 cases f with
 |next=>obtain ⟨J7,H',I',q⟩:=q;exact h2 pins s1 J7 H' R I'.unwish q
 |ret v=>obtain ⟨_,_,_,_,_,q⟩:=q;exact q.elim
 |brk=>obtain ⟨_,_,_,q⟩:=q;exact q.elim
 |cont=>obtain ⟨_,_,_,q⟩:=q;exact q.elim
def rIf (c:TT) (r r2:TR):TR:=λU H R=>c U H λb H1=>if b=true then r U H1 R else r2 U H1 R
theorem HY {c:Expr}{a b:List Stmt}{tc:TT}(hc:PT X.nox c tc) (ha:PRs X a r) (hb:PRs X b r2):PR X (.If c a b pos) (rIf tc r r2):=by
 intro pins s U H R I h
 refine wpAny_If (b5 (hc pins s U H _ (I.wish _) h) λd s1 zz103=>?_)
 obtain ⟨H1,I1,q1⟩:=zz103
 cases d with
 |true=>exact ha pins s1 U H1 R I1.unwish q1
 |false=>exact hb pins s1 U H1 R I1.unwish q1
theorem B7 (h:PRE X e r) (hs:swapsWith e none pos.line X.env=pure false:=by rfl):PR X (.Expr e pos) r:=λpins s U H R I q=>wpAny_Expr_any (wpAny_mono (h pins s U H R I q) (λ_ _ z=>z.elim) λ_ _ z=>z) I.quiet hs
theorem E5 (h:PRE X e r):PR X (.Return (some e) pos) r:=λpins s U H R I q=>wpAny_Return_some (wpAny_mono (h pins s U H R I q) (λ_ _ z=>z.elim) λ_ _ z=>z)
theorem E6 {x:Str}{KA:Pos}(h:PRE X e r) (hs:swapsWith e (some (.Name x KA)) pos.line X.env=pure false:=by rfl):PR X (.Assign [.Name x KA] e pos) r:=λpins s U H R I q=>wpAny_Assign_Name (wpAny_mono (h pins s U H R I q) (λ_ _ z=>z.elim) λ_ _ z=>z) hs
theorem z9 (h:PRE X e r) (hs:starEach (e::es) X.env=(false,eval e X.env)::starEach es X.env:=by rfl):PRA X (e::es) r:=by
 intro pos pins s U H R I q
 rw [hs]
 exact Calls.spliced_cons (wpAny_mono (h pins s U H R I q) (λ_ _ z=>z.elim) λ_ _ z=>z)
end
section
variable {X:Cx}{k:Nat}{f C:Addr}{fd:FuncData}{ps:List Str}{sp:Sp}{dvs:List V}{ds:List Value}{x m:Str}{p pos apos:Pos}{e o:Expr}{es:List Expr}{ta:TE}{t:TA}{r:TR}{G:Addr->Prop}
def toE (R:XS) (U:St):XK:=λc dct H'=>∃ C,c=.ref C/\R C dct U H'
theorem mo {pins:List (Addr×Obj)}{U:St}{H:Hp}{s:Shared}{R:XS}{us:List Value}{vs:List V}(F:FnOk X.prog X.w X.K X.mg X.base (CX1 X.prog X.w) k f fd ps sp) (hr:Room k X.A) (hb:ap X.K fd ps ds) (hd:ag dvs ds)
  (I:Inv X pins U H s) (r:ag vs us) (h:sp (vs++dvs) H (λ_ _=>False) (toE R U)):wpAny (model X.prog X.w) X.A (call (.ref f) us) (λ_ _=>False) (XP X pins R) s:=by
 have r2:ag (vs++dvs) (us++ds):=r.append hd
 have hl:(us++ds).length=ps.length:=by rw [<- r2.length];exact F.len _ _ _ _ h
 refine wpAny_call (codeAny_mono (F.run X.A X.stack s H ⟨us,[]⟩ (us++ds) (vs++dvs) _ _ hr I.env0 (hb s us I.kIn hl) r2 h) λq s' hq=>?_)
 cases q with
 |error z =>
  obtain ⟨a,C,dct,H',rfl,os,bare,un,hok,x,C',ec,q⟩:=hq
  cases ec
  exact ⟨a,C,dct,U,H',_,rfl,I.call' (ch:=[]) os un hok bare (λ_ z=>nomatch z),I.low,x,q⟩
 |ok fl =>
  cases fl with
  |ret u=>obtain ⟨_,_,_,_,_,_,_,q⟩:=hq;exact q.elim
  |next=>exact False.elim hq
  |brk=>exact False.elim hq
  |cont=>exact False.elim hq
def HZ (sp:Sp) (dvs:List V) (t:TA):TR:=λU H R=>t U H λvs H1=>sp (vs++dvs) H1 (λ_ _=>False) (toE R U)
theorem Aa (F:FnOk X.prog X.w X.K X.mg X.base (CX1 X.prog X.w) k f fd ps sp) (hr:Room k X.A) (hg:Gl X x) (hm:X.mg x=some (.ref f)) (hk:PySem.W.keepIn X.K (.ref f)=true) (hb:ap X.K fd ps ds) (hd:ag dvs ds)
  (ha:PA X.nox (e::es) t) (KC:(x==("__debug__":Str))=false:=by decide) (he:starEach (e::es) X.env=(false,eval e X.env)::starEach es X.env:=by rfl) (KL:(backTo pos (starEach es X.env)).any (·.1)=false:=by rfl) :
  PRE X (.Call (.Name x p) (e::es) [] pos) (HZ sp dvs t):=by
 intro pins s U H R I h
 refine wpAny_Call_Name_kw (cG I hg hm ?_ KC)
 refine PySem.W.callWith_K (h₀:=X.base) I.ok.mod.kin hk (b5 (ha pos pins s U H _ (I.wish _) h) λus s1 ⟨vs,H1,I1,r,q⟩=>⟨I1.unwish.kIn,?_⟩) he KL
 exact mo F hr hb hd I1.unwish r q
theorem yE {g:Value}(hg:Gl X x) (hm:X.mg x=some (.ref f)) (hk:PySem.W.keepIn X.K (.ref f)=true) (ha:PRA X (e::es) r) (KC:(x==("__debug__":Str))=false:=by decide)
  (he:starEach (e::es) X.env=(false,eval e X.env)::starEach es X.env:=by rfl) (KL:(backTo pos (starEach es X.env)).any (·.1)=false:=by rfl):PRE X (.Call (.Name x p) (e::es) [] pos) r:=by
 intro pins s U H R I h
 refine wpAny_Call_Name_kw (cG I hg hm ?_ KC)
 exact PySem.W.callWith_K (h₀:=X.base) I.ok.mod.kin hk (wpAny_mono (ha pos pins s U H R I h) (λ_ _ z=>z.elim) λ_ _ z=>z) he KL
def nM (G:Addr->Prop) (m:Str) (sp:Sp) (dvs:List V) (ta:TE) (t:TA):TR:=λU H R=>ta U H λx H1=>∃ a C dx fs,x=.ref a/\H1 a=some (.ins C dx fs)/\G C/\fs.lookup m=none/\t U H1 λvs H2=>sp (x::(vs++dvs)) H2 (λ_ _=>False) (toE R U)
theorem qg {pl:Sem Bool}(he:PE X.nox o ta) (hG:∀ C,G C->Cls X.K C/\Meth X.K C m f) (F:FnOk X.prog X.w X.K X.mg X.base (CX1 X.prog X.w) k f fd ps sp) (hr:Room k X.A) (hb:ap X.K fd ps ds) (hd:ag dvs ds) (ha:PA X.nox (e::es) t)
  (Nb:starEach (e::es) X.env=(false,eval e X.env)::starEach es X.env:=by rfl) (KL:(backTo pos (starEach es X.env)).any (·.1)=false:=by rfl)
  (ht:eval (.Call (.Attribute o m apos) (e::es) [] pos) X.env=(do
   let ov <- eval o X.env
   standAt apos.atName
   let (f,first) <- holding [ov] (getMethod ov m pl)
   callWith pos f first (backTo pos (starEach (e::es) X.env)) (backToKw pos (keywordEach [] X.env))):=by rfl) :
  PRE X (.Call (.Attribute o m apos) (e::es) [] pos) (nM G m sp dvs ta t):=by
 intro pins s U H R I h
 refine PySem.W.methodCall_KW (pl:=pl) (b5 (he pins s U H _ (I.wish _) h) λu s1 ⟨x,H1,I1,rx,a,C,dx,fs,ex,ea,g,l,q⟩=>?_) ht
 subst ex
 obtain rfl:u=Value.ref a:=rx
 obtain ⟨c,hm⟩:=hG C g
 refine fR I1.unwish ea c hm l ?_
 refine PySem.W.callWith_K (first:=[.ref a]) (h₀:=X.base) I.ok.mod.kin hm.kp (b5 (ha pos pins s1 U H1 _ I1 q) λus s2 ⟨vs,H2,I2,r,q2⟩=>⟨I2.unwish.kIn,?_⟩) Nb KL
 exact mo (us:=.ref a::us) (vs:=.ref a::vs) F hr hb hd I2.unwish (.cons rfl r) q2
theorem yF {pl:Sem Bool}(he:PE X.nox o ta) (hG:∀ C,G C->Cls X.K C/\Meth X.K C m f) (F:FnOk X.prog X.w X.K X.mg X.base (CX1 X.prog X.w) k f fd ps sp) (hr:Room k X.A) (hb:ap X.K fd ps ds) (hd:ag dvs ds)
  (ht:eval (.Call (.Attribute o m apos) [] [] pos) X.env=(do
   let ov <- eval o X.env
   standAt apos.atName
   let (f,first) <- holding [ov] (getMethod ov m pl)
   callWith pos f first (backTo pos (starEach [] X.env)) (backToKw pos (keywordEach [] X.env))):=by rfl) :
  PRE X (.Call (.Attribute o m apos) [] [] pos) (nM G m sp dvs ta dn):=by
 intro pins s U H R I h
 refine PySem.W.methodCall_KW (pl:=pl) (b5 (he pins s U H _ (I.wish _) h) λu s1 ⟨x,H1,I1,rx,a,C,dx,fs,ex,ea,g,l,q⟩=>?_) ht
 subst ex
 obtain rfl:u=Value.ref a:=rx
 obtain ⟨c,hm⟩:=hG C g
 refine fR I1.unwish ea c hm l ?_
 exact PySem.W.callWith_K0 (first:=[.ref a]) I1.unwish.kIn hm.kp (mo (us:=[.ref a]) (vs:=[.ref a]) F hr hb hd I1.unwish (.cons rfl .nil) q)
end
section
variable {X:Cx}{pins:List (Addr×Obj)}{U:St}{H:Hp}{s:Shared}
theorem Inv.past {h':Heap}{ch:List Addr}(I:Inv X pins U H s){lo:Nat}(lw:Low X pins lo) (Na:∀ b∈ch,lo<=b/\H b=none/\b∉frs X.stack/\∃ o vs,s.heap.get? b=some o/\o.data=.fields vs) (p:Xc.Past (frs X.stack) ch s.heap h') :
  Inv X pins U H { s with heap:=h' }:=by
 have nfr:∀ b u,H b=some u->b∉frs X.stack:=λb u e z=>by rw [I.stkFree b z] at e;cases e
 have QF:∀ b u,H b=some u->b∉ch:=λb u e z=>by rw [(Na b z).2.1] at e;cases e
 have kp:∀ b u o,H b=some u->s.heap.get? b=some o->h'.get? b=some o:=λb u o e g=>p.keep b o g (QF b u e) (nfr b u e)
 refine I.call (g':=s.gens) (d':=s.drawn) (t':=s.toks) (ch:=ch) ⟨λb o e _ nf nc=>p.keep b o e nc nf,λb o e _ hf _=>p.slot b o e hf,λb o _ n _=>n,λb o e _=>p.there b o e,λ_ _ e=>e,λ_ _ _ e=>e,λb ps e=>⟨#[],by rw [Array.append_empty];exact e⟩⟩ ?_ I.bare λb hb=>?_
 ·intro b u e
  refine (I.hok b u e).stay (λc v hc g=>?_) (λ_ z=>z) λ_ _ z=>z
  rcases hc with rfl|hc
  ·exact kp c u v e g
  ·exact kp c _ v hc g
 ·have hl:=(Na b hb).1
  exact ⟨.inr (Nat.le_trans lw.s0 hl),λz=>absurd (Nat.lt_of_lt_of_le lw.loc hl) (by rw [z];exact Nat.lt_irrefl _),λx c e z=>absurd (Nat.lt_of_lt_of_le (lw.cell x c e) hl) (by rw [z];exact Nat.lt_irrefl _),λq hq z=>absurd (Nat.lt_of_lt_of_le (lw.pin q hq) hl) (by rw [z];exact Nat.lt_irrefl _)⟩
theorem mr {Q:Unit->Shared->Prop}{E:Value->Shared->Prop}{a C:Addr}{dct fo:Option Addr}{lo:Nat}(I:Inv X pins U H s) (st:X.stack=X.env::X.outer/\X.env.frame=some X.env.locals) (lw:Low X pins lo) (O9:lo<=s.heap.objs.size) (x:Xc.Exc s.heap lo (λb=>H b=none) a (.ref C) dct)
  (k:∀ s',Inv X pins U H s'->s'.os=s.os->s'.gens=s.gens->Xc.Exc s'.heap lo (λb=>H b=none) a (.ref C) dct->Q () s'):wpAny (model X.prog X.w) X.A (noteFrame (.ref a) X.env) (λ_ s'=>Xc.Tb s'.heap a/\wpAny (model X.prog X.w) X.A (setFlight (.ref a) fo) Q E s') E s:=by
 have fs:s.heap.FunFrames X.base (X.env::X.outer):=by rw [<- st.1];exact I.stack
 refine Xc.note_it (base:=X.base) (L:=X.env.locals) (by rw [I.ok.frames,st.1]) fs st.2 (λb hb=>I.hok.fresh hb) O9 x λh' ch Na p x'=>?_
 have e:(X.env::X.outer).filterMap (·.frame)=frs X.stack:=by rw [st.1];rfl
 rw [e] at Na p
 exact k _ (I.past lw Na p) rfl rfl x'
end
section
variable {P:Program}{w:World}{K:PySem.W.Frag}{mg:Str->Option Value}{base:Heap}
theorem Ac {k:Nat}{f:Addr}{name qual:Str}{params:Arguments}{body:List Stmt}{scope:Scope}{dV kV doc pm cdv ct oc:Value}{an od:Option Addr}{osl:Array (Option Value)}{N ps:List Str}{sp:Sp}
  (lk:K.lookup f=some ⟨oc,od,.func (PySem.W.fnOf name qual params body scope dV kV doc pm an cdv ct),osl⟩) (Oh:PySem.W.codeIn K cdv qual=true) (S:FnScope N ps scope) (len:∀ vs H Q E,sp vs H Q E->vs.length=ps.length)
  (Lg:∀ (A:Around) (outer:List Env) (s:Shared) (H:Hp) (vs:List V) (E:XK) (Q:VK),Room k (A.deeper (envOfC qual scope s.heap.objs.size f cdv))->sp vs H Q E ->
   ∃ r,PRs (cK CX0 P w K mg base N qual scope f cdv A outer s H E) body r/\r (b7 N vs) H λC dct _ H'=>E (.ref C) dct H') :
  FnOk P w K mg base (CX1 P w) (k+1) f (PySem.W.fnOf name qual params body scope dV kV doc pm an cdv ct) ps sp:=by
 refine ny lk Oh S len λA outer s H vs Q E hr OU=>?_
 obtain ⟨r,hr1,LZ⟩:=Lg A outer s H vs E Q hr OU
 refine ⟨λ_ U H'=>U=b7 N vs/\H'=H,?_,rfl,rfl⟩
 rintro pins s1 U H1 D I ⟨rfl,rfl⟩
 have I0:Inv (cK CX0 P w K mg base N qual scope f cdv A outer s H1 E) pins (b7 N vs) H1 s1:=⟨⟨I.ok.mod,I.ok.kind,I.ok.glob,I.ok.blt,I.ok.above,I.ok.inj,I.ok.has,I.ok.cab,I.ok.hd,I.ok.frames,I.ok.stk,I.ok.exf,I.ok.bs,I.ok.bsz,I.ok.noex,I.ok.exfs,I.ok.funs,I.ok.frf⟩,I.os,I.bare,I.base,I.loc,I.cell,I.free,I.freeC,I.pin,I.hok,I.len⟩
 refine wpAny_mono (hr1 pins s1 _ _ _ I0 LZ) (λ_ _ z=>z.elim) λe s2 zz104=>?_
 obtain ⟨a,C,dct,J7,H',lo,ee,J,lw,x,q⟩:=zz104
 subst ee
 show wpAny (model P w) (A.deeper _) (leaving _ (.ref a)) _ _ s2
 unfold leaving
 have O9:lo<=s2.heap.objs.size:=Nat.le_of_lt (Nat.lt_of_le_of_lt (by obtain ⟨_,_,_,_,_,_,_,_,l,_⟩:=x;exact l) (by obtain ⟨oe,_,_,ge,_⟩:=x;exact Heap.lt_size ge))
 refine wpAny_bind (wpAny_mono (mr (fo:=none) J ⟨rfl,rfl⟩ lw O9 x λs3 J3 _ _ x3=>?_) (λ_ _ z=>z.2) λ_ _ z=>z)
 exact ⟨a,C,dct,H',rfl,J3.os,J3.bare,J3.base,J3.hok,x3.mono lw.s0,q⟩
end
end L2
namespace Xc
open PySem
section
variable {M:Model}{A:Around}{E:Value->Shared->Prop}{s:Shared}
theorem flight_it {e:Addr}{lo:Nat}{N:Addr->Prop}{cls:Value}{dct:Option Addr}{Q:Unit->Shared->Prop}(x:Exc s.heap lo N e cls dct)
  (k:∀ h' ch,(∀ b∈ch,lo<=b/\N b/\∃ o vs,s.heap.get? b=some o/\o.data=.fields vs)->Past [] ch s.heap h'->Exc h' lo N e cls dct->Q () { s with heap:=h' }):wpAny M A (setFlight (.ref e) none) Q E s:=by
 have x0:=x
 obtain ⟨oe,vs,hd,ge,hc,hdc,de,e1,le,ne,hh⟩:=x
 unfold setFlight
 refine wpAny_bind (wpAny_field ge de e1.1 ?_)
 rcases hh with rfl|⟨T,oT,ts,rfl,lT,nT,neT,gT,dT,e3⟩
 ·rw [if_neg (by decide)]
  exact wpAny_pure (k s.heap [] (λ_ z=>(nomatch z)) ⟨λb o hb _ _=>hb,λb o hb z=>(nomatch z),λb o hb=>⟨o,hb⟩⟩ x0)
 ·rw [if_pos (show (Value.ref T != Value.none)=true from by simp)]
  have s3:=e3
  refine wpAny_setField gT dT s3 (k _ [T] (λb hb=>by rw [List.mem_singleton.mp hb];exact ⟨lT,nT,_,_,gT,dT⟩) ⟨λb o hb nb _=>?_,λb o hb z=>(nomatch z),λb o hb=>?_⟩ ?_)
  ·rw [Heap.get?_update_other _ _ (λz=>nb (List.mem_singleton.mpr z.symm))];exact hb
  ·by_cases z:b=T
   ·subst z
    exact ⟨_,Heap.get?_update_self _ gT (Obj.isFreed_of_fields (Obj.data_mapFields dT _))⟩
   ·exact ⟨o,by rw [Heap.get?_update_other _ _ (Ne.symm z)];exact hb⟩
  ·refine ⟨oe,vs,.ref T,(Heap.get?_update_other _ _ neT).trans ge,hc,hdc,de,e1,le,ne,.inr ⟨T,_,_,rfl,lT,nT,neT,Heap.get?_update_self _ gT (Obj.isFreed_of_fields (Obj.data_mapFields dT _)),Obj.data_mapFields dT _,?_⟩⟩
   rw [Array.size_setIfInBounds];exact s3
end
end Xc
namespace L2
open PySem PySem.Spec PyProof.Rows
noncomputable abbrev Cx.inx (X:Cx) (a:Addr):Cx:={ X with A:=X.A.mark (some (.ref a)),calm:=false,xe:=λ_ _=>False }
theorem Cx.Ok.inx {X:Cx}(ok:X.Ok) (a:Addr):(X.inx a).Ok :=
 ⟨ok.mod,ok.kind,ok.glob,ok.blt,ok.above,ok.inj,ok.has,ok.cab,λz=>(nomatch z),ok.frames,ok.stk,ok.exf,ok.bs,ok.bsz,ok.noex,ok.exfs,ok.funs,ok.frf⟩
section
variable {X:Cx}{pins:List (Addr×Obj)}{U:St}{H:Hp}{s:Shared}{a:Addr}
theorem Inv.inx (I:Inv X pins U H s) (a:Addr):Inv (X.inx a) pins U H s:=⟨I.ok.inx a,I.os,I.bare,I.base,I.loc,I.cell,I.free,I.freeC,I.pin,I.hok,I.len⟩
theorem Inv.outx (I:Inv (X.inx a) pins U H s) (ok:X.Ok):Inv X pins U H s:=⟨ok,I.os,I.bare,I.base,I.loc,I.cell,I.free,I.freeC,I.pin,I.hok,I.len⟩
theorem SP.outx {D:Ends}{f:Flow}{s':Shared}(ok:X.Ok) (h:SP (X.inx a) pins D f s'):SP X pins D f s':=by
 cases f with
 |next=>obtain ⟨J7,H',I,q⟩:=h;exact ⟨J7,H',I.outx ok,q⟩
 |brk=>obtain ⟨J7,H',I,q⟩:=h;exact ⟨J7,H',I.outx ok,q⟩
 |cont=>obtain ⟨J7,H',I,q⟩:=h;exact ⟨J7,H',I.outx ok,q⟩
 |ret u=>obtain ⟨v,J7,H',I,r,q⟩:=h;exact ⟨v,J7,H',I.outx ok,r,q⟩
theorem Ae {fr ch:List Addr}{h h':Heap}(p:Xc.Past [] ch h h') (hf:∀ b∈fr,b∉ch):Xc.Past fr ch h h' :=
 ⟨λb o hb nc _=>p.keep b o hb nc (by simp),λb o hb hfr=>⟨o.slots,p.keep b o hb (hf b hfr) (by simp)⟩,p.there⟩
theorem yG {A:Around}{Q:Unit->Shared->Prop}{E:Value->Shared->Prop}{C:Addr}{dct:Option Addr}{lo:Nat}(I:Inv X pins U H s) (lw:Low X pins lo) (x:Xc.Exc s.heap lo (λb=>H b=none) a (.ref C) dct)
  (k:∀ s',Inv X pins U H s'->Xc.Exc s'.heap lo (λb=>H b=none) a (.ref C) dct->Q () s'):wpAny (model X.prog X.w) A (setFlight (.ref a) none) Q E s:=by
 refine Xc.flight_it x λh' ch Na p x'=>?_
 have hf:∀ b∈frs X.stack,b∉ch:=λb hb hc=>by
  obtain ⟨_,o',g',nf⟩:=I.stack.mem hb
  obtain ⟨_,_,o,vs,g,d⟩:=Na b hc
  rw [g] at g';cases g'
  exact nf vs d
 exact k _ (I.past lw (λb hb=>⟨(Na b hb).1,(Na b hb).2.1,λz=>hf b z hb,(Na b hb).2.2⟩) (Ae p hf)) x'
end
section
variable {X:Cx}
theorem passes {pins:List (Addr×Obj)}{R:XS}(st:X.stack=X.env::X.outer/\X.env.frame=some X.env.locals):PassesOwn (model X.prog X.w) X.A X.env (XP X pins R):=by
 rintro e s1 ⟨a,C,dct,J7,H',lo,rfl,J,lw,x,q⟩
 have O9:lo<=s1.heap.objs.size:=Nat.le_of_lt (Nat.lt_of_le_of_lt (by obtain ⟨_,_,_,_,_,_,_,_,l,_⟩:=x;exact l) (by obtain ⟨oe,_,_,ge,_⟩:=x;exact Heap.lt_size ge))
 unfold notedBy
 refine wpAny_mono (mr (fo:=X.env.frame) (Q:=λ_ s'=>XP X pins R (.ref a) s') (E:=λ_ _=>False) J st lw O9 x λs2 J2 _ _ x2=>⟨a,C,dct,J7,H',lo,rfl,J2,lw,x2,q⟩) (λ_ s2 z=>?_) λ_ _ z=>z.elim
 obtain ⟨⟨oe,vs,T,ge,de,e1⟩,w⟩:=z
 unfold cameBackBy
 refine wpAny_bind (wpAny_field ge de e1 ?_)
 rw [if_neg (by simp)]
 exact wpAny_mono w (λ_ _ z=>z) λ_ _ z=>z.elim
variable {tg:Expr}
def vo (wi:TI) (g:TG) (tb:TS) (r:TR):TR:=λU H R=>wi U H λJ H1=>∃ W:Nat->Nat->St->Hp->Prop,(∃ m,W 0 m U H1)/\∀ i m U H,W i m U H ->
 (J.go i H/\∃ N:St->Hp->Prop,(∀ J7 H',N J7 H'->∃ m',m'<m/\W (i+1) m' J7 H')/\∀ x H',J.yld i H x H'->g x U H' λKO H2=>r KO H2 R\/tb { nx:=N,rt:=λ_ _=>False,ct:=N,bk:=λ_ _=>False } KO H2)
theorem XP.unpinned {pins pl:List (Addr×Obj)}{R:XS}{e:Value}{s:Shared}(h:XP X (pins++pl) R e s):XP X pins R e s:=by
 obtain ⟨a,C,dct,J7,H',lo,e,J,lw,x,q⟩:=h
 refine ⟨a,C,dct,J7,H',lo,e,J.unpinned,⟨lw.s0,lw.loc,lw.cell,λp hp=>lw.pin p ?_⟩,x,q⟩
 rw [<- List.append_assoc]
 exact List.mem_append_left _ hp
theorem E7 {iter:Expr}{body:List Stmt}{wi:TI}{g:TG}{tb:TS}{r:TR}{pos:Pos}(st:X.stack=X.env::X.outer/\X.env.frame=some X.env.locals) (hc:X.calm=true) (hi:PI X.nox tg iter wi) (hg:PG X.nox tg g) (hb:PSs X.nox body tb) (hr:PRs X body r)
  (hs:∀ x,foldedSetIterable iter X.env x=pure x:=by intro _;rfl):PR X (.For tg iter body [] pos) (vo wi g tb r):=by
 intro pins s U H R I h
 have hp:=passes (pins:=pins) (R:=R) st
 refine wpAny_For (b5 (hi pins s U H _ (I.wish _) h) λv s1 h1=>b5 h1 λitv s2 h2=>?_) hs
 obtain ⟨it,fp,tn,J,H2,e,I2,T,QK,f2,W,⟨m0,w0⟩,turn⟩:=h2
 subst e
 have stat:∀ {H':Hp},(∀ b∈fp,H' b=none)->∀ b∈fp,bK X.nox pins H' b:=λhn b hb=>⟨hn b hb,(f2 b hb).2⟩
 refine codeAny_forLoop_any (λn s'=>∃ i J7 H',Inv X.nox pins J7 H' s'/\tn i s'.heap/\(∀ b∈fp,H' b=none)/\W i n J7 H') ?_ m0 ⟨0,U,H2,I2,QK,λb hb=>(f2 b hb).1,w0⟩
 rintro n s3 ⟨i,OT,H3,I3,QM,QN,w3⟩
 obtain ⟨go,N,hN,step⟩:=turn i n OT H3 w3
 refine wpAny_passesOwn hp (thn (T.item X.nox rfl rfl rfl hc i pins s3 OT H3 (XP X pins R) I3 (stat QN) QM go) λrr s4 zz105=>?_)
 obtain ⟨u,hrr,h4⟩:=zz105
 subst hrr
 refine wpAny_passesOwn hp (thn h4 λ_ s5 zz106=>?_)
 obtain ⟨x,H5,I5,r5,y5,Pd,fr5⟩:=zz106
 have I5':=I5.pinned (stat fr5) (T.obj _ _ Pd)
 refine wpAny_passesOwn hp (b5 (hg _ s5 OT H5 x u _ I5' r5 (step x H5 y5)) λ_ s6 zz107=>?_)
 obtain ⟨O7,H6,I6,q6⟩:=zz107
 rcases q6 with q6|q6
 ·exact wpAny_passesOwn hp (wpAny_mono (hr _ s6 O7 H6 R I6.unwish q6) (λ_ _ z=>z.elim) λ_ _ z=>z.unpinned)
 ·refine wpAny_passesOwn hp (b5 (hb _ s6 O7 H6 _ I6 q6) λf s7 q7=>?_)
  have again:∀ {Nd:St}{H7:Hp},Inv X.nox (pins++eU fp s5.heap) Nd H7 s7->N Nd H7->∃ m,m<n/\∃ i J7 H',Inv X.nox pins J7 H' s7/\tn i s7.heap/\(∀ b∈fp,H' b=none)/\W i m J7 H':=fun {Nd H7} I7 n7=>by
   obtain ⟨m',hm,w7⟩:=hN Nd H7 n7
   refine ⟨m',hm,i+1,Nd,H7,I7.unpinned,T.keep _ _ _ Pd λb hb o e=>(I7.pin (b,o) (List.mem_append_right _ (List.mem_append_right _ (eI hb e)))).1,λb hb=>?_,w7⟩
   obtain ⟨o,e,d⟩:=T.obj _ _ Pd b hb
   exact (I7.pin (b,o) (List.mem_append_right _ (List.mem_append_right _ (eI hb e)))).2.1
  cases f with
  |next=>obtain ⟨Nd,H7,I7,n7⟩:=q7;exact again I7 n7
  |cont=>obtain ⟨Nd,H7,I7,n7⟩:=q7;exact again I7 n7
  |brk=>obtain ⟨Nd,H7,I7,q7⟩:=q7;exact q7.elim
  |ret v=>obtain ⟨x7,Nd,H7,I7,r7,q7⟩:=q7;exact q7.elim
end
end L2
namespace PySem
section
variable {prog:Program}{w:World}{A:Around}{E:Value->Shared->Prop}{h:Heap}{g:Array GenState}{d:Drawn}{t:Nat}{os:OsState}
variable {nm q:Str}{C N:Addr}{bs bm P0:List Value}{hdct:Bool}{sn:List Str}{sub:List Value}{ab:Bool}{col:Option Bool}{dd:Option Addr}{k0 k1 k2 k3 k5:Option Value}{B newId initId:String}
theorem v1 (F:ExcBaseFacts B newId initId P0) (T:OwnTail h P0 bm){mN:Str->Option Value}{rest:List Value}{Q:Fin->Shared->Prop}
  (hC:h.get? C=some (excClassObj nm q C N bs bm hdct sn sub ab col dd k0 k1 k2 k3 k5 newId)) (hn:h.Ns N mN) (hni:mN "__init__"=none)
  (hq:∀ h' e,Heap.MadeExcOf h h' e (.ref C) rest->h.objs.size<=e->Q (.done (.ret (.ref e))) ⟨h',g,d,t,os⟩) (hrest:rest.length<=sizeLine:=by size_fits) :
  wpAny (model prog w) A (Builtin.«type.__call__» ⟨.ref C::rest,[]⟩) Q E ⟨h,g,d,t,os⟩:=by
 repeat (first|with_reducible refine wpAny_loadPart_at hC ?_|with_reducible refine wpAny_madeBy_exc hC ?_|wp_step)
 refine codeAny_call_builtin_code (Code.quiet_builtin _ F.quiet) (wpAny_check_new_subT F T hC ?_)
 refine codeAny_exc_new_subT F T hC ?_ hrest
 show wpAny _ _ _ _ _ _
 have NM:=Heap.get?_push_of_some { cls:=.ref C,data:=.fields #[.ref h.objs.size,.none,.none,.none,.bool false,.none] }
  (Heap.get?_push_of_some { cls:=.type "tuple",data:=.seq rest.toArray } hC)
 have Pr:((h.push { cls:=.type "tuple",data:=.seq rest.toArray }).push { cls:=.ref C,data:=.fields #[.ref h.objs.size,.none,.none,.none,.bool false,.none] }).Ns N mN :=
  let ⟨o,es,ep,e,r⟩:=hn;⟨o,es,ep,Heap.get?_push_of_some _ (Heap.get?_push_of_some _ e),r⟩
 have O0:((h.push { cls:=.type "tuple",data:=.seq rest.toArray }).push
   { cls:=.ref C,data:=.fields #[.ref h.objs.size,.none,.none,.none,.bool false,.none] }).get? (h.objs.size+1)=some
   { cls:=.ref C,data:=.fields #[.ref h.objs.size,.none,.none,.none,.bool false,.none] }:=by heap_get
 have hcC:(Value.ref C::bm).contains (.ref C)=true:=by simp
 have Qe:=T.keeps (h':=(h.push { cls:=.type "tuple",data:=.seq rest.toArray }).push { cls:=.ref C,data:=.fields #[.ref h.objs.size,.none,.none,.none,.bool false,.none] })
  λb o e=>Heap.get?_push_of_some _ (Heap.get?_push_of_some _ e)
 unfold isInstance
 repeat (first|with_reducible refine wpAny_loadPart_at O0 ?_|(with_reducible refine wpAny_isSubtype_exc NM ?_;rw [hcC])|wp_step)
 show wpAny _ _ (typeLookup (.ref C) _) _ _ _
 refine wpAny_typeLookup_tail NM Pr Qe F.mroIs F.init.lookup ?_
 rw [hni]
 refine wpAny_holding (wpAny_bind (wpAny_of_eq (F.init.bind _) ?_))
 refine wpAny_bind (wpAny_call (codeAny_call_builtin F.init.plain F.initEntry (wpAny_check_init_subT F Qe NM O0 rfl ?_)))
 wp_walk
 refine hq _ _ ⟨λb o hb=>?_,Heap.get?_none_of_le (Nat.le_succ _),h.objs.size+2,?_,Heap.get?_none_of_le (by omega),?_⟩ (Nat.le_succ _)
 ·rw [Heap.get?_update_other _ _ (Nat.ne_of_gt (Nat.lt_succ_of_lt (Heap.lt_size hb)))]
  exact Heap.get?_push_of_some _ (Heap.get?_push_of_some _ (Heap.get?_push_of_some _ hb))
 ·rw [Heap.get?_update_self _ (Heap.get?_push_of_some _ O0) rfl]
  simp only [Heap.size_push]
  rfl
 ·rw [Heap.get?_update_other _ _ (show h.objs.size+1≠h.objs.size+2 by omega)]
  exact Heap.get?_push_at (by simp only [Heap.size_push]) rfl
theorem yH (F:ExcBaseFacts B newId initId P0) (T:OwnTail h P0 bm){mN:Str->Option Value}{rest:List Value}{Q:Value->Shared->Prop}
  (hC:h.get? C=some (excClassObj nm q C N bs bm hdct sn sub ab col dd k0 k1 k2 k3 k5 newId)) (hn:h.Ns N mN) (hni:mN "__init__"=none)
  (hq:∀ h' e,Heap.MadeExcOf h h' e (.ref C) rest->h.objs.size<=e->Q (.ref e) ⟨h',g,d,t,os⟩) (hrest:rest.length<=sizeLine:=by size_fits) :
  wpAny (model prog w) A (call (.ref C) rest) Q E ⟨h,g,d,t,os⟩:=by
 have f1:=tc_lookup
 have f2:=tc_bind (.ref C)
 have hT:(⟨h,g,d,t,os⟩:Shared).TypeIs (.ref C) "type":=⟨_,hC,rfl⟩
 refine wpAny_call (codeAny_of_tree ?_)
 show wpAny _ _ (callAny (.ref C) _) _ _ _
 repeat (any_goals (first|assumption|with_reducible refine wpAny_loadPart_at hC ?_|wp_step))
 refine ⟨rfl,?_⟩
 refine codeAny_call_builtin_at (Code.quiet_builtin _ (by decide +kernel)) entry_typeCall (wpAny_check_type_call_sub hC (v1 (hrest:=hrest) F T hC hn hni λh' e hm hz=>?_))
 exact hq h' e hm hz
theorem vV (F:ExcBaseFacts B newId initId P0) (T:OwnTail h P0 bm){mN:Str->Option Value}{rest:List Value}{fI:Addr}{oI:Obj}{Q:Fin->Shared->Prop}
  (hC:h.get? C=some (excClassObj nm q C N bs bm hdct sn sub ab col dd k0 k1 k2 k3 k5 newId)) (hn:h.Ns N mN) (hi:mN "__init__"=some (.ref fI))
  (hfI:h.get? fI=some oI) (Qf:oI.cls=.type "function")
  (hq:∀ h' e,Heap.MadeExcOf h h' e (.ref C) rest->h.objs.size<=e ->
   wpAny (model prog w) A (call (.ref fI) (.ref e::rest)) (λr s'=>r=.none/\Q (.done (.ret (.ref e))) s') E ⟨h',g,d,t,os⟩) (hrest:rest.length<=sizeLine:=by size_fits) :
  wpAny (model prog w) A (Builtin.«type.__call__» ⟨.ref C::rest,[]⟩) Q E ⟨h,g,d,t,os⟩:=by
 repeat (first|with_reducible refine wpAny_loadPart_at hC ?_|with_reducible refine wpAny_madeBy_exc hC ?_|wp_step)
 refine codeAny_call_builtin_code (Code.quiet_builtin _ F.quiet) (wpAny_check_new_subT F T hC ?_)
 refine codeAny_exc_new_subT F T hC ?_ hrest
 show wpAny _ _ _ _ _ _
 have NM:=Heap.get?_push_of_some { cls:=.ref C,data:=.fields #[.ref h.objs.size,.none,.none,.none,.bool false,.none] }
  (Heap.get?_push_of_some { cls:=.type "tuple",data:=.seq rest.toArray } hC)
 have Q6:=Heap.get?_push_of_some { cls:=.ref C,data:=.fields #[.ref h.objs.size,.none,.none,.none,.bool false,.none] }
  (Heap.get?_push_of_some { cls:=.type "tuple",data:=.seq rest.toArray } hfI)
 have Pr:((h.push { cls:=.type "tuple",data:=.seq rest.toArray }).push { cls:=.ref C,data:=.fields #[.ref h.objs.size,.none,.none,.none,.bool false,.none] }).Ns N mN :=
  let ⟨o,es,ep,e,r⟩:=hn;⟨o,es,ep,Heap.get?_push_of_some _ (Heap.get?_push_of_some _ e),r⟩
 have O0:((h.push { cls:=.type "tuple",data:=.seq rest.toArray }).push
   { cls:=.ref C,data:=.fields #[.ref h.objs.size,.none,.none,.none,.bool false,.none] }).get? (h.objs.size+1)=some
   { cls:=.ref C,data:=.fields #[.ref h.objs.size,.none,.none,.none,.bool false,.none] }:=by heap_get
 have hcC:(Value.ref C::bm).contains (.ref C)=true:=by simp
 have Qe:=T.keeps (h':=(h.push { cls:=.type "tuple",data:=.seq rest.toArray }).push { cls:=.ref C,data:=.fields #[.ref h.objs.size,.none,.none,.none,.bool false,.none] })
  λb o e=>Heap.get?_push_of_some _ (Heap.get?_push_of_some _ e)
 unfold isInstance
 repeat (first|with_reducible refine wpAny_loadPart_at O0 ?_|(with_reducible refine wpAny_isSubtype_exc NM ?_;rw [hcC])|wp_step)
 show wpAny _ _ (typeLookup (.ref C) _) _ _ _
 refine wpAny_typeLookup_tail NM Pr Qe F.mroIs F.init.lookup ?_
 rw [hi]
 refine wpAny_holding (wpAny_bind ?_)
 unfold bindSpecial
 refine wpAny_bind (wpAny_typeOf (T:="function") ⟨_,Q6,Qf⟩ ?_)
 rw [if_pos (by decide)]
 refine wpAny_pure (wpAny_bind (wpAny_mono (hq _ (h.objs.size+1) ⟨λb o hb=>Heap.get?_push_of_some _ (Heap.get?_push_of_some _ hb),Heap.get?_none_of_le (Nat.le_succ _),h.objs.size,O0,Heap.get?_none_of_le (Nat.le_refl _),?_⟩ (Nat.le_succ _)) (λr s' hr=>?_) λ_ _ x=>x))
 ·exact Heap.get?_push_of_some _ (Heap.get?_push_at rfl rfl)
 ·obtain ⟨rfl,hQ⟩:=hr
  wp_walk
  exact hQ
theorem xK (F:ExcBaseFacts B newId initId P0) (T:OwnTail h P0 bm){mN:Str->Option Value}{rest:List Value}{fI:Addr}{oI:Obj}{Q:Value->Shared->Prop}
  (hC:h.get? C=some (excClassObj nm q C N bs bm hdct sn sub ab col dd k0 k1 k2 k3 k5 newId)) (hn:h.Ns N mN) (hi:mN "__init__"=some (.ref fI))
  (hfI:h.get? fI=some oI) (Qf:oI.cls=.type "function")
  (hq:∀ h' e,Heap.MadeExcOf h h' e (.ref C) rest->h.objs.size<=e ->
   wpAny (model prog w) (A.under (.builtin "type.__call__" ⟨.ref C::rest,[]⟩)) (call (.ref fI) (.ref e::rest)) (λr s'=>r=.none/\Q (.ref e) s') E ⟨h',g,d,t,os⟩) (hrest:rest.length<=sizeLine:=by size_fits) :
  wpAny (model prog w) A (call (.ref C) rest) Q E ⟨h,g,d,t,os⟩:=by
 have f1:=tc_lookup
 have f2:=tc_bind (.ref C)
 have hT:(⟨h,g,d,t,os⟩:Shared).TypeIs (.ref C) "type":=⟨_,hC,rfl⟩
 refine wpAny_call (codeAny_of_tree ?_)
 show wpAny _ _ (callAny (.ref C) _) _ _ _
 repeat (any_goals (first|assumption|with_reducible refine wpAny_loadPart_at hC ?_|wp_step))
 refine ⟨rfl,?_⟩
 refine codeAny_call_builtin_at (Code.quiet_builtin _ (by decide +kernel)) entry_typeCall (wpAny_check_type_call_sub hC (vV (hrest:=hrest) F T hC hn hi hfI Qf λh' e hm hz=>?_))
 exact hq h' e hm hz
theorem v2 (F:ExcBaseFacts B newId initId P0) (T:OwnTail h P0 bm){rest:List Value}{e t0:Addr}{Q:Value->Shared->Prop}
  (hC:h.get? C=some (excClassObj nm q C N bs bm hdct sn sub ab col dd k0 k1 k2 k3 k5 newId))
  (he:h.get? e=some { cls:=.ref C,data:=.fields #[.ref t0,.none,.none,.none,.bool false,.none] })
  (hq:∀ h' t1,(∀ b o,b≠e->h.get? b=some o->h'.get? b=some o)->h'.get? e=some { cls:=.ref C,data:=.fields #[.ref t1,.none,.none,.none,.bool false,.none] }->h.objs.size<=h'.objs.size->Q .none ⟨h',g,d,t,os⟩)
  (hrest:rest.length<=sizeLine:=by size_fits) :
  wpAny (model prog w) A (call (.builtin initId) (.ref e::rest)) Q E ⟨h,g,d,t,os⟩:=by
 refine wpAny_call (codeAny_call_builtin F.init.plain F.initEntry (wpAny_check_init_subT F T hC he rfl ?_))
 wp_walk
 refine hq _ h.objs.size (λb o hb e=>?_) ?_ ?_
 ·rw [Heap.get?_update_other _ _ (Ne.symm hb)]
  exact Heap.get?_push_of_some _ e
 ·rw [Heap.get?_update_self _ (Heap.get?_push_of_some _ he) rfl]
  rfl
 ·rw [Heap.size_after_update,Heap.size_push];omega
end
end PySem
namespace L2
open PySem PySem.Spec PyProof.Rows
theorem H0 {K:PySem.W.Frag}{h:Heap}{N:Addr}{mg:Str->Option Value}{n:Str}{r:Option Value}(X:K.In h) (G:h.Ns N mg) (e:PySem.W.nsIn K N n=some r):mg n=r:=by
 obtain ⟨o,es,ep,ho,hd,_,hf⟩:=G
 unfold PySem.W.nsIn at e
 split at e
 ·rename_i c d es' n' sl q
  have:=X _ _ q
  rw [ho] at this
  cases this
  cases hd
  rw [<- hf]
  unfold nsFind findBy
  rw [<- Array.find?_toList]
  split at e
  ·rename_i y he;cases e;rw [he];rfl
  ·rename_i he
   split at e
   ·cases e
   ·cases e;rw [he];rfl
 ·cases e
theorem fU {K:PySem.W.Frag}{h:Heap}{C:Addr}{r:Option Value}(X:K.In h) (q:aV K C r=true) :
  ∃ bm N nm qn bs hdct sn sub ab col dd k0 k1 k2 k3 k5 mN,h.get? C=some (excClassObj nm qn C N bs bm hdct sn sub ab col dd k0 k1 k2 k3 k5 "ValueError.__new__")/\h.Ns N mN/\mN "__init__"=r/\OwnTail h uG bm:=by
 unfold aV at q
 cases ho:K.lookup C with
 |none=>rw [ho] at q;cases q
 |some o =>
  rw [ho] at q
  obtain ⟨cls,dd,dat,sl⟩:=o
  dsimp only at q
  rw [Bool.and_eq_true,beq_iff_eq] at q
  obtain ⟨rfl,q⟩:=q
  cases dat<;>try (cases q;done)
  rename_i cd
  dsimp only at q
  obtain ⟨nm,bs,mro,ns,qn,hd,sn,sub,ab,col,del⟩:=cd
  cases mro with
  |nil=>cases q
  |cons v bm =>
   simp only [Bool.and_eq_true,beq_iff_eq,Bool.not_eq_true'] at q
   obtain ⟨⟨⟨⟨⟨⟨rfl,h6⟩,h4⟩,hdel⟩,ht⟩,hok⟩,hni⟩:=q
   subst hdel
   obtain ⟨l⟩:=sl
   have h6:l.length=6:=h6
   have h4:l[4]?=some (some (.builtin "ValueError.__new__")):=h4
   obtain ⟨k0,k1,k2,k3,k4,k5,rfl⟩:∃ a b c d e f,l=[a,b,c,d,e,f]:=⟨l[0],l[1],l[2],l[3],l[4],l[5],List.ext_getElem h6 λi h1 h2=>by
    rcases i with _|_|_|_|_|_|i
    ·rfl
    ·rfl
    ·rfl
    ·rfl
    ·rfl
    ·rfl
    ·exact absurd h2 (by simp only [List.length_cons,List.length_nil];omega)⟩
   obtain rfl:k4=some (.builtin "ValueError.__new__"):=Option.some.inj h4
   have N:=Heap.Ns.of_isNs (PySem.W.isNs_of_in X hok)
   exact ⟨bm,ns,nm,qn,bs,hd,sn,sub,ab,col,dd,k0,k1,k2,k3,k5,_,X _ _ ho,N,H0 X N hni,PySem.W.tail_of_in X ht⟩
theorem pO {K:PySem.W.Frag}{h h2:Heap}{C:Addr}{r:Option Value}(X:K.In h) (X2:K.In h2) (q:aV K C r=true):h.get? C=h2.get? C:=by
 unfold aV at q
 cases ho:K.lookup C with
 |none=>rw [ho] at q;cases q
 |some o=>rw [X _ _ ho,X2 _ _ ho]
section
variable {X:Cx}{C:Addr}{x:Str}{p pos O1:Pos}{e:Expr}{es:List Expr}{t:TA}
def E8 (C:Addr) (t:TA):TR:=λU H R=>t U H λvs H1=>vs.length<=2/\R C none U H1
theorem Af (hx:aV X.K C none=true) (hk:PySem.W.keepIn X.K (.ref C)=true) (hc:X.calm=true) (hg:Gl X x) (hm:X.mg x=some (.ref C)) (ha:PA X.nox (e::es) t) (KC:(x==("__debug__":Str))=false:=by decide)
  (he:starEach (e::es) X.env=(false,eval e X.env)::starEach es X.env:=by rfl) (KL:(backTo pos (starEach es X.env)).any (·.1)=false:=by rfl):PR X (.Raise (some (.Call (.Name x p) (e::es) [] pos)) none O1) (E8 C t):=by
 intro pins s U H R I h
 obtain ⟨bm,N,nm,q,bs,hd,sn,sub,ab,col,dd,k0,k1,k2,k3,k5,mN,hC,hN,hi,T⟩:=fU I.kIn hx
 have KZ:bm.contains (.type "BaseException")=true:=T.hasType (by decide)
 rw [arm_exec_Raise]
 have go:wpAny (model X.prog X.w) X.A (eval (.Call (.Name x p) (e::es) [] pos) X.env) (λv s1=>∃ en t0,v=.ref en/\s1.heap.get? C=some (excClassObj nm q C N bs bm hd sn sub ab col dd k0 k1 k2 k3 k5 "ValueError.__new__") /\
   s1.heap.get? en=some { cls:=.ref C,data:=.fields #[.ref t0,.none,.none,.none,.bool false,.none] }/\XP X pins R (.ref en) s1) (XP X pins R) s:=by
  refine wpAny_Call_Name_kw (cG I hg hm ?_ KC)
  refine PySem.W.callWith_K (h₀:=X.base) I.ok.mod.kin hk (b5 (ha pos pins s U H _ (I.wish _) h) λus s1 ⟨vs,H1,I1,r,hl,q1⟩=>⟨I1.unwish.kIn,?_⟩) he KL
  have J:=I1.unwish
  obtain ⟨bm',N',nm',q',bs',hd',sn',sub',ab',col',dd',k0',k1',k2',k3',k5',mN',hC',hN',hi',T'⟩:=fU J.kIn hx
  have same:s1.heap.get? C=some (excClassObj nm q C N bs bm hd sn sub ab col dd k0 k1 k2 k3 k5 "ValueError.__new__"):=by
   have z:=pO I.kIn J.kIn hx
   rw [<- z];exact hC
  obtain ⟨hp,g,d,tk,os⟩:=s1
  refine yH PySem.F.excBase_ValueError T' hC' hN' hi' (λh' en m hz=>?_) (by have:=r.length;rw [sizeLine_eq,List.nil_append];omega)
  obtain ⟨t0,g1,g2,g3⟩:=m.there
  refine ⟨en,t0,rfl,m.keeps _ _ same,g1,?_⟩
  refine ⟨en,C,none,U,H1,hp.objs.size,rfl,J.kept (t':=tk) m.keeps,J.low,⟨_,_,.none,g1,rfl,rfl,rfl,⟨rfl,rfl⟩,hz,J.hok.fresh hz,.inl rfl⟩,q1⟩
 exact wpAny_bind (wpAny_standAt (wpAny_raiseStmt_made_sub (C:=C) (nm:=nm) (q:=q) (N:=N) (bs:=bs) (bm:=bm) (hdct:=hd) (sn:=sn) (sub:=sub) (ab:=ab) (col:=col) (dd:=dd) (k0:=k0) (k1:=k1) (k2:=k2) (k3:=k3) (k5:=k5) (newId:="ValueError.__new__") KZ (I.ok.hd hc)
  (wpAny_bind (wpAny_mono go (λv s3 h3=>wpAny_bind (wpAny_standAt (wpAny_pure h3))) λ_ _ z=>z))))
end
end L2
namespace T2
open PySem PySem.Spec PyProof.Rows L2
abbrev XA:=Addr×Option Int
abbrev WX:=XA->StT->Sto->Prop
def Dc (H:Hp) (S:Sto) (r:Option Int) (d:Option Addr):Prop:=(r=none/\d=none)\/∃ i dx,r=some i/\d=some dx/\S dx=none/\H dx=some (.xd [("row",.int i)])
theorem Dc.none {H:Hp}{S:Sto}:Dc H S none none:=.inl ⟨rfl,rfl⟩
theorem Dc.le {H:Hp}{S S0:Sto}{r:Option Int}{d:Option Addr}(h:Dc H S r d) (l:Le S0 S):Dc H S0 r d:=by
 rcases h with h|⟨i,dx,e1,e2,n,e⟩
 ·exact .inl h
 ·refine .inr ⟨i,dx,e1,e2,?_,e⟩
  cases q:S0 dx with
  |none=>rfl
  |some o=>rw [l dx o q] at n;cases n
abbrev WR:=StT->Sto->WX->Prop
def lR (K:Fg) (w:WR):TR:=λU H R=>∃ S J6 Rt,SRp K H S/\Cov K H S U J6/\w J6 S Rt/\∀ C J7 H' Kd S',Fr H S H' S'->SRp K H' S'->Cov K H' S' J7 Kd->Rt C Kd S'->∀ dct,Dc H' S' C.2 dct->R C.1 dct J7 H'
def QR (K:Fg) (X:Cx) (st:Stmt) (w:WR):Prop:=PR X st (lR K w)
def QRs (K:Fg) (X:Cx) (st:List Stmt) (w:WR):Prop:=PRs X st (lR K w)
def QRE (K:Fg) (X:Cx) (e:Expr) (w:WR):Prop:=PRE X e (lR K w)
def QRA (K:Fg) (X:Cx) (es:List Expr) (w:WR):Prop:=PRA X es (lR K w)
theorem PR.of {X:Cx}{e:Stmt}{t t':TR}(h:PR X e t) (i:∀ U H Q,t' U H Q->t U H Q):PR X e t':=λpins s U H Q I q=>h pins s U H Q I (i U H Q q)
theorem PRs.of {X:Cx}{e:List Stmt}{t t':TR}(h:PRs X e t) (i:∀ U H Q,t' U H Q->t U H Q):PRs X e t':=λpins s U H Q I q=>h pins s U H Q I (i U H Q q)
theorem PRE.of {X:Cx}{e:Expr}{t t':TR}(h:PRE X e t) (i:∀ U H Q,t' U H Q->t U H Q):PRE X e t':=λpins s U H Q I q=>h pins s U H Q I (i U H Q q)
abbrev aU:=List T->Sto->(XA->Sto->Prop)->Prop
def az (K:Fg) (w:aU):Sp:=λvs H _ E=>∃ S ts Rt,SRp K H S/\Rps K H S ts vs/\w ts S Rt/\∀ C H' S',Fr H S H' S'->SRp K H' S'->Rt C S'->∀ dct,Dc H' S' C.2 dct->E (.ref C.1) dct H'
section
variable {K:Fg}{X:Cx}{st:Stmt}{rest:List Stmt}{w u:WS}{r r2:WR}{e:Expr}{es:List Expr}{we:WE}{pos:Pos}{t:WT}
theorem ai (h:QR K X st r):QRs K X (st::rest) r:=z7 h
def sv (w:WS) (r:WR):WR:=λU S R=>w { nx:=λJ7 S'=>r J7 S' R,rt:=λ_ _=>False } U S
theorem aP (h1:QS K X.nox st w) (h2:QRs K X rest r):QRs K X (st::rest) (sv w r):=PRs.of (z8 h1 h2) λU H R ⟨S,J6,Rt,s,c,q,hr⟩ =>
 ⟨S,J6,_,s,c,q,⟨λJ7 H' Kd S' f s' c' q'=>⟨S',Kd,Rt,s',c',q',λC KO H2 LQ S2 f2=>hr C KO H2 LQ S2 (f.trans f2)⟩,λ_ _ _ _ _ _ _ q'=>q'.elim,λ_ _ _ _ _ _ _ q'=>q'.elim,λ_ _ _ _ _ _ _ q'=>q'.elim⟩⟩
def vp (t:WT) (r r2:WR):WR:=λU S R=>t U S λb S1=>if b=true then r U S1 R else r2 U S1 R
theorem aH {c:Expr}{a b:List Stmt}(hc:QT K X.nox c t) (ha:QRs K X a r) (hb:QRs K X b r2):QR K X (.If c a b pos) (vp t r r2):=PR.of (HY hc ha hb) λU H R zz108=>by
 obtain ⟨S,J6,Rt,s,c,q,hr⟩:=zz108
 refine ⟨S,J6,_,s,c,q,λk H1 S1 f1 s1 q1=>?_⟩
 cases k with
 |true=>exact ⟨S1,J6,Rt,s1,c.fr f1,q1,λC KO H2 LQ S2 f2=>hr C KO H2 LQ S2 (f1.trans f2)⟩
 |false=>exact ⟨S1,J6,Rt,s1,c.fr f1,q1,λC KO H2 LQ S2 f2=>hr C KO H2 LQ S2 (f1.trans f2)⟩
def B8:WR:=λ_ _ _=>False
theorem aK {Q1:List Stmt}:QRs K X Q1 B8:=λ_ _ _ _ _ _ zz109=>by obtain ⟨_,_,_,_,_,q,_⟩:=zz109;exact q.elim
theorem aY (h:QRE K X e r) (hs:swapsWith e none pos.line X.env=pure false:=by rfl):QR K X (.Expr e pos) r:=B7 h hs
theorem mU (h:QRE K X e r):QR K X (.Return (some e) pos) r:=E5 h
theorem mV {x:Str}{KA:Pos}(h:QRE K X e r) (hs:swapsWith e (some (.Name x KA)) pos.line X.env=pure false:=by rfl):QR K X (.Assign [.Name x KA] e pos) r:=E6 h hs
theorem lJ (h:QRE K X e r) (hs:starEach (e::es) X.env=(false,eval e X.env)::starEach es X.env:=by rfl):QRA K X (e::es) r:=z9 h hs
end
section
variable {K:Fg}{X:Cx}{k:Nat}{f C:Addr}{fd:FuncData}{ps:List Str}{Ka:aU}{x m:Str}{p pos O1 apos:Pos}{e o:Expr}{es:List Expr}{wa:WE}{wr:WA}{r:WR}{G:Addr->Prop}
def sx (Ka:aU) (wr:WA):WR:=λU S R=>wr U S λts S1=>Ka (ts++[]) S1 λC S'=>R C U S'
theorem bU (F:FnOk X.prog X.w X.K X.mg X.base (CX1 X.prog X.w) k f fd ps (az K Ka)) (D:Df X.K X.mg x f fd ps) (hr:Room k X.A) (hg:Gl X x) (ha:QA K X.nox (e::es) wr)
  (KC:(x==("__debug__":Str))=false:=by decide) (he:starEach (e::es) X.env=(false,eval e X.env)::starEach es X.env:=by rfl) (KL:(backTo pos (starEach es X.env)).any (·.1)=false:=by rfl) :
  QRE K X (.Call (.Name x p) (e::es) [] pos) (sx Ka wr):=PRE.of (Aa (dvs:=[]) F hr hg D.hm D.kp D.b .nil ha KC he KL) λU H R zz110=>by
 obtain ⟨S,J6,Rt,s,c,q,hq⟩:=zz110
 refine ⟨S,J6,_,s,c,q,λvs H1 ts S1 f1 s1 r1 q1=>?_⟩
 exact ⟨S1,_,_,s1,r1.append .nil,q1,λC H' S' f s' q' dct dd=>⟨C.1,rfl,hq C U H' J6 S' (f1.trans f) s' (c.fr (f1.trans f)) q' dct dd⟩⟩
theorem Ag (D:Df X.K X.mg x f fd ps) (hg:Gl X x) (ha:QRA K X (e::es) r) (KC:(x==("__debug__":Str))=false:=by decide) (he:starEach (e::es) X.env=(false,eval e X.env)::starEach es X.env:=by rfl) (KL:(backTo pos (starEach es X.env)).any (·.1)=false:=by rfl) :
  QRE K X (.Call (.Name x p) (e::es) [] pos) r:=yE (g:=.none) hg D.hm D.kp ha KC he KL
def iR (G:Addr->Prop) (m:Str) (Ka:aU) (wa:WE) (wr:WA):WR:=λU S R=>wa U S λx S1=>∃ a C fs,x=.ref a/\S1 a=some (.ins C fs)/\G C/\fs.lookup m=none/\wr U S1 λts S2=>Ka (x::(ts++[])) S2 λC S'=>R C U S'
theorem yI {U H R}(h:lR K (iR G m Ka wa wr) U H R):nM G m (az K Ka) [] (lE K wa) (lA K wr) U H R:=by
 obtain ⟨S,J6,Rt,s,c,q,hq⟩:=h
 refine ⟨S,J6,_,s,c,q,λx H1 tx S1 f1 s1 r1 q1=>?_⟩
 obtain ⟨a,C,fs,rfl,ea,g,l,q1⟩:=q1
 cases r1
 cases s1 a _ ea with
 |ins eh pr =>
  refine ⟨a,C,_,_,rfl,eh,g,cF pr l,S1,J6,_,s1,c.fr f1,q1,λvs H2 ts S2 f2 s2 r2 q2=>?_⟩
  exact ⟨S2,_,_,s2,.cons .ref (r2.append .nil),q2,λC H' S' f s' q' dct dd=>⟨C.1,rfl,hq C U H' J6 S' ((f1.trans f2).trans f) s' (c.fr ((f1.trans f2).trans f)) q' dct dd⟩⟩
theorem bA {pl:Sem Bool}(hG:∀ C,G C->Cls X.K C/\Meth X.K C m f) (F:FnOk X.prog X.w X.K X.mg X.base (CX1 X.prog X.w) k f fd ps (az K Ka)) (hb:ap X.K fd ps []) (hr:Room k X.A) (ho:QE K X.nox o wa) (ha:QA K X.nox (e::es) wr)
  (Nb:starEach (e::es) X.env=(false,eval e X.env)::starEach es X.env:=by rfl) (KL:(backTo pos (starEach es X.env)).any (·.1)=false:=by rfl)
  (ht:eval (.Call (.Attribute o m apos) (e::es) [] pos) X.env=(do
   let ov <- eval o X.env
   standAt apos.atName
   let (f,first) <- holding [ov] (getMethod ov m pl)
   callWith pos f first (backTo pos (starEach (e::es) X.env)) (backToKw pos (keywordEach [] X.env))):=by rfl) :
  QRE K X (.Call (.Attribute o m apos) (e::es) [] pos) (iR G m Ka wa wr):=PRE.of (qg (pl:=pl) (dvs:=[]) ho hG F hr hb .nil ha Nb KL ht) λ_ _ _ h=>yI h
theorem Ah {pl:Sem Bool}(hG:∀ C,G C->Cls X.K C/\Meth X.K C m f) (F:FnOk X.prog X.w X.K X.mg X.base (CX1 X.prog X.w) k f fd ps (az K Ka)) (hb:ap X.K fd ps []) (hr:Room k X.A) (ho:QE K X.nox o wa)
  (ht:eval (.Call (.Attribute o m apos) [] [] pos) X.env=(do
   let ov <- eval o X.env
   standAt apos.atName
   let (f,first) <- holding [ov] (getMethod ov m pl)
   callWith pos f first (backTo pos (starEach [] X.env)) (backToKw pos (keywordEach [] X.env))):=by rfl) :
  QRE K X (.Call (.Attribute o m apos) [] [] pos) (iR G m Ka wa dM):=PRE.of (yF (pl:=pl) (dvs:=[]) ho hG F hr hb .nil ht) λU H R h=>by
 obtain ⟨S,J6,Rt,s,c,q,hq⟩:=h
 refine ⟨S,J6,_,s,c,q,λx H1 tx S1 f1 s1 r1 q1=>?_⟩
 obtain ⟨a,C,fs,rfl,ea,g,l,q1⟩:=q1
 cases r1
 cases s1 a _ ea with
 |ins eh pr =>
  exact ⟨a,C,_,_,rfl,eh,g,cF pr l,S1,_,_,s1,.cons .ref .nil,q1,λC H' S' f s' q' dct dd=>⟨C.1,rfl,hq C U H' J6 S' (f1.trans f) s' (c.fr (f1.trans f)) q' dct dd⟩⟩
def qT (C:Addr) (wr:WA):WR:=λU S R=>wr U S λts S1=>ts.length<=2/\R (C,none) U S1
theorem bN (hx:aV X.K C none=true) (hk:PySem.W.keepIn X.K (.ref C)=true) (hc:X.calm=true) (hg:Gl X x) (hm:X.mg x=some (.ref C)) (ha:QA K X.nox (e::es) wr) (KC:(x==("__debug__":Str))=false:=by decide)
  (he:starEach (e::es) X.env=(false,eval e X.env)::starEach es X.env:=by rfl) (KL:(backTo pos (starEach es X.env)).any (·.1)=false:=by rfl):QR K X (.Raise (some (.Call (.Name x p) (e::es) [] pos)) none O1) (qT C wr) :=
 PR.of (Af hx hk hc hg hm ha KC he KL) λU H R ⟨S,J6,Rt,s,c,q,hq⟩ =>
  ⟨S,J6,_,s,c,q,λvs H1 ts S1 f1 s1 r1 zz111=>by obtain ⟨hl,q1⟩:=zz111;exact ⟨by rw [r1.length];exact hl,hq (C,none) U H1 J6 S1 f1 s1 (c.fr f1) q1 _ Dc.none⟩⟩
end
def eB (R:XA->Sto->Prop):WX:=λC _ S=>∃ S0,Le S0 S/\R C S0
theorem eB.mk {R:XA->Sto->Prop}{C:XA}{U:StT}{S:Sto}(h:R C S):eB R C U S:=⟨S,.refl,h⟩
theorem eB.le {R:XA->Sto->Prop}{C:XA}{U:StT}{S S0:Sto}(l:Le S0 S) (h:R C S0):eB R C U S:=⟨S0,l,h⟩
theorem qU {P:Program}{w:World}{K:Fg}{mg:Str->Option Value}{base:Heap}{x qual:Str}{st:Stmt}{f:Addr}{fd:FuncData}{N ps:List Str}{k:Nat}{Ka:aU}(F:FunD K x qual st f fd) (Sc:FnScope N ps (aj st)) (len:∀ ts S Q,Ka ts S Q->ts.length=ps.length)
  (Lg:∀ (cdv:Value) (A:Around) (outer:List Env) (s:Shared) (H:Hp) (E:XK),Room k (A.deeper (envOfC qual (aj st) s.heap.objs.size f cdv)) ->
   ∃ u,QRs K (cK CX0 P w K mg base N qual (aj st) f cdv A outer s H E) (bO st) u/\∀ ts S R,Ka ts S R->u (b0 N ts) S (eB R)):FnOk P w K mg base (CX1 P w) (k+1) f fd ps (az K Ka):=by
 obtain ⟨oc,od,dV,kV,doc,pm,an,cdv,ct,osl,rfl,lk,Oh⟩:=F.ex
 refine Ac lk Oh Sc (λvs H Q E ⟨S,ts,Qt,s,r,q,_⟩=>by rw [r.length];exact len _ _ _ q) λA outer s H vs E Q hr ⟨S,ts,Rt,sr,r,q,b⟩=>?_
 obtain ⟨u,hu,hq⟩:=Lg cdv A outer s H E hr
 refine ⟨_,hu,S,b0 N ts,_,sr,kZ r,hq ts S Rt q,λC J7 H' Kd S' f s' _ zz112 dct dd=>?_⟩
 obtain ⟨S0,l,q0⟩:=zz112
 exact b C H' S0 (f.trans (Fr.le l)) (s'.le l) q0 dct (dd.le l)
section
variable {K:Fg}{U:StT}{S:Sto}{R:WX}{D:EndsT}{w:WS}{r r2:WR}{t:WT}{we wa:WE}{wr:WA}{Ka:aU}{C B:Addr}{G:Addr->Prop}{m:Str}
theorem aZ (h:w { nx:=λJ7 S'=>r J7 S' R,rt:=λ_ _=>False } U S):sv w r U S R:=h
theorem bn (h:t U S λb S1=>if b=true then r U S1 R else r2 U S1 R):vp t r r2 U S R:=h
theorem E9 (h:wr U S λts S1=>Ka (ts++[]) S1 λC S'=>R C U S'):sx Ka wr U S R:=h
theorem Fa (h:wa U S λx S1=>∃ a C fs,x=.ref a/\S1 a=some (.ins C fs)/\G C/\fs.lookup m=none/\wr U S1 λts S2=>Ka (x::(ts++[])) S2 λC S'=>R C U S'):iR G m Ka wa wr U S R:=h
theorem B9 (h:wr U S λts S1=>ts.length<=2/\R (C,none) U S1):qT C wr U S R:=h
end
def fu (grd:Sto->Prop) (g:WG) (wb:WS) (r:WR) (R:WX):List T->StT->Sto->Prop
 |[],_,_=>False
 |t::ts,U,S=>grd S/\g t U S λKO S2=>r KO S2 R\/wb { nx:=fu grd g wb r R ts,rt:=λ_ _=>False,bk:=λ_ _=>False,ct:=fu grd g wb r R ts } KO S2
def nN (wi:WI) (g:WG) (wb:WS) (r:WR):WR:=λU S R=>wi U S λsrc S1=>fu src.grd g wb r R src.items U S1
section
variable {K:Fg}{X:Cx}{tg:Expr}
theorem Ai {wi:WI}{g:WG}{wb:WS}{r:WR}{U H}{R:XS}(h:lR K (nN wi g wb r) U H R):vo (lI K wi) (lG K g) (lS K wb) (lR K r) U H R:=by
 obtain ⟨S,J6,Rt,s,c,q,he⟩:=h
 refine ⟨S,J6,_,s,c,q,λJ H1 src S1 f1 s1 it q1=>?_⟩
 refine ⟨λi m U H=>m=src.items.length - i/\i<=src.items.length/\∃ S J6,Fr H1 S1 H S/\SRp K H S/\Cov K H S U J6/\fu src.grd g wb r Rt (src.items.drop i) J6 S,
  ⟨_,rfl,Nat.zero_le _,S1,J6,.refl,s1,c.fr f1,by simpa using q1⟩,?_⟩
 rintro i m U H ⟨rfl,hi,S2,LQ,f2,s2,c2,q2⟩
 by_cases hl:i<src.items.length
 ·have e1:src.items[i]?=some src.items[i]:=by simp [hl]
  rw [mh e1] at q2
  obtain ⟨hg,q2⟩:=q2
  refine ⟨it.go H S2 i f2 s2 hg hl,λJ7 H'=>∃ S J6,Fr H1 S1 H' S/\SRp K H' S/\Cov K H' S J7 J6/\fu src.grd g wb r Rt (src.items.drop (i+1)) J6 S,λJ7 H' n=>⟨src.items.length - (i+1),by omega,rfl,hl,n⟩,λx H' y=>?_⟩
  obtain ⟨t,et,f3,s3,r3⟩:=it.yld H S2 i x H' f2 s2 hg hl y
  rw [e1] at et;cases et
  refine ⟨S2,_,LQ,_,s3,r3,c2.fr f3,q2,λσ4 H4 NR S4 f4 s4 c4 q4=>?_⟩
  have fA:=(f2.trans f3).trans f4
  rcases q4 with q4|q4
  ·exact .inl ⟨S4,NR,Rt,s4,c4,q4,λC J7 H' Kd S' f=>he C J7 H' Kd S' ((f1.trans fA).trans f)⟩
  ·exact .inr ⟨S4,NR,_,s4,c4,q4,⟨λJ7 H' Kd S' f s' c' q'=>⟨S',Kd,fA.trans f,s',c',q'⟩,λ_ _ _ _ _ _ _ q'=>q'.elim,λ_ _ _ _ _ _ _ q'=>q'.elim,λJ7 H' Kd S' f s' c' q'=>⟨S',Kd,fA.trans f,s',c',q'⟩⟩⟩
 ·have e:i=src.items.length:=by omega
  subst e
  rw [List.drop_eq_nil_of_le (Nat.le_refl _)] at q2
  exact q2.elim
theorem Fc {iter:Expr}{body:List Stmt}{wi:WI}{g:WG}{wb:WS}{r:WR}{pos:Pos}(st:X.stack=X.env::X.outer/\X.env.frame=some X.env.locals) (hc:X.calm=true) (hi:QI K X.nox tg iter wi) (hg:QG K X.nox tg g) (hb:QSs K X.nox body wb) (hr:QRs K X body r)
  (hs:∀ x,foldedSetIterable iter X.env x=pure x:=by intro _;rfl):QR K X (.For tg iter body [] pos) (nN wi g wb r):=PR.of (E7 st hc hi hg hb hr hs) λ_ _ _ h=>Ai h
theorem Ia {wi:WI}{g:WG}{wb:WS}{r:WR}{U:StT}{S:Sto}{R:WX}(h:wi U S λsrc S1=>fu src.grd g wb r R src.items U S1):nN wi g wb r U S R:=h
end
end T2
namespace L2
open PySem PySem.Spec PyProof.Rows
section
variable {X:Cx}
def Ib:V->V->Hp->VK->Prop:=λx y H Q=>∃ i j,x=.str i/\y=.str j/\i.length+j.length<=sizeLine/\Q (.str (i++j)) H
theorem B':uQ X .Add Ib:=λpins s U H x y u v Q I rx ry h=>wZ pins s U H x y u v Q I rx ry h
variable {pos p2 p3:Pos}{value:Expr}{tv:TE}{s2:Str}{k3:Nat}
end
end L2
namespace T2
open PySem PySem.Spec PyProof.Rows L2
section
variable {K:Fg}{X:Cx}{pos p2 p3:Pos}{value o:Expr}{wv wa:WE}{s2:Str}{k3:Nat}{G:Addr->Prop}
def pP (G:Addr->Prop) (wa wv:WE) (f:Str):WS:=λD U S=>wa U S λx S1=>∃ a C fs i,x=.ref a/\S1 a=some (.ins C fs)/\G C/\fs.lookup f=some (.str i) /\
 wv U S1 λy S2=>∃ j Mh,y=.str j/\i.length+j.length<=sizeLine/\S2 a=some (.ins C Mh)/\Mh.length<1000/\D.nx U (put S2 a (.ins C (bR f (.str (i++j)) Mh)))
theorem xL {f:Str}{Lf:Pos}(hK:X.K=K) (hG:∀ C,G C->Cls K C/\aC K C f) (ha:QE K X o wa) (hv:QE K X value wv):QS K X (.AugAssign (.Attribute o f Lf) .Add value pos) (pP G wa wv f):=by
 subst hK
 refine PS.of (yd ha hv B') λD U H zz113=>?_
 obtain ⟨S,J6,Dt,s,c,q,he⟩:=zz113
 refine ⟨S,J6,_,s,c,q,λx H1 tx S1 f1 s1 r1 q1=>?_⟩
 obtain ⟨a,C,fs,i,rfl,ea,g,l,q1⟩:=q1
 cases r1
 cases s1 a _ ea with
 |ins eh pr =>
  obtain ⟨u,lu,ru⟩:=pF pr l
  cases ru
  refine ⟨a,C,_,_,_,rfl,eh,(hG C g).1,(hG C g).2,lu,S1,J6,_,s1,c.fr f1,q1,λy H2 ty S2 f2 s2 r2 q2=>?_⟩
  obtain ⟨j,Mh,rfl,hz,ea2,l2,q2⟩:=q2
  cases r2
  cases s2 a _ ea2 with
  |ins eh2 pr2 =>
   obtain ⟨fw,sw⟩:=pG (f:=f) (t:=.str (i++j)) (v:=.str (i++j)) s2 ea2 eh2 pr2 .str
   exact ⟨i,j,rfl,rfl,hz,_,_,eh2,by rw [Paired.len pr2];exact l2,he.nx _ _ J6 _ ((f1.trans f2).trans fw) sw (c.fr ((f1.trans f2).trans fw)) q2⟩
theorem Aj {U:StT}{S:Sto}{D:EndsT}{f:Str}(h:wa U S λx S1=>∃ a C fs i,x=.ref a/\S1 a=some (.ins C fs)/\G C/\fs.lookup f=some (.str i) /\
 wv U S1 λy S2=>∃ j Mh,y=.str j/\i.length+j.length<=sizeLine/\S2 a=some (.ins C Mh)/\Mh.length<1000/\D.nx U (put S2 a (.ins C (bR f (.str (i++j)) Mh)))):pP G wa wv f D U S:=h
end
end T2
namespace L2
open PySem PySem.Spec PyProof.Rows
end L2
namespace T2
open PySem PySem.Spec PyProof.Rows L2
section
variable {K:Fg}{X:Cx}
end
section
variable {K:Fg}{X:Cx}{Q1:List Stmt}{r1 r2:WR}
def ol (r1 r2:WR):WR:=λU S R=>r1 U S R\/r2 U S R
theorem bd (h1:QRs K X Q1 r1) (h2:QRs K X Q1 r2):QRs K X Q1 (ol r1 r2):=λpins s U H Q I zz114=>by
 obtain ⟨S,J6,Rt,sr,c,q,hr⟩:=zz114
 rcases q with q|q
 ·exact h1 pins s U H Q I ⟨S,J6,Rt,sr,c,q,hr⟩
 ·exact h2 pins s U H Q I ⟨S,J6,Rt,sr,c,q,hr⟩
theorem bg {U:StT}{S:Sto}{R:WX}(h:r1 U S R):ol r1 r2 U S R:=.inl h
theorem bb {U:StT}{S:Sto}{R:WX}(h:r2 U S R):ol r1 r2 U S R:=.inr h
end
end T2
namespace L2
open PySem PySem.Spec PyProof.Rows
section
variable {X:Cx}
end
end L2
namespace T2
open PySem PySem.Spec PyProof.Rows L2
section
variable {K:Fg}{X:Cx}
end
end T2
namespace L2
open PySem PySem.Spec PyProof.Rows
section
variable {X:Cx}{pins:List (Addr×Obj)}{U:St}{H:Hp}{s:Shared}
theorem iI {M:Model}{A:Around}{E:Value->Shared->Prop}{i:Nat}{x:Str}{pos:Pos}{Q:Unit->Shared->Prop}(I:Inv X pins U H s) (hN:X.N.Nodup) (hi:X.N[i]?=some x) (hx:X.env.scope.names.lookup x=some .local)
  (h:∀ s',Inv X pins (U.set i none) H s'->Q () s'):wpAny M A (do bindName X.env x .none;unbindBehindTheSuite X.env x pos) Q E s:=by
 refine wpAny_bind (wpAny_bindName (fV (v:=.non) I hN hi (.inl hx) rfl (λs1 I1=>?_) (.inr hx)))
 have QH:(X.env.scope.kind==.class || (X.env.scope.kind==.module&&X.env.locals != X.env.globals))=false:=by rw [I.ok.kind];rfl
 have hk:X.env.kindOf x=some .local:=hx
 obtain ⟨m,hn,hl⟩:=id I1.loc
 have cne:=I1.cne
 unfold unbindBehindTheSuite
 refine wpAny_onRaise ?_
 unfold unbindName
 refine wpAny_bind (wpAny_point (wpAny_bind ?_))
 unfold deleteName
 simp only [hk,QH]
 rw [if_neg (by decide)]
 refine wpAny_bind (wpAny_nsDel_keeps hn λh' v hn' hs=>?_)
 have hsome:(m x).isSome=true:=by
  have OW:i<U.length:=by rw [I.len];exact (List.getElem?_eq_some_iff.mp hi).1
  obtain ⟨u,_,q⟩:=hl i x .non hi (by rw [List.getElem?_set_self OW]) (.inl hx)
  rcases q with ⟨_,e⟩|⟨k,_⟩
  ·rw [e];rfl
  ·rw [hk] at k;rcases k with k|k<;>cases k
 rw [hsome]
 simp only [if_true,Option.isSome_some,Bool.not_true,Bool.false_eq_true,if_false]
 refine wpAny_pure (wpAny_point (h _ ?_))
 obtain ⟨oL,_,_,Pc,_⟩:=id hn
 refine ⟨I.ok,I1.os,I1.bare,⟨λb o e n hb hx=>?_,λb o e n hb hx=>?_,I1.base.free,λb o e hx=>?_,I1.base.tups,I1.base.frzs,I1.base.tbls⟩,⟨_,hn',λj y v' e1 e2 e3=>?_⟩,λy c e=>?_,I1.free,I1.freeC,λp hp=>?_,λb ob e=>?_,by simpa using I.len⟩
 ·exact (hs.2 b (Nat.ne_of_lt (Nat.lt_of_lt_of_le (Heap.lt_size e) I.ok.above))).trans (I1.base.keep b o e n hb hx)
 ·obtain ⟨sl,e1⟩:=I1.base.slot b o e n hb hx
  exact ⟨sl,(hs.2 b (Nat.ne_of_lt (Nat.lt_of_lt_of_le (Heap.lt_size e) I.ok.above))).trans e1⟩
 ·obtain ⟨o',e1⟩:=I1.base.there b o e hx
  exact ⟨o',(hs.2 b (Nat.ne_of_lt (Nat.lt_of_lt_of_le (Heap.lt_size e) I.ok.above))).trans e1⟩
 ·have OW:i<U.length:=by rw [I.len];exact (List.getElem?_eq_some_iff.mp hi).1
  by_cases hj:j=i
  ·subst hj
   rw [List.getElem?_set_self OW] at e2
   cases e2
  ·rw [List.getElem?_set_ne (Ne.symm hj)] at e2
   obtain ⟨u',r',q⟩:=hl j y v' e1 (by rw [List.getElem?_set_ne (Ne.symm hj)];exact e2) e3
   refine ⟨u',r',?_⟩
   rcases q with ⟨k,e⟩|⟨k,c,e,z⟩
   ·refine .inl ⟨k,?_⟩
    have:y≠x:=λe=>hj (lh hN e1 (e ▸ hi))
    simp [this,e]
   ·exact .inr ⟨k,c,e,z.sameBut hs (cne y c e)⟩
 ·obtain ⟨w',z⟩:=I1.cell y c e
  exact ⟨w',z.sameBut hs (cne y c e)⟩
 ·obtain ⟨e,n,ne,nf,d⟩:=I1.pin p hp
  exact ⟨(hs.2 p.1 ne).trans e,n,ne,nf,d⟩
 ·refine (I1.hok b ob e).stay (λc w' hc q=>(hs.2 c ?_).trans q) (λ_ q=>q) λ_ _ q=>q
  rintro rfl
  rcases hc with rfl|hc
  ·rw [I1.free] at e;cases e
  ·rw [I1.free] at hc;cases hc
theorem Inv.add {a:Addr}{o:HO}{lo:Nat}(I:Inv X pins U H s) (lw:Low X pins lo) (hl:lo<=a) (h0:H a=none) (new:aN X.prog X.w (upd H a o) s.heap a o):Inv X pins U (upd H a o) s:=by
 have ne:∀ b u,H b=some u->b≠a:=λb u e z=>by rw [z,h0] at e;cases e
 have up:∀ b u,H b=some u->upd H a o b=some u:=λb u e=>by unfold upd;rw [if_neg (ne b u e)];exact e
 have no:∀ b,b<lo->H b=none->upd H a o b=none:=λb hb e=>by unfold upd;rw [if_neg (λz=>absurd (Nat.lt_of_lt_of_le hb hl) (by rw [z];exact Nat.lt_irrefl _))];exact e
 refine ⟨I.ok,I.os,I.bare,⟨I.base.keep,I.base.slot,λb u e n hx=>?_,I.base.there,λb xs e=>?_,λb u v e=>?_,λb ps e=>?_⟩,I.loc,I.cell,no _ lw.loc I.free,λx c e=>no _ (lw.cell x c e) (I.freeC x c e),λp hp=>?_,λb ob e=>?_,I.len⟩
 ·exact no b (Nat.lt_of_lt_of_le (Heap.lt_size e) lw.s0) (I.base.free b u e n hx)
 ·exact up _ _ (I.base.tups b xs e)
 ·exact up _ _ (I.base.frzs b u v e)
 ·obtain ⟨m,q⟩:=I.base.tbls b ps e
  exact ⟨m,up _ _ q⟩
 ·obtain ⟨e,n,r⟩:=I.pin p hp
  exact ⟨e,no _ (lw.pin p hp) n,r⟩
 ·by_cases hb:b=a
  ·subst hb
   have:ob=o:=by unfold upd at e;rw [if_pos rfl] at e;exact (Option.some.inj e).symm
   subst this
   exact new
  ·have e':H b=some ob:=by unfold upd at e;rw [if_neg hb] at e;exact e
   exact (I.hok b ob e').stay (λc w' hc q=>q) (λc q=>up _ _ q) λc xs q=>up _ _ q
end
end L2
namespace PySem.W
open PySem PySem.Spec PySem.Calls PyProof.Rows
section
variable {prog:Program}{w:World}{A:Around}{E:Value->Shared->Prop}{s:Shared}{K:Frag}{x C:Addr}{ox:Obj}{od:Option Obj}{name:Str}{Pf fill:Bool}
structure XGet (K:Frag) (C:Addr):Prop where
 ga:findIn K (.ref C) "__getattribute__"=some (some (.builtin "BaseException.__getattribute__"))
 gk:findIn K (.ref C) "__getattr__"=some none
 sub:mroIn K C (.type "BaseException")=some true
theorem qV {tk:Tok}{Q:Value->Shared->Prop}(G:XGet K C) (X:K.In s.heap) (I:InstAt s.heap x ox C od)
  (h:wpAny (model prog w) A.in1 (Builtin.«object.__getattribute__» ⟨[.ref x,.str name tk],[]⟩) (λfin s'=>match fin with|.done (.ret v)=>wpAny (model prog w) A (handedOut v) Q E s'|_=>False) (λ_ _=>False) s) :
  wpAny (model prog w) A (getAttrBy (.ref x) (.str name tk) fill Pf) Q E s:=by
 have hb:Looks (model prog w) s.heap (hookBefore (.ref C)) none:=by
  unfold hookBefore;rw [if_pos (show onTheHeap (.ref C)=true from rfl)];exact looks_findIn X G.gk
 have sub:Looks (model prog w) s.heap (isInstance (.ref x) (.type "BaseException")) true:=I.type.andThen (looks_mroIn X G.sub)
 unfold getAttrBy
 refine wpAny_holding (wpAny_bind (I.type.here (wpAny_bind ((looks_findIn X G.ga).here ?_))))
 dsimp only
 rw [show (onTheHeap (.ref C)&&Value.builtin "BaseException.__getattribute__" == Value.builtin "object.__getattribute__")=false from by rw [show (Value.builtin "BaseException.__getattribute__" == Value.builtin "object.__getattribute__")=false from by decide +kernel,Bool.and_false],if_neg (by decide)]
 unfold getAttrByItsOwn
 refine wpAny_bind (hb.here (wpAny_bind (wpAny_attempt (wpAny_holding ?_))))
 unfold callGetattribute
 rw [show (Pf&&onTheHeap (Value.builtin "BaseException.__getattribute__"))=false from Bool.and_false _,if_neg (by decide)]
 unfold boundAndCalled
 rw [PySem.F.attr_ValueError.ga.bind]
 refine wpAny_bind (wpAny_pure ?_)
 show wpAny _ _ (call (.builtin "BaseException.__getattribute__") [.ref x,.str name tk]) _ _ _
 refine wpAny_call ?_
 refine codeAny_call_builtin PySem.F.attr_ValueError.ga.plain PySem.F.entry_bexc_ga ?_
 refine @check_slot (model prog w) _ _ s "BaseException.__getattribute__" "BaseException" "__getattribute__" (.ref x) [.str name tk] [] _ (by decide +kernel) (by decide +kernel) sub (PySem.F.args_bexc_ga (.ref x) (.str name tk)) ?_
 refine wpAny_mono h (λfin s' z=>?_) λ_ _ z=>z.elim
 rcases fin with (_|_|_|_)|_<;>first|exact z|exact z.elim
theorem xget_value {v:Value}{Q:Value->Shared->Prop}(G:XGet K C) (X:K.In s.heap) (I:InstAt s.heap x ox C od) (hf:findObj K C od name=some (.value v)) (hh:handedIn v=true) (h:Q v { s with toks:=s.toks+1 }) :
  wpAny (model prog w) A (getAttr (.ref x) name Pf) Q E s:=by
 unfold getAttr
 refine wpAny_bind (wpAny_mkText (qV (s:={ s with toks:=s.toks+1 }) G X I ?_))
 obtain ⟨hh',g,d,t,os⟩:=s
 have L0:=I.type (M:=model prog w)
 have L1:=looks_find (M:=model prog w) X I hf
 refine wpAny_bind (wpAny_pure (wpAny_bind (wpAny_pure (wpAny_bind (L0.at (wpAny_bind (L1.at ?_)))))))
 refine wpAny_pure ?_
 show wpAny _ _ (handedOut v) _ _ _
 rw [handedOut_of hh];exact wpAny_pure h
theorem xget_class {Q:Option Value->Shared->Prop}(G:XGet K C) (X:K.In s.heap) (I:InstAt s.heap x ox C od) (hf:findObj K C od "__class__"=some (.bind (.builtin "getset_descriptor.__get__") (.builtin "object.__class__")))
  (hm:mroIn K C (.type "object")=some true) (h:Q (some (.ref C)) { s with toks:=s.toks+1 }) :
  wpAny (model prog w) A (getAttr? (.ref x) "__class__") Q E s:=by
 unfold getAttr? getAttrBy?
 refine wpAny_bind (wpAny_mkText (wpAny_bind (wpAny_attempt (qV (s:={ s with toks:=s.toks+1 }) G X I ?_))))
 obtain ⟨hh',g,d,t,os⟩:=s
 have L0:=I.type (M:=model prog w)
 have L1:=looks_find (M:=model prog w) X I hf
 refine wpAny_bind (wpAny_pure (wpAny_bind (wpAny_pure (wpAny_bind (L0.at (wpAny_bind (L1.at ?_)))))))
 show wpAny _ _ (holding [_] (call (.builtin "getset_descriptor.__get__") [.builtin "object.__class__",.ref x,.ref C]) >>= ret) _ _ _
 refine wpAny_bind (wpAny_holding (wpAny_call (class_get (ox:=ox) (od:=od) X I hm (wpAny_pure ?_))))
 show wpAny _ _ (handedOut (.ref C)) _ _ _
 rw [handedOut_of rfl]
 exact wpAny_pure (wpAny_pure h)
theorem findObj_class (hc:(clsIn K C).isSome=true) (ha:findIn K (.ref C) "__class__"=some (some (.builtin "object.__class__"))) (hn:specialIn K (.builtin "object.__class__") "__get__"=some (some (.builtin "getset_descriptor.__get__"))) (htk:takesIn K (.builtin "object.__class__")=some true) :
  findObj K C od "__class__"=some (.bind (.builtin "getset_descriptor.__get__") (.builtin "object.__class__")):=by
 obtain ⟨cd,hc⟩:=Option.isSome_iff_exists.mp hc
 unfold findObj
 rw [hc,Option.bind_some,ha,Option.bind_some]
 simp [hn,htk]
end
end PySem.W
namespace PySem.W
open PySem PySem.Spec PySem.Calls PyProof.Rows
open Builtin Builtin.ObjectAttr
theorem pQ (self:Value):∀ {l:List Value},onlyVE l=true->refuseLoop self "__setattr__" l=pure ()
 |.ref c::r,e=>by rw [refuseLoop_ref];exact pQ self (l:=r) e
 |[],e=>by cases e
 |.type n::r,e=>by rw [beq_iff_eq.mp (show (Value.type n::r==_)=true from e)];exact PySem.F.store_ValueError.passes self
 |.none::r,e=>by cases beq_iff_eq.mp (show (Value.none::r==_)=true from e)
 |.bool b::r,e=>by cases beq_iff_eq.mp (show (Value.bool b::r==_)=true from e)
 |.int i t::r,e=>by cases beq_iff_eq.mp (show (Value.int i t::r==_)=true from e)
 |.str i t::r,e=>by cases beq_iff_eq.mp (show (Value.str i t::r==_)=true from e)
 |.float i t::r,e=>by cases beq_iff_eq.mp (show (Value.float i t::r==_)=true from e)
 |.builtin i::r,e=>by cases beq_iff_eq.mp (show (Value.builtin i::r==_)=true from e)
section
variable {prog:Program}{w:World}{A:Around}{E:Value->Shared->Prop}{s:Shared}{K:Frag}{x C:Addr}{ox:Obj}{name:Str}{v:Value}
theorem yJ {tk:Tok}{R:Result->Shared->Prop}(X:K.In s.heap) (I:InstAt s.heap x ox C none) (hd:ox.dict=none) (hp:xOver K C=true) (ho:mroIn K C (.type "object")=some true) (ht:takerIn K C name=some none)
  (h:∀ h' dx Q7,s.heap.objs.size<=dx->h'.get? x=some { ox with dict:=some dx }->h'.Ns1 dx (λy=>if y=name then some v else none)->(∀ b o,b≠x->s.heap.get? b=some o->h'.get? b=some o)->R (.ok (.ret .none)) { s with heap:=h',toks:=Q7 }) :
  codeAny (model prog w) A (.call (.builtin "object.__setattr__") ⟨[.ref x,.str name tk,v],[]⟩) R s:=by
 have SF:=PySem.F.store_object
 obtain ⟨cd,hc,hb⟩:=any_some hp
 obtain ⟨hov,hdct⟩:=Bool.and_eq_true_iff.mp hb
 have sub:Looks (model prog w) s.heap (isInstance (.ref x) (.type "object")) true:=I.type.andThen (looks_mroIn X ho)
 refine codeAny_call_builtin SF.slot.plain SF.entry (@check_slot (model prog w) _ _ s "object.__setattr__" "object" "__setattr__" (.ref x) [.str name tk,v] [] _ SF.kind SF.split sub (SF.args (.ref x) (.str name tk) v) ?_)
 obtain ⟨attr,ha,hr⟩:=Option.bind_eq_some_iff.mp ht
 have hm:Looks (model prog w) s.heap (mroOf (.ref C)) cd.mro:=(looks_clsIn X hc).andThen .now
 have L3:Looks (model prog w) s.heap (storeTaker? attr) none:=by
  cases attr with
  |none=>cases hr;exact .now
  |some a =>
   obtain ⟨b,hb,e⟩:=Option.map_eq_some_iff.mp hr
   refine (looks_takesIn X hb).andThen ?_
   cases b
   ·exact .now
   ·cases e
 rw [osa_eq,refuse_eq]
 refine wpAny_bind (wpAny_bind (I.type.here (wpAny_bind (hm.here ?_))))
 rw [pQ _ hov]
 refine wpAny_pure (wpAny_bind (I.type.here (wpAny_bind ((looks_findIn X ha).here (wpAny_bind (L3.here ?_))))))
 dsimp only
 obtain ⟨hx,hcl,hn,-⟩:=I
 obtain ⟨oc,odi,oda,osl⟩:=ox
 dsimp only at hcl hd
 subst hcl hd
 refine wpAny_bind (wpAny_pure (wpAny_bind (wpAny_bind (wpAny_loadPart hx (wpAny_bind ((looks_clsIn X hc).here ?_))))))
 rw [hdct]
 rw [if_neg (by decide)]
 dsimp only
 rw [if_neg (by simp [typeHasDict])]
 split
 ·cases hn
 ·rename_i hnc
  have hfin:=h
  clear h
  obtain ⟨h,g,d,t,os⟩:=s
  dsimp only at hx hfin
  have QC:(h.push { cls:=.type "dict",data:=.dict #[] }).get? x=some { cls:=.ref C,data:=oda,slots:=osl }:=Heap.get?_push_of_some _ hx
  have hxs:x≠h.objs.size:=Nat.ne_of_lt (Heap.lt_size hx)
  refine wpAny_bind (wpAny_alloc' ?_)
  refine wpAny_bind (wpAny_update' QC ?_)
  refine wpAny_pure ?_
  have hgd:((h.push { cls:=.type "dict",data:=.dict #[] }).update x λo=>{ cls:=o.cls,dict:=some h.objs.size,data:=o.data,slots:=o.slots }).get? h.objs.size
    =some { cls:=.type "dict",data:=.dict #[] } :=
   (Heap.get?_update_ne _ _ _ _ hxs.symm).trans (Heap.get?_push_at rfl rfl)
  have hnd:((h.push { cls:=.type "dict",data:=.dict #[] }).update x λo=>{ cls:=o.cls,dict:=some h.objs.size,data:=o.data,slots:=o.slots }).Ns h.objs.size (λ_=>none) :=
   ⟨_,#[],_,hgd,rfl,λe he=>absurd he (by simp),λ_=>rfl⟩
  show wpAny _ _ (storeInDict h.objs.size (.str name tk) name v) _ _ _
  unfold storeInDict newKeyGuard
  refine wpAny_bind (wpAny_pure (wpAny_bind (wpAny_nsSet1 (Heap.Ns1.of_empty hnd) λh' hn' hs=>?_)))
  obtain ⟨oD,esD,epD,hoD,hdD,Ph⟩:=hn'.count (Within.cons name v Within.nil)
  refine wpAny_bind (wpAny_lookBehind hoD (by rw [hdD];exact pastItsLine_dict (Nat.le_trans Ph (by rw [List.length_cons,List.length_nil,sizeLine_eq];omega))) ?_)
  wp_walk
  have hx':h'.get? x=some { cls:=.ref C,dict:=some h.objs.size,data:=oda,slots:=osl }:=by
   refine (hs.2 x hxs).trans (Heap.get?_update_self _ QC ?_)
   have hfr:=(Heap.get?_some_iff.mp hx).2
   cases oda<;>first|rfl|exact hfr
  exact hfin h' h.objs.size _ (Nat.le_refl _) hx' hn' λb o hb e=>(hs.2 b (Nat.ne_of_lt (Heap.lt_size e))).trans ((Heap.get?_update_ne _ _ _ _ hb).trans (Heap.get?_push_of_some _ e))
theorem xset {Q:Unit->Shared->Prop}(X:K.In s.heap) (I:InstAt s.heap x ox C none) (hd:ox.dict=none) (hs:findIn K (.ref C) "__setattr__"=some (some (.builtin "object.__setattr__"))) (hp:xOver K C=true) (ho:mroIn K C (.type "object")=some true) (ht:takerIn K C name=some none)
  (h:∀ h' dx Q7,s.heap.objs.size<=dx->h'.get? x=some { ox with dict:=some dx }->h'.Ns1 dx (λy=>if y=name then some v else none)->(∀ b o,b≠x->s.heap.get? b=some o->h'.get? b=some o)->Q () { s with heap:=h',toks:=Q7 }) :
  wpAny (model prog w) A (setAttr (.ref x) name v) Q E s :=
 set_plain X I hs (yJ (s:={ s with toks:=s.toks+1 }) X I hd hp ho ht λh' dx Q7 a b c d=>h h' dx Q7 a b c d)
end
end PySem.W
namespace L2
open PySem PySem.Spec PyProof.Rows
section
variable {X:Cx}{pos p2 p3 p4:Pos}{value Q8:Expr}{tv tv2:TE}{s2:Str}{k3:Nat}
variable {LY iter J8:Expr}{Lu:List Expr}{scope:Scope}{r:TR}
theorem Ca {x:Str}{px MF:Pos}(h:PRE X iter r)
  (Q0:swapsWith (.ListComp LY [⟨J8,iter,Lu,0⟩] scope pos) (some (.Name x px)) MF.line X.env=pure true:=by rfl) (Po:dC X.env.scope scope=true:=by rfl)
  (hs:∀ x,foldedSetIterable iter X.env x=pure x:=by intro _;rfl) :
  PR X (.Assign [.Name x px] (.ListComp LY [⟨J8,iter,Lu,0⟩] scope pos) MF) r:=by
 intro pins s U H R I q
 have S:=kY Po
 rw [exec_Assign_Name_used _ _ _ _ Q0]
 refine wpAny_bind (wpAny_standAt (wpAny_bind ?_))
 show wpAny _ X.A (do let _ <- comprehension (.ListComp LY [⟨J8,iter,Lu,0⟩] scope pos) scope X.env _ (newList []) false (eval iter X.env) (some (assign (.Name x px) X.env))) _ _ s
 refine wpAny_bind (wpAny_mono (wpAny_comprehension_free (use:=some (assign (.Name x px) X.env)) (Q:=λ_ _=>False) (E:=XP X pins R) rfl hs (S.clos I.ok) S.kind S.loc
  (wpAny_mono (h pins s U H R I q) (λ_ _ z=>z.elim) λ_ _ z=>z)) (λ_ _ z=>z.elim) λ_ _ z=>z)
end
end L2
namespace T2
open PySem PySem.Spec PyProof.Rows L2
section
variable {K:Fg}{X:Cx}{pos p2 p3 p4:Pos}{value Q8:Expr}{wv wv2:WE}{s2:Str}{k3:Nat}{r:WR}
variable {LY iter J8:Expr}{Lu:List Expr}{scope:Scope}
theorem Cb {x:Str}{px MF:Pos}(h:QRE K X iter r)
  (Q0:swapsWith (.ListComp LY [⟨J8,iter,Lu,0⟩] scope pos) (some (.Name x px)) MF.line X.env=pure true:=by rfl) (Po:dC X.env.scope scope=true:=by rfl)
  (hs:∀ x,foldedSetIterable iter X.env x=pure x:=by intro _;rfl):QR K X (.Assign [.Name x px] (.ListComp LY [⟨J8,iter,Lu,0⟩] scope pos) MF) r:=Ca h Q0 Po hs
end
end T2
namespace T2
open PySem L2
end T2
namespace L2
open PySem PySem.Spec PyProof.Rows
section
variable {X:Cx}
end
end L2
namespace T2
open PySem PySem.Spec PyProof.Rows L2
section
variable {K:Fg}{X:Cx}
end
end T2
namespace L2
open PySem PySem.Spec PyProof.Rows
end L2
namespace T2
open PySem PySem.Spec PyProof.Rows L2
section
variable {K:Fg}{X:Cx}
end
structure XC (K:Fg) (C:Addr):Prop where
 kp:PySem.W.keepIn K (.ref C)=true
 get:PySem.W.XGet K C
 cl:(PySem.W.clsIn K C).isSome=true
 ca:PySem.W.findIn K (.ref C) "__class__"=some (some (.builtin "object.__class__"))
 cn:PySem.W.specialIn K (.builtin "object.__class__") "__get__"=some (some (.builtin "getset_descriptor.__get__"))
 ct:PySem.W.takesIn K (.builtin "object.__class__")=some true
 ob:PySem.W.mroIn K C (.type "object")=some true
 sa:PySem.W.findIn K (.ref C) "__setattr__"=some (some (.builtin "object.__setattr__"))
 ov:PySem.W.xOver K C=true
theorem XC.of {K:Fg}{C:Addr}(h:nY K C=true):XC K C:=by
 simp only [nY,Bool.and_eq_true,beq_iff_eq] at h
 obtain ⟨⟨⟨⟨⟨⟨⟨⟨⟨⟨a,b⟩,c⟩,d⟩,e⟩,f⟩,g⟩,i⟩,j⟩,k⟩,l⟩:=h
 exact ⟨a,⟨b,c,d⟩,e,f,g,i,j,k,l⟩
theorem XC.dct {K:Fg}{C:Addr}(x:XC K C):PySem.W.hasDictIn K C=true:=by
 obtain ⟨cd,hc,hb⟩:=PySem.W.any_some x.ov
 unfold PySem.W.hasDictIn
 rw [hc]
 exact (Bool.and_eq_true_iff.mp hb).2
section
variable {P:Program}{w:World}{H:Hp}{h:Heap}{C e t0:Addr}{dx:Option Addr}
theorem nO (q:h.get? e=some (d8 C t0 dx)):aN P w H h e (xH C e dx):=⟨⟨t0,q⟩,⟨_,q⟩,λ_ _ zz115 k=>by obtain ⟨t,z⟩:=zz115;exact ⟨t,k _ z⟩⟩
theorem mW (ok:HOk P w H h) (q:H e=some (xH C e dx)):∃ t0,h.get? e=some (d8 C t0 dx):=(show aN P w H h e (xH C e dx) from ok e _ q).1
end
section
variable {X:Cx}{pins:List (Addr×Obj)}{U:L2.St}{H:Hp}{s:Shared}{C e:Addr}{us:List Value}{vs:List V}{Q:VK}{A:Around}{E:Value->Shared->Prop}
def del (H:Hp) (a:Addr):Hp:=λb=>if b=a then none else H b
theorem lK {a:Addr}:del H a a=none:=by unfold del;rw [if_pos rfl]
theorem gJ {a b:Addr}(h:b≠a):del H a b=H b:=by unfold del;rw [if_neg h]
theorem iw {a b:Addr}(h:H b=none):del H a b=none:=by
 by_cases q:b=a
 ·rw [q];exact lK
 ·rw [gJ q];exact h
theorem Ak {a:Addr}{φ:Heap->Prop}(I:Inv X pins U H s) (ea:H a=some (.ext φ)):Inv X pins U (del H a) s:=by
 have up:∀ b u,H b=some u->(∀ ψ,u≠.ext ψ)->del H a b=some u:=λb u e n=>by
  rw [gJ λz=>by rw [z,ea] at e;cases e;exact n _ rfl];exact e
 refine ⟨I.ok,I.os,I.bare,⟨I.base.keep,I.base.slot,λb u e n hx=>iw (I.base.free b u e n hx),I.base.there,λb xs e=>up b _ (I.base.tups b xs e) (λ_ z=>by cases z),λb u v e=>up b _ (I.base.frzs b u v e) (λ_ z=>by cases z),λb ps e=>?_⟩,I.loc,I.cell,iw I.free,λx c e=>iw (I.freeC x c e),λp hp=>?_,λb ob e=>?_,I.len⟩
 ·obtain ⟨m,q⟩:=I.base.tbls b ps e
  exact ⟨m,up b _ q λ_ z=>by cases z⟩
 ·obtain ⟨e,n,r⟩:=I.pin p hp
  exact ⟨e,iw n,r⟩
 ·have hb:b≠a:=λz=>by rw [z,lK] at e;cases e
  rw [gJ hb] at e
  exact (I.hok b ob e).stay (λc w' hc q=>q) (λc q=>up c _ q λ_ z=>by cases z) λc xs q=>up c _ q λ_ z=>by cases z
theorem Al {CX:CXT}{k:Nat}{f:Addr}{fd:FuncData}{ps:List Str}{sp:Sp}{ds:List Value}{dvs:List V}{EX:XK}(hx:aV X.K C (some (.ref f))=true) (P6:PySem.W.isFn X.K (.ref f)=true) (F:FnOk X.prog X.w X.K X.mg X.base CX k f fd ps sp) (hr:Room (k+1) X.A) (hb:ap X.K fd ps ds) (hd:ag dvs ds)
  (hp:c7 CX X EX) (I:Inv X pins U H s) (r:ag vs us) (hl:us.length<=sizeLine)
  (W:Addr->Hp->Prop) (h:∀ e,H e=none->sp (.ref e::(vs++dvs)) (upd H e (xH C e none)) (λv H2=>v=.non/\W e H2) EX) :
  wpAny (model X.prog X.w) X.A (call (.ref C) us) (λv s'=>∃ e H',v=.ref e/\s.heap.objs.size<=e/\Inv X pins U H' s'/\W e H') X.xe s:=by
 obtain ⟨bm,N,nm,q,bs,hdc,sn,sub,ab,col,dd,k0,k1,k2,k3,k5,mN,hC,hN,hi,T⟩:=fU I.kIn hx
 obtain ⟨oI,hfI,Qf⟩:∃ oI,s.heap.get? f=some oI/\oI.cls=.type "function":=by
  have e:=beq_iff_eq.mp P6
  obtain ⟨o,eo,ec⟩:=Option.map_eq_some_iff.mp (show (X.K.lookup f).map (·.cls)=some (.type "function") from e)
  exact ⟨o,I.kIn _ _ eo,ec⟩
 obtain ⟨hp',g,d,t,os⟩:=s
 refine xK PySem.F.excBase_ValueError T hC hN hi hfI Qf (λh' e m hz=>?_) hl
 obtain ⟨t0,h1,_,_⟩:=m.there
 have I2:Inv X pins U (upd H e (xH C e none)) ⟨h',g,d,t,os⟩:=I.laid (t':=t) m.keeps hz (nO h1)
 have hq:=h e (I.hok.fresh hz)
 have r2:ag (V.ref e::(vs++dvs)) (Value.ref e::(us++ds)):=.cons rfl (r.append hd)
 have hl2:(Value.ref e::us++ds).length=ps.length:=by
  have z:=r2.length
  rw [F.len _ _ _ _ hq] at z
  exact z.symm
 refine wpAny_call (codeAny_mono (F.run _ X.stack _ _ ⟨Value.ref e::us,[]⟩ (Value.ref e::(us++ds)) _ _ EX (hr.make C us []) (I2.env0.make C us []) (hb _ (Value.ref e::us) I2.kIn hl2) r2 hq) λr s' Pj=>?_)
 cases r with
 |error z=>exact hp pins U _ _ z s' I2 Pj
 |ok fl =>
  cases fl with
  |ret u =>
   obtain ⟨v,H',I3,rv,ev,q3⟩:=I2.after Pj
   subst ev
   exact ⟨rv,e,H',rfl,hz,I3,q3⟩
  |next=>exact False.elim Pj
  |brk=>exact False.elim Pj
  |cont=>exact False.elim Pj
theorem Cc {a dx:Addr}{φ:Heap->Prop}{oa od:HO}{h':Heap}{t':Nat}(I:Inv X pins U H s) (ea:H a=some (.ext φ)) (hz:s.heap.objs.size<=dx) (k:∀ b o,b≠a->s.heap.get? b=some o->h'.get? b=some o) (ha:∃ o,h'.get? a=some o)
  (na:aN X.prog X.w (upd (upd H dx od) a oa) h' a oa) (nd:aN X.prog X.w (upd (upd H dx od) a oa) h' dx od):Inv X pins U (upd (upd H dx od) a oa) { s with heap:=h',toks:=t' }:=by
 have hd:H dx=none:=I.hok.fresh hz
 have lt:∀ b o,s.heap.get? b=some o->b≠dx:=λb o e z=>by
  subst z
  exact absurd (Heap.lt_size e) (Nat.not_lt.mpr hz)
 have ot:∀ b u,H b=some u->(∀ ψ,u≠.ext ψ)->(upd (upd H dx od) a oa) b=some u:=λb u e n=>by
  rw [ao (bJ e ea (n _)),ao (bt e hd)];exact e
 refine I.un ⟨λb o e n _ _=>k b o (λz=>by rw [z,ea] at n;cases n) e,λb o e n _ _=>⟨o.slots,k b o (λz=>by rw [z,ea] at n;cases n) e⟩,
  λb o e n _=>by rw [ao (λz=>by rw [z,ea] at n;cases n),ao (lt b o e)];exact n,
  λb o e _=>by
   by_cases z:b=a
   ·rw [z];exact ha
   ·exact ⟨o,k b o z e⟩,
  λb xs e=>ot b _ e (λ_ z=>by cases z),λb o u e=>ot b _ e (λ_ z=>by cases z),λb ps e=>⟨#[],by rw [Array.append_empty];exact ot b _ e (λ_ z=>by cases z)⟩⟩ λb u e=>?_
 by_cases hb:b=a
 ·subst hb;rw [aF] at e;cases e;exact na
 ·rw [ao hb] at e
  by_cases O2:b=dx
  ·subst O2;rw [aF] at e;cases e;exact nd
  ·rw [ao O2] at e
   refine (I.hok b u e).stay (λc v hc r=>k c v ?_ r) (λc r=>ot c _ r (λ_ z=>by cases z)) λc xs r=>ot c _ r (λ_ z=>by cases z)
   rcases hc with rfl|hc
   ·exact hb
   ·rintro rfl;rw [ea] at hc;cases hc
end
section
variable {M:Model}{A:Around}{E:Value->Shared->Prop}{env:Env}
variable {nm q:Str}{C N:Addr}{bs bm:List Value}{hdct:Bool}{sn:List Str}{sub:List Value}{ab:Bool}{col:Option Bool}{dd:Option Addr}{k0 k1 k2 k3 k5:Option Value}{newId:String}
theorem xM {s:Shared}{x:Sem Value}{Q:Flow->Shared->Prop}(KZ:bm.contains (.type "BaseException")=true) (hh:A.handled=none)
  (h:wpAny M A x (λv Kb=>∃ e t dx,v=.ref e/\Kb.heap.get? C=some (excClassObj nm q C N bs bm hdct sn sub ab col dd k0 k1 k2 k3 k5 newId) /\
   Kb.heap.get? e=some (d8 C t dx)/\E (.ref e) Kb) E s) :
  wpAny M A (raiseStmt env (some x) none) Q E s:=by
 have hcB:(Value.ref C::bm).contains (.type "BaseException")=true:=by rw [List.contains_cons,KZ,Bool.or_true]
 unfold raiseStmt
 refine wpAny_bind (wpAny_mono h (λv Kb h₁=>?_) λ_ _ x=>x)
 obtain ⟨e,t,dx,rfl,hC,he,hE⟩:=h₁
 unfold d8 at he
 obtain ⟨hp,g,d,tk,os⟩:=Kb
 repeat (first|with_reducible refine wpAny_loadPart_at he ?_|with_reducible refine wpAny_loadPart_at hC ?_|(with_reducible refine wpAny_isSubtype_exc hC ?_;rw [hcB])|wp_step)
 exact wpAny_raiseNew_none hh hE
end
section
variable {K:Fg}{X:Cx}{C:Addr}{x:Str}{p pos O1 apos KA:Pos}{e o value:Expr}{es:List Expr}{t:TA}{wr:WA}{ta tv:TE}{wa wv:WE}{f:Str}
def Cd (C:Addr) (sp:Sp) (t:TA):TR:=λU H R=>t U H λvs H1=>vs.length<=2/\∀ e,H1 e=none->sp (.ref e::(vs++[])) (upd H1 e (xH C e none)) (λv H2=>v=.non/\∃ dx,H2 e=some (xH C e dx)/\R C dx U (del H2 e)) E0
theorem yK {k:Nat}{fi:Addr}{fd:FuncData}{ps:List Str}{sp:Sp}(hx:aV X.K C (some (.ref fi))=true) (hk:PySem.W.keepIn X.K (.ref C)=true) (P6:PySem.W.isFn X.K (.ref fi)=true) (F:FnOk X.prog X.w X.K X.mg X.base CX0 k fi fd ps sp) (hr:Room (k+1) X.A) (hb:ap X.K fd ps [])
  (hc:X.calm=true) (hg:Gl X x) (hm:X.mg x=some (.ref C)) (ha:PA X.nox (e::es) t) (KC:(x==("__debug__":Str))=false:=by decide)
  (he:starEach (e::es) X.env=(false,eval e X.env)::starEach es X.env:=by rfl) (KL:(backTo pos (starEach es X.env)).any (·.1)=false:=by rfl):PR X (.Raise (some (.Call (.Name x p) (e::es) [] pos)) none O1) (Cd C sp t):=by
 intro pins s U H R I h
 obtain ⟨bm,N,nm,q,bs,hd,sn,sub,ab,col,dd,k0,k1,k2,k3,k5,mN,hC,hN,hi,T⟩:=fU I.kIn hx
 have KZ:bm.contains (.type "BaseException")=true:=T.hasType (by decide)
 rw [arm_exec_Raise]
 have go:wpAny (model X.prog X.w) X.A (eval (.Call (.Name x p) (e::es) [] pos) X.env) (λv s1=>∃ en t0 dx,v=.ref en/\s1.heap.get? C=some (excClassObj nm q C N bs bm hd sn sub ab col dd k0 k1 k2 k3 k5 "ValueError.__new__") /\
   s1.heap.get? en=some (d8 C t0 dx)/\XP X pins R (.ref en) s1) (XP X pins R) s:=by
  refine wpAny_Call_Name_kw (cG I hg hm ?_ KC)
  refine PySem.W.callWith_K (h₀:=X.base) I.ok.mod.kin hk (b5 (ha pos pins s U H _ (I.wish _) h) λus s1 ⟨vs,H1,I1,r,hl,q1⟩=>⟨I1.unwish.kIn,?_⟩) he KL
  refine b5 (Al (X:=X.nox) (dvs:=[]) (ds:=[]) hx P6 F hr hb .nil fh I1 r (by have:=r.length;rw [sizeLine_eq];omega) (λe H2=>∃ dx,H2 e=some (xH C e dx)/\R C dx U (del H2 e)) q1) λv s2 ⟨en,H2,ev,hz,I2,dx,ee,q2⟩=>?_
  subst ev
  have J:=I2.unwish
  obtain ⟨t0,g0⟩:=mW J.hok ee
  have same:s2.heap.get? C=some (excClassObj nm q C N bs bm hd sn sub ab col dd k0 k1 k2 k3 k5 "ValueError.__new__"):=by
   have z:=pO I.kIn J.kIn hx
   rw [<- z];exact hC
  refine ⟨en,t0,dx,rfl,same,g0,en,C,dx,U,del H2 en,s1.heap.objs.size,rfl,Ak J ee,I1.unwish.low,⟨_,_,.none,g0,rfl,rfl,rfl,⟨rfl,rfl⟩,hz,lK,.inl rfl⟩,q2⟩
 exact wpAny_bind (wpAny_standAt (xM (C:=C) (nm:=nm) (q:=q) (N:=N) (bs:=bs) (bm:=bm) (hdct:=hd) (sn:=sn) (sub:=sub) (ab:=ab) (col:=col) (dd:=dd) (k0:=k0) (k1:=k1) (k2:=k2) (k3:=k3) (k5:=k5) (newId:="ValueError.__new__") KZ (I.ok.hd hc)
  (wpAny_bind (wpAny_mono go (λv s3 h3=>wpAny_bind (wpAny_standAt (wpAny_pure h3))) λ_ _ z=>z))))
def dw (S:Sto) (a:Addr):Sto:=λb=>if b=a then none else S b
theorem mv {S:Sto}{a b:Addr}(h:b≠a):dw S a b=S b:=by unfold dw;rw [if_neg h]
theorem yL {S:Sto}{a:Addr}:dw S a a=none:=by unfold dw;rw [if_pos rfl]
def qh (C:Addr) (Ka:WSp) (wr:WA):WR:=λU S R=>wr U S λts S1=>ts.length<=2/\∀ e,S1 e=none->Ka (.ref e::ts) (put S1 e (.exc C [])) (λt S2=>t=.non/\∃ r,S2 e=some (.exc C [("row",.int r)])/\R (C,some r) U (dw S2 e))
theorem yM {k:Nat}{fi:Addr}{fd:FuncData}{ps:List Str}{Ka:WSp}(hx:aV X.K C (some (.ref fi))=true) (hk:PySem.W.keepIn X.K (.ref C)=true) (P6:PySem.W.isFn X.K (.ref fi)=true) (F:FnOk X.prog X.w X.K X.mg X.base CX0 k fi fd ps (lSp K Ka)) (hr:Room (k+1) X.A) (hb:ap X.K fd ps [])
  (hc:X.calm=true) (hg:Gl X x) (hm:X.mg x=some (.ref C)) (ha:QA K X.nox (e::es) wr) (KC:(x==("__debug__":Str))=false:=by decide)
  (he:starEach (e::es) X.env=(false,eval e X.env)::starEach es X.env:=by rfl) (KL:(backTo pos (starEach es X.env)).any (·.1)=false:=by rfl):QR K X (.Raise (some (.Call (.Name x p) (e::es) [] pos)) none O1) (qh C Ka wr) :=
 PR.of (yK hx hk P6 F hr hb hc hg hm ha KC he KL) λU H R zz116=>by
  obtain ⟨S,J6,Rt,s,c,q,hq⟩:=zz116
  refine ⟨S,J6,_,s,c,q,λvs H1 ts S1 f1 s1 r1 ⟨hl,q1⟩=>⟨by rw [r1.length];exact hl,λe he=>?_⟩⟩
  refine ⟨_,_,_,s1.newT he (.exc0 aF),.cons .ref (by rw [List.append_nil];exact r1.fr (Fr.newT he)),q1 e (s1.fresh he),λv H' t S' f s' r' q'=>?_⟩
  obtain ⟨rfl,r,ee,q'⟩:=q'
  cases r'
  have ff:=(f1.trans (Fr.newT he)).trans f
  cases s' e _ ee with
  |@exc _ dx fs _ ne eh n ed pr =>
   have fc:Fr H' S' (del H' e) (dw S' e):=λb u eb nb=>by
    have hb:b≠e:=λz=>by rw [z,ee] at nb;cases nb
    exact ⟨by rw [gJ hb];exact eb,by rw [mv hb];exact nb⟩
   have sc:SRp K (del H' e) (dw S' e):=λb u eb=>by
    have hb:b≠e:=λz=>by rw [z,yL] at eb;cases eb
    rw [mv hb] at eb
    exact (s' b u eb).fr fc (gJ hb)
   have efs:fs=[(("row":Str),V.int r)]:=by
    cases pr with
    |cons z zs =>
     cases zs
     rename_i q
     obtain ⟨q1,q2⟩:=q
     obtain ⟨z1,z2⟩:=z
     dsimp only at z1 z2
     subst z1
     rw [z2.iint]
   subst efs
   exact ⟨rfl,some dx,eh,hq (C,some r) U _ J6 _ (ff.trans fc) sc (c.fr (ff.trans fc)) q' _ (.inr ⟨r,dx,rfl,rfl,(fc _ _ ed n).2,(fc _ _ ed n).1⟩)⟩
theorem Am {Ka:WSp}{U:StT}{S:Sto}{R:WX}(h:wr U S λts S1=>ts.length<=2/\∀ e,S1 e=none->Ka (.ref e::ts) (put S1 e (.exc C [])) (λt S2=>t=.non/\∃ r,S2 e=some (.exc C [("row",.int r)])/\R (C,some r) U (dw S2 e))):qh C Ka wr U S R:=h
def Fd (K:Fg) (t:TA):TE:=λU H Q=>t U H λvs H1=>∃ e C v r,vs=[.ref e,v]/\H1 e=some (xH C e none)/\aV K C r=true/\Q .non (upd H1 e (xH C e none))
theorem An {B:Addr}{pl:Sem Bool}(hg:Gl X x) (hm:X.mg x=some (.ref B)) (OU:PySem.W.specialIn X.K (.ref B) "__getattribute__"=some (some (.builtin "type.__getattribute__"))) (hrd:PySem.W.readsIn X.K B (.type "type")=true)
  (Qf:PySem.W.findCls X.K (.ref B) (.type "type") "__init__"=some (.val (.builtin "ValueError.__init__"))) (ha:PA X (e::es) t) (KC:(x==("__debug__":Str))=false:=by decide)
  (Nb:starEach (e::es) X.env=(false,eval e X.env)::starEach es X.env:=by rfl) (KL:(backTo pos (starEach es X.env)).any (·.1)=false:=by rfl)
  (ht:eval (.Call (.Attribute (.Name x p) "__init__" apos) (e::es) [] pos) X.env=(do
   let ov <- eval (.Name x p) X.env
   standAt apos.atName
   let (f,first) <- holding [ov] (getMethod ov "__init__" pl)
   callWith pos f first (backTo pos (starEach (e::es) X.env)) (backToKw pos (keywordEach [] X.env))):=by rfl) :
  PE X (.Call (.Attribute (.Name x p) "__init__" apos) (e::es) [] pos) (Fd X.K t):=by
 intro pins s U H Q I h
 refine PySem.W.methodCall_KW (pl:=pl) (cG I hg hm ?_ KC) ht
 refine PySem.W.method_cls I.kIn OU (PySem.W.cls_value I.kIn hrd Qf rfl ?_)
 have I0:=I.tok (s.toks+1)
 refine PyProof.Rows.callWith_builtin1 (thn (ha pos pins _ U H _ I0 h) λus s1 ⟨vs,H1,I1,r1,en,C,v,r,ev,eh,hx,q1⟩=>?_) Nb KL
 subst ev
 obtain ⟨u1,u2,rfl,rr1,rr2⟩:=i5 r1
 obtain rfl:u1=Value.ref en:=rr1
 obtain ⟨bm,N,nm,q,bs,hd,sn,sub,ab,col,dd,k0,k1,k2,k3,k5,mN,hC,hN,hi,T⟩:=fU I1.kIn hx
 obtain ⟨t0,g0⟩:=mW I1.hok eh
 obtain ⟨hp,g,d,tt,os⟩:=s1
 refine v2 (rest:=[u2]) PySem.F.excBase_ValueError T hC g0 (λh' t1 kp ge _=>?_) (by rw [sizeLine_eq,List.length_cons,List.length_nil];omega)
 exact ⟨.non,_,I1.write (x:=en) (e:=en) (t':=tt) (by rw [eh];exact True.intro) (.inl rfl) (λb u hb z=>kp b u hb z) ⟨_,ge⟩ (nO ge),rfl,q1⟩
def sy (K:Fg) (wr:WA):WE:=λU S Q=>wr U S λts S1=>∃ e C t r,ts=[.ref e,t]/\S1 e=some (.exc C [])/\aV K C r=true/\Q .non S1
theorem yN {S:Sto}{a:Addr}{o:O}(h:S a=some o):put S a o=S:=by
 funext b;unfold put
 by_cases q:b=a
 ·rw [if_pos q,q,h]
 ·rw [if_neg q]
theorem Ce {B:Addr}{pl:Sem Bool}(hK:X.K=K) (hg:Gl X x) (hm:X.mg x=some (.ref B)) (OU:PySem.W.specialIn X.K (.ref B) "__getattribute__"=some (some (.builtin "type.__getattribute__"))) (hrd:PySem.W.readsIn X.K B (.type "type")=true)
  (Qf:PySem.W.findCls X.K (.ref B) (.type "type") "__init__"=some (.val (.builtin "ValueError.__init__"))) (ha:QA K X (e::es) wr) (KC:(x==("__debug__":Str))=false:=by decide)
  (Nb:starEach (e::es) X.env=(false,eval e X.env)::starEach es X.env:=by rfl) (KL:(backTo pos (starEach es X.env)).any (·.1)=false:=by rfl)
  (ht:eval (.Call (.Attribute (.Name x p) "__init__" apos) (e::es) [] pos) X.env=(do
   let ov <- eval (.Name x p) X.env
   standAt apos.atName
   let (f,first) <- holding [ov] (getMethod ov "__init__" pl)
   callWith pos f first (backTo pos (starEach (e::es) X.env)) (backToKw pos (keywordEach [] X.env))):=by rfl) :
  QE K X (.Call (.Attribute (.Name x p) "__init__" apos) (e::es) [] pos) (sy K wr):=by
 subst hK
 refine PE.of (An (pl:=pl) hg hm OU hrd Qf ha KC Nb KL ht) λU H Q zz117=>?_
 obtain ⟨S,J6,Qt,s,c,q,hq⟩:=zz117
 refine ⟨S,J6,_,s,c,q,λvs H1 ts S1 f1 s1 r1 q1=>?_⟩
 obtain ⟨en,C,t,r,rfl,es1,hx,q1⟩:=q1
 cases r1 with
 |cons a l =>
  cases a
  cases l with
  |cons a2 l2 =>
   cases l2
   cases s1 en _ es1 with
   |exc ne=>exact absurd rfl ne
   |exc0 eh =>
    have hn:S1 en≠none:=by rw [es1];simp
    have z:=hq .non (upd H1 en (xH C en none)) .non (put S1 en (.exc C [])) (f1.trans (Fr.write hn)) (s1.write hn (.exc0 aF)) .non (by rw [yN es1];exact q1)
    exact ⟨en,C,_,r,rfl,eh,hx,z⟩
def Ic (K:Fg) (ta tv:TE) (f:Str):TS:=λD U H=>tv U H λy H1=>ta U H1 λx H2=>∃ a C,x=.ref a/\H2 a=some (xH C a none)/\XC K C/\aC K C f/\∀ dx,H2 dx=none->dx≠a->D.nx U (upd (upd H2 dx (.xd [(f,y)])) a (xH C a (some dx)))
theorem Cf (ha:PE X o ta) (hv:PE X value tv) (hs:swapsWith value (some (.Attribute o f KA)) pos.line X.env=pure false:=by rfl):PS X (.Assign [.Attribute o f KA] value pos) (Ic X.K ta tv f):=by
 intro pins s U H D I h
 refine plainObj_wpAny_Assign_Attribute (thn (hv pins s U H _ I h) λu s1 ⟨y,H1,I1,ry,q⟩=>thn (ha pins s1 U H1 _ I1 q) λov s2 ⟨x,H2,I2,rx,a,C,ex,ea,c,n,q2⟩=>?_) hs
 subst ex
 obtain rfl:ov=Value.ref a:=rx
 obtain ⟨t0,g0⟩:=mW I2.hok ea
 have J:PySem.W.InstAt s2.heap a (d8 C t0 none) C none:=⟨g0,rfl,rfl,True.intro⟩
 refine PySem.W.xset I2.kIn J rfl c.sa c.ov c.ob n.taker λh' dx Q7 hz gx OB kp=>?_
 have hd:H2 dx=none:=I2.hok.fresh hz
 have ne:dx≠a:=λz=>by rw [z,ea] at hd;cases hd
 refine ⟨U,_,Cc (t':=Q7) (od:=.xd [(f,y)]) I2 ea hz kp ⟨_,gx⟩ (nO (t0:=t0) gx) ⟨_,OB,λg=>?_⟩,q2 dx hd ne⟩
 show bG ([(f,y)].lookup g) (if g=f then some u else none)
 by_cases z:g=f
 ·rw [if_pos z,z,List.lookup_cons,beq_self_eq_true];exact ry
 ·rw [if_neg z,List.lookup_cons,show (g==f)=false from beq_eq_false_iff_ne.mpr z];exact True.intro
def ua (G:Addr->Prop) (wa wv:WE) (f:Str):WS:=λD U S=>wv U S λy S1=>wa U S1 λx S2=>∃ a C,x=.ref a/\S2 a=some (.exc C [])/\G C/\D.nx U (put S2 a (.exc C [(f,y)]))
theorem Fe {G:Addr->Prop}(hK:X.K=K) (hG:∀ C,G C->XC K C/\aC K C f) (ha:QE K X o wa) (hv:QE K X value wv) (hs:swapsWith value (some (.Attribute o f KA)) pos.line X.env=pure false:=by rfl) :
  QS K X (.Assign [.Attribute o f KA] value pos) (ua G wa wv f):=by
 subst hK
 refine PS.of (Cf ha hv hs) λD U H zz118=>?_
 obtain ⟨S,J6,Dt,s,c,q,he⟩:=zz118
 refine ⟨S,J6,_,s,c,q,λy H1 ty S1 f1 s1 r1 q1=>?_⟩
 refine ⟨S1,J6,_,s1,c.fr f1,q1,λx H2 tx S2 f2 s2 r2 q2=>?_⟩
 obtain ⟨a,C,rfl,ea,g,q2⟩:=q2
 cases r2
 cases s2 a _ ea with
 |exc ne=>exact absurd rfl ne
 |exc0 eh =>
  refine ⟨a,C,rfl,eh,(hG C g).1,(hG C g).2,λdx hd ne=>?_⟩
  have sd:S2 dx=none:=s2.fresh hd
  have fw:Fr H2 S2 (upd (upd H2 dx (.xd [(f,y)])) a (xH C a (some dx))) (put S2 a (.exc C [(f,ty)])):=λb u e n=>by
   have hb:b≠a:=λz=>by rw [z,ea] at n;cases n
   exact ⟨by rw [ao hb,ao (bt e hd)];exact e,by rw [av hb];exact n⟩
  have sw:SRp X.K (upd (upd H2 dx (.xd [(f,y)])) a (xH C a (some dx))) (put S2 a (.exc C [(f,ty)])):=λb u e=>by
   by_cases hb:b=a
   ·subst hb
    rw [aA] at e;cases e
    exact .exc (by simp) aF (by rw [av ne];exact sd) (by rw [ao ne];exact aF) (.cons ⟨rfl,(r1.fr f2).fr fw⟩ .nil)
   ·rw [av hb] at e
    obtain ⟨v,hv⟩:=(s2 b u e).some
    exact (s2 b u e).fr fw (by rw [ao hb,ao (bt hv hd)])
  exact he.nx _ _ J6 _ ((f1.trans f2).trans fw) sw (c.fr ((f1.trans f2).trans fw)) q2
end
section
variable {K:Fg}{U:StT}{S:Sto}{Q:T->Sto->Prop}{C a:Addr}{wr:WA}{wa wv:WE}{Ka:WSp}{fs:List (Str×T)}{D:EndsT}{G:Addr->Prop}{fl:Str}{t x y:T}
theorem Cg (h:wr U S λts S1=>∃ e C t r,ts=[.ref e,t]/\S1 e=some (.exc C [])/\aV K C r=true/\Q .non S1):sy K wr U S Q:=h
theorem Ch {r:Option Value}{R:Prop}(e:S a=some (.exc C [])) (hx:aV K C r=true) (h:R):∃ e' C' t' r',[T.ref a,t]=[.ref e',t']/\S e'=some (.exc C' [])/\aV K C' r'=true/\R:=⟨a,C,t,r,rfl,e,hx,h⟩
theorem Ff (h:wv U S λy S1=>wa U S1 λx S2=>∃ a C,x=.ref a/\S2 a=some (.exc C [])/\G C/\D.nx U (put S2 a (.exc C [(fl,y)]))):ua G wa wv fl D U S:=h
theorem Fh {P:Addr->Addr->Prop}(e:S a=some (.exc C [])) (g:G C) (h:P a C):∃ a' C',T.ref a=.ref a'/\S a'=some (.exc C' [])/\G C'/\P a' C':=⟨a,C,rfl,e,g,h⟩
end
end T2
namespace L2
open PySem PySem.Spec PyProof.Rows
section
variable {X:Cx}
abbrev THd:=Addr->Option Addr->Ends->St->Hp->Prop
def PHd (X:Cx) (hs:List ExceptHandler) (t:THd):Prop:=∀ (pins:List (Addr×Obj)) (s:Shared) (U:St) (H:Hp) (a C:Addr) (dct:Option Addr) (lo:Nat) (D:Ends),Inv X pins U H s->Low X pins lo->Xc.Exc s.heap lo (λb=>H b=none) a (.ref C) dct->t C dct D U H ->
 wpAny (model X.prog X.w) X.A (handleBy (.ref a) X.env hs) (SP X pins D) X.xe s
def mX (i:Nat) (D:Ends):Ends:={ D with nx:=λU H=>D.nx (U.set i none) H,bk:=λU H=>D.bk (U.set i none) H,ct:=λU H=>D.ct (U.set i none) H }
theorem Ie {P:Program}{w:World}{H:Hp}{h:Heap}{C a:Addr}{dx:Option Addr}(x:∃ ob,h.get? a=some ob/\ob.cls=.ref C/\ob.dict=dx/\∃ vs,ob.data=.fields vs):aN P w H h a (xG C a dx) :=
 ⟨x,let ⟨ob,e,_⟩:=x;⟨ob,e⟩,λ_ _ zz119 k=>by obtain ⟨ob,e,r⟩:=zz119;exact ⟨ob,k _ e,r⟩⟩
def Ig (K:PySem.W.Frag) (B:Addr) (i:Nat) (t:Addr->TS):THd:=λC dct D U H=>PySem.W.exmOne K (.ref C) (.ref B)=some true/\∀ a,H a=none->t a (mX i D) (U.set i (some (.ref a))) (upd H a (xG C a dct))
theorem Fi {x n:Str}{B:Addr}{i:Nat}{p pos:Pos}{st:Stmt}{suite:List Stmt}{hs:List ExceptHandler}{t:Addr->TS}(hN:X.N.Nodup) (hi:X.N[i]?=some n) (hn:X.env.scope.names.lookup n=some .local) (hg:Gl X x) (hm:X.mg x=some (.ref B)) (h1:∀ a,PSs (X.inx a) (st::suite) (t a)) (KC:(x==("__debug__":Str))=false:=by decide) :
  PHd X (.ExceptHandler (some (.Name x p)) (some n) (st::suite) pos::hs) (Ig X.K B i t):=by
 rintro pins s U H a C dct lo D I lw x ⟨hb,q⟩
 refine wpAny_handleBy_cons (codeAny_handlers_test (cG (X:=X.inx a) (I.inx a) hg hm ?_ KC)) (by intro z;cases z)
 obtain ⟨oe,ge,hc,_⟩:=x.there
 have lt:PySem.W.Looks (model X.prog X.w) s.heap (typeOf (.ref a)) (.ref C):=hc ▸ (PySem.W.Looks.ld ge).andThen .now
 refine (PySem.W.exm_one (M:=model X.prog X.w) I.kIn lt hb).here ?_
 refine codeAny_handlers_suite_as ?_
 refine yG I lw x λs' I' x'=>?_
 obtain ⟨oe',_,_,ge',hc',hd',de',e2',O9,h0,_⟩:=x'
 have J:=(I'.add lw O9 h0 (Ie (C:=C) (dx:=dct) ⟨oe',ge',hc',hd',_,de'⟩)).inx a
 refine fV (X:=X.inx a) (v:=.ref a) J hN hi (.inl hn) rfl (λs2 J2=>?_) (.inr hn)
 refine wpAny_mono (h1 a pins s2 _ _ (mX i D) J2 (q a h0)) (λf s3 z=>?_) λ_ _ z=>z.elim
 have z:=SP.outx I.ok z
 cases f with
 |next=>obtain ⟨J7,H',I3,q3⟩:=z;exact iI I3 hN hi hn λs4 I4=>⟨_,_,I4,q3⟩
 |brk=>obtain ⟨J7,H',I3,q3⟩:=z;exact iI I3 hN hi hn λs4 I4=>⟨_,_,I4,q3⟩
 |cont=>obtain ⟨J7,H',I3,q3⟩:=z;exact iI I3 hN hi hn λs4 I4=>⟨_,_,I4,q3⟩
 |ret u=>obtain ⟨v,J7,H',I3,rv,q3⟩:=z;exact iI I3 hN hi hn λs4 I4=>⟨v,_,_,I4,rv,q3⟩
def Ih (tn:TS) (tr:TR) (th:THd):TS:=λD U H=>tn D U H\/tr U H λC dct J7 H'=>th C dct D J7 H'
theorem Ci {body:List Stmt}{hd:ExceptHandler}{hs:List ExceptHandler}{tn:TS}{tr:TR}{th:THd}{pos:Pos}(st:X.stack=X.env::X.outer/\X.env.frame=some X.env.locals) (hn:PSs X.nox body tn) (hr:PRs X body tr) (hh:PHd X (hd::hs) th) :
  PS X (.Try body (hd::hs) [] [] pos) (Ih tn tr th):=by
 intro pins s U H D I h
 rcases h with h|h
 ·refine wpAny_Try_except (wpAny_mono (hn pins s U H D (I.wish _) h) (λf s1 q=>?_) λ_ _ z=>z.elim)
  cases f with
  |next=>exact wpAny_execs_nil q.unwish
  |brk=>exact q.unwish
  |cont=>exact q.unwish
  |ret u=>exact q.unwish
 ·refine wpAny_Try_except (wpAny_mono (hr pins s U H _ I h) (λf s1 q=>q.elim) λe s1 ⟨a,C,dct,J7,H',lo,ee,J,lw,x,q⟩=>?_)
  subst ee
  have O9:lo<=s1.heap.objs.size:=Nat.le_of_lt (Nat.lt_of_le_of_lt (by obtain ⟨_,_,_,_,_,_,_,_,l,_⟩:=x;exact l) (by obtain ⟨oe,_,_,ge,_⟩:=x;exact Heap.lt_size ge))
  exact wpAny_mono (mr (fo:=none) J st lw O9 x λs2 J2 _ _ x2=>hh pins s2 J7 H' a C dct lo D J2 lw x2 q) (λ_ _ z=>z.2) λ_ _ z=>z
end
end L2
namespace T2
open PySem PySem.Spec PyProof.Rows L2
section
variable {K:Fg}{X:Cx}{pos p apos:Pos}{x:Str}{B:Addr}{o:Expr}{wa:WE}{ta:TE}
theorem Cov.none {H:Hp}{S:Sto}{U:L2.St}{J6:StT}(c:Cov K H S U J6) (i:Nat):Cov K H S (U.set i none) (J6.set i none):=by
 refine ⟨by rw [List.length_set,List.length_set];exact c.1,λj t e=>?_⟩
 rw [List.getElem?_set] at e
 split at e
 ·split at e<;>cases e
 ·rename_i h
  obtain ⟨v,e1,e2⟩:=c.2 j t e
  exact ⟨v,by rw [List.getElem?_set_ne h];exact e1,e2⟩
def asE (i:Nat) (D:EndsT):EndsT:={ D with nx:=λU S=>D.nx (U.set i none) S,bk:=λU S=>D.bk (U.set i none) S,ct:=λU S=>D.ct (U.set i none) S }
theorem EndsOk.as {H:Hp}{S:Sto}{Dt:EndsT}{D:Ends}(e:EndsOk K H S Dt D) (i:Nat):EndsOk K H S (asE i Dt) (mX i D) :=
 ⟨λJ7 H' Kd S' f s c q=>e.nx _ H' _ S' f s (c.none i) q,λv H' t S' f s r q=>e.rt v H' t S' f s r q,λJ7 H' Kd S' f s c q=>e.bk _ H' _ S' f s (c.none i) q,λJ7 H' Kd S' f s c q=>e.ct _ H' _ S' f s (c.none i) q⟩
abbrev WHd:=XA->WS
def lHd (K:Fg) (w:WHd):THd:=λC dct D U H=>∃ r S J6 Dt,SRp K H S/\Cov K H S U J6/\Dc H S r dct/\w (C,r) Dt J6 S/\EndsOk K H S Dt D
def QHd (K:Fg) (X:Cx) (hs:List ExceptHandler) (w:WHd):Prop:=PHd X hs (lHd K w)
theorem PHd.of {hs:List ExceptHandler}{t t':THd}(h:PHd X hs t) (i:∀ C d D U H,t' C d D U H->t C d D U H):PHd X hs t':=λpins s U H a C d lo D I lw x q=>h pins s U H a C d lo D I lw x (i C d D U H q)
def ub (K:Fg) (B:Addr) (i:Nat) (w:Addr->WS):WHd:=λC D U S=>PySem.W.exmOne K (.ref C.1) (.ref B)=some true/\∀ a,S a=none->w a (asE i D) (U.set i (some (.ref a))) (put S a (.exg C.1 C.2))
theorem Fj {n:Str}{i:Nat}{st:Stmt}{suite:List Stmt}{hs:List ExceptHandler}{w:Addr->WS}(hK:X.K=K) (hN:X.N.Nodup) (hi:X.N[i]?=some n) (hn:X.env.scope.names.lookup n=some .local) (hg:Gl X x) (hm:X.mg x=some (.ref B)) (h1:∀ a,QSs K (X.inx a) (st::suite) (w a)) (KC:(x==("__debug__":Str))=false:=by decide) :
  QHd K X (.ExceptHandler (some (.Name x p)) (some n) (st::suite) pos::hs) (ub K B i w):=by
 subst hK
 refine PHd.of (Fi hN hi hn hg hm h1 KC) λC d D U H zz120=>?_
 obtain ⟨r,S,J6,Dt,s,c,dd,⟨hb,q⟩,he⟩:=zz120
 refine ⟨hb,λa h0=>?_⟩
 have q:=q a (s.fresh h0)
 have f:=Fr.newT (S:=S) (u:=xG C a d) (o:=.exg C r) h0
 refine ⟨_,_,_,s.newT h0 ?_,(c.fr f).set .ref i,q,(he.fr f).as i⟩
 rcases dd with ⟨rfl,rfl⟩|⟨i',dx,rfl,rfl,n,e⟩
 ·exact .exg0 aF
 ·have ne:dx≠a:=λz=>by rw [z,h0] at e;cases e
  exact .exg aF (by rw [av ne];exact n) (by rw [ao ne];exact e)
def uc (wn:WS) (wr:WR) (wh:WHd):WS:=λD U S=>wn D U S\/wr U S λC J7 S'=>wh C D J7 S'
theorem Fk {body:List Stmt}{hd:ExceptHandler}{hs:List ExceptHandler}{wn:WS}{wr:WR}{wh:WHd}(st:X.stack=X.env::X.outer/\X.env.frame=some X.env.locals) (hn:QSs K X.nox body wn) (hr:QRs K X body wr) (hh:QHd K X (hd::hs) wh) :
  QS K X (.Try body (hd::hs) [] [] pos) (uc wn wr wh):=PS.of (Ci st hn hr hh) λD U H zz121=>by
 obtain ⟨S,J6,Dt,s,c,q,he⟩:=zz121
 rcases q with q|q
 ·exact .inl ⟨S,J6,Dt,s,c,q,he⟩
 ·exact .inr ⟨S,J6,_,s,c,q,λC J7 H' Kd S' f s' c' q' dct dd=>⟨C.2,S',Kd,Dt,s',c',dd,q',he.fr f⟩⟩
theorem Fl {U:StT}{S:Sto}{D:EndsT}{C:XA}{i:Nat}{w:Addr->WS}(e:PySem.W.exmOne K (.ref C.1) (.ref B)=some true) (h:∀ a,S a=none->w a (asE i D) (U.set i (some (.ref a))) (put S a (.exg C.1 C.2))):ub K B i w C D U S:=⟨e,h⟩
def Ii (K:Fg) (ta:TE):TE:=λU H Q=>ta U H λx H1=>∃ a C dx r,x=.ref a/\H1 a=some (xG C a (some dx))/\H1 dx=some (.xd [("row",.int r)])/\XC K C/\aC K C "row" /\ Q (.int r) H1
theorem Cj (he:PE X o ta) (hb:attributeBase o "row" X.env (eval o X.env)=eval o X.env:=by rfl):PE X (.Attribute o "row" pos) (Ii X.K ta):=by
 intro pins s U H Q I h
 refine qz hb (thn (he pins s U H _ I h) λu s1 zz122=>?_)
 obtain ⟨x,H1,I1,rx,a,C,dx,r,ex,ea,ed,c,n,q⟩:=zz122
 subst ex
 obtain rfl:u=Value.ref a:=rx
 obtain ⟨⟨oc,od',oda,osl⟩,g0,hc,hd,vs,hvs⟩:=(show aN X.prog X.w H1 s1.heap a (xG C a (some dx)) from I1.hok a _ ea).1
 dsimp only at hc hd hvs
 subst hc hd hvs
 obtain ⟨mA,OB,rr⟩:=(show aN X.prog X.w H1 s1.heap dx (.xd [("row",.int r)]) from I1.hok dx _ ed)
 obtain ⟨od,gd,hl⟩:=kW OB
 obtain ⟨u,hu,ru⟩:=bG.some_of (v:=V.int r) (o:=mA "row") (rr "row")
 exact PySem.W.xget_value c.get I1.kIn (od:=some od) ⟨g0,rfl,rfl,gd⟩ (PySem.W.findObj_own c.dct n rfl (by rw [hl,hu])) (pi ru) ⟨V.int r,H1,I1.tok _,ru,q⟩
def ud (G:Addr->Prop) (wa:WE):WE:=λU S Q=>wa U S λx S1=>∃ a C r,x=.ref a/\S1 a=some (.exg C (some r))/\G C/\Q (.int r) S1
theorem Fm {G:Addr->Prop}(hK:X.K=K) (hG:∀ C,G C->XC K C/\aC K C "row") (he:QE K X o wa) (hb:attributeBase o "row" X.env (eval o X.env)=eval o X.env:=by rfl):QE K X (.Attribute o "row" pos) (ud G wa):=by
 subst hK
 refine PE.of (Cj he hb) λU H Q zz123=>?_
 obtain ⟨S,J6,Qt,s,c,q,hq⟩:=zz123
 refine ⟨S,J6,_,s,c,q,λx H1 tx S1 f1 s1 r1 q1=>?_⟩
 obtain ⟨a,C,r,rfl,ea,g,q1⟩:=q1
 cases r1
 cases s1 a _ ea with
 |@exg _ dx _ eh n ed=>exact ⟨a,C,dx,r,rfl,eh,ed,(hG C g).1,(hG C g).2,hq _ H1 _ S1 f1 s1 .int q1⟩
theorem Fn {G:Addr->Prop}{U:StT}{S:Sto}{Q:T->Sto->Prop}(h:wa U S λx S1=>∃ a C r,x=.ref a/\S1 a=some (.exg C (some r))/\G C/\Q (.int r) S1):ud G wa U S Q:=h
end
section
variable {K:Fg}{X:Cx}{x:Str}{p:Pos}
theorem qi {x D:Addr}{ox:Obj}{od:Option Obj}(c:XC K D):PySem.W.KitX K (.ref x) (.ref D) (λh=>PySem.W.InstAt h x ox D od) where
 ty:=λ_ _ _ I=>I.type
 it:=λ_ _ X _=>by
  obtain ⟨cdD,Ph⟩:=Option.isSome_iff_exists.mp c.cl
  unfold PySem.W.clsIn at Ph
  split at Ph
  ·rename_i c' d' cd' sl' ho
   intro A' Q' E' s' k q
   unfold isType loadHead
   exact wpAny_bind (wpAny_loadPart (k _ _ (X _ _ ho)) (wpAny_pure q))
  ·cases Ph
 ne:=λh tp dd its n sl X htp=>by
  obtain ⟨cdD,Ph⟩:=Option.isSome_iff_exists.mp c.cl
  refine Bool.eq_false_iff.mpr λq=>?_
  have e:D=tp:=Value.ref.inj (beq_iff_eq.mp q)
  subst e
  unfold PySem.W.clsIn at Ph
  split at Ph
  ·rename_i c' d' cd' sl' ho
   have z:=(X _ _ ho).symm.trans htp
   cases z
  ·cases Ph
 ca:=λX I k=>PySem.W.xget_class c.get X I (PySem.W.findObj_class c.cl c.ca c.cn c.ct) c.ob k
def vq:T->Option Value
 |.ty n=>some (.type n)
 |.ref C=>some (.ref C)
 |_=>none
def vt (K:Fg) (G:Addr->Prop):GC:=λts S Q=>∃ a C r y c b,ts=[.ref a,y]/\S a=some (.exg C r)/\G C/\vq y=some c/\PySem.W.kitOne K (.ref C) c=some b/\Q (.bl b) S
theorem cV {G:Addr->Prop}(hK:X.K=K) (hG:∀ C,G C->XC K C):bu X (.builtin "isinstance") (lC K (vt K G)):=by
 subst hK
 rintro pins s U H xs us Q I r ⟨S,ts,Qt,sr,rs,hg,bh⟩
 obtain ⟨a,C,r,y,cv,b,rfl,ea,g,ey,ek,q⟩:=hg
 cases rs with
 |cons r1 l =>
  cases l with
  |cons r2 l2 =>
   cases l2
   cases r1
   obtain ⟨u1,u2,rfl,rr1,rr2⟩:=i5 r
   obtain rfl:u1=Value.ref a:=rr1
   have eu:u2=cv:=by
    cases r2<;>first|cases ey|skip
    ·exact rr2
    ·exact rr2
   subst eu
   have fin:∀ tk,EP X pins U Q (.bool b) { s with toks:=tk }:=λtk=>⟨.bl b,H,I.tok tk,rfl,bh _ H _ S .refl sr .bl q⟩
   cases sr a _ ea with
   |exg0 eh =>
    obtain ⟨oe,g0,hc,hd,vs,dv⟩:=(show aN X.prog X.w H s.heap a (xG C a none) from I.hok a _ eh).1
    exact PySem.W.kia_one (qi (od:=none) (ox:=oe) (hG C g)) I.kIn ⟨g0,hc,by unfold PySem.W.notCls;rw [dv],by rw [hd];trivial⟩ ek (λz=>nomatch z) fin
   |@exg _ dx _ eh n ed =>
    obtain ⟨oe,g0,hc,hd,vs,dv⟩:=(show aN X.prog X.w H s.heap a (xG C a (some dx)) from I.hok a _ eh).1
    obtain ⟨mA,OB,rr⟩:=(show aN X.prog X.w H s.heap dx (.xd [("row",_)]) from I.hok dx _ ed)
    obtain ⟨od,gd,hl⟩:=kW OB
    exact PySem.W.kia_one (qi (od:=some od) (ox:=oe) (hG C g)) I.kIn ⟨g0,hc,by unfold PySem.W.notCls;rw [dv],by rw [hd];exact gd⟩ ek (λz=>nomatch z) fin
theorem cW {G:Addr->Prop}{S:Sto}{Q:T->Sto->Prop}{a C:Addr}{r:Option Int}{y:T}{c:Value}{b:Bool}(h1:S a=some (.exg C r)) (h2:G C) (h3:vq y=some c) (h4:PySem.W.kitOne K (.ref C) c=some b) (h:Q (.bl b) S):vt K G [.ref a,y] S Q:=⟨a,C,r,y,c,b,rfl,h1,h2,h3,h4,h⟩
theorem Fo {C:Addr}(hg:Gl X x) (hm:X.mg x=some (.ref C)) (KC:(x==("__debug__":Str))=false:=by decide):PE X (.Name x p) (λ_ H Q=>Q (.ref C) H):=by
 intro pins s U H Q I h
 exact cG I hg hm ⟨.ref C,H,I,rfl,h⟩ KC
def vv (C:Addr):WE:=λ_ S Q=>Q (.ref C) S
theorem df {C:Addr}(hg:Gl X x) (hm:X.mg x=some (.ref C)) (KC:(x==("__debug__":Str))=false:=by decide):QE K X (.Name x p) (vv C) :=
 PE.of (Fo hg hm KC) λU H Q zz124=>by obtain ⟨S,J6,Qt,s,c,q,hq⟩:=zz124;exact hq _ H _ S .refl s .ref q
theorem Ij {C:Addr}{U:StT}{S:Sto}{Q:T->Sto->Prop}(h:Q (.ref C) S):vv C U S Q:=h
end
end T2
namespace L2
open PySem PySem.Spec PyProof.Rows
theorem Fp {X:Cx}{tg e:Expr}{r:TR}{pos:Pos}(h:PRE X e r) (hs:swapsWithSole [tg] e pos.line X.env=pure false:=by rfl) (hw:swappedStores [tg] e X.env=pure none:=by rfl):PR X (.Assign [tg] e pos) r :=
 λpins s U H R I q=>wpAny_Assign_stores (wpAny_mono (h pins s U H R I q) (λ_ _ z=>z.elim) λ_ _ z=>z) hs hw
end L2
namespace T2
open PySem PySem.Spec PyProof.Rows L2
theorem Fq {K:Fg}{X:Cx}{tg e:Expr}{r:WR}{pos:Pos}(h:QRE K X e r) (hs:swapsWithSole [tg] e pos.line X.env=pure false:=by rfl) (hw:swappedStores [tg] e X.env=pure none:=by rfl):QR K X (.Assign [tg] e pos) r:=Fp h hs hw
section
variable {K:Fg}{X:Cx}{k:Nat}{f C:Addr}{fd:FuncData}{ps:List Str}{Ka:WSp}{wsr:aU}{x m fl:Str}{p pos apos cpos KA:Pos}{e o value:Expr}{es:List Expr}{wa wv:WE}{wr:WA}{G:Addr->Prop}{i:Int}{tk:Tok}
def qW (G:Addr->Prop) (m:Str) (i:Int) (Ka:aU) (wa:WE) (wr:WA):WR:=λU S R=>wa U S λx S1=>∃ a C fs,x=.ref a/\S1 a=some (.ins C fs)/\G C/\fs.lookup m=none/\wr U S1 λts S2=>Ka (x::(ts++[.int i])) S2 λC S'=>R C U S'
theorem Ao {pl:Sem Bool}(hG:∀ C,G C->Cls X.K C/\Meth X.K C m f) (F:FnOk X.prog X.w X.K X.mg X.base (CX1 X.prog X.w) k f fd ps (az K wsr)) (hb:ap X.K fd ps [.int i tk]) (hr:Room k X.A) (ho:QE K X.nox o wa) (ha:QA K X.nox (e::es) wr)
  (Nb:starEach (e::es) X.env=(false,eval e X.env)::starEach es X.env:=by rfl) (KL:(backTo pos (starEach es X.env)).any (·.1)=false:=by rfl)
  (ht:eval (.Call (.Attribute o m apos) (e::es) [] pos) X.env=(do
   let ov <- eval o X.env
   standAt apos.atName
   let (f,first) <- holding [ov] (getMethod ov m pl)
   callWith pos f first (backTo pos (starEach (e::es) X.env)) (backToKw pos (keywordEach [] X.env))):=by rfl) :
  QRE K X (.Call (.Attribute o m apos) (e::es) [] pos) (qW G m i wsr wa wr):=PRE.of (qg (pl:=pl) (dvs:=[.int i]) ho hG F hr hb (.cons ⟨tk,rfl⟩ .nil) ha Nb KL ht) λU H R h=>by
 obtain ⟨S,J6,Rt,s,c,q,hq⟩:=h
 refine ⟨S,J6,_,s,c,q,λx H1 tx S1 f1 s1 r1 q1=>?_⟩
 obtain ⟨a,C,fs,rfl,ea,g,l,q1⟩:=q1
 cases r1
 cases s1 a _ ea with
 |ins eh pr =>
  refine ⟨a,C,_,_,rfl,eh,g,cF pr l,S1,J6,_,s1,c.fr f1,q1,λvs H2 ts S2 f2 s2 r2 q2=>?_⟩
  exact ⟨S2,_,_,s2,.cons .ref (r2.append (.cons .int .nil)),q2,λC H' S' f s' q' dct dd=>⟨C.1,rfl,hq C U H' J6 S' ((f1.trans f2).trans f) s' (c.fr ((f1.trans f2).trans f)) q' dct dd⟩⟩
theorem Ck {U:StT}{S:Sto}{R:WX}(h:wa U S λx S1=>∃ a C fs,x=.ref a/\S1 a=some (.ins C fs)/\G C/\fs.lookup m=none/\wr U S1 λts S2=>wsr (x::(ts++[.int i])) S2 λC S'=>R C U S'):qW G m i wsr wa wr U S R:=h
end
section
variable {K:Fg}{X:Cx}{pos p2 p3:Pos}{value:Expr}{tv:TE}{wv:WE}{s2:Str}{k3:Nat}
end
noncomputable def gU:List T->Option (List Key)
 |[]=>some []
 |t::ts=>match dH t,gU ts with
  |some k,some ks=>some (k::ks)
  |_,_=>none
def nP:T->Option (List Key)
 |.tup ts=>gU ts
 |_=>none
section
variable {K:Fg}{X:Cx}{H:Hp}{S:Sto}
theorem qX:∀ {ts:List T}{vs:List V}{ks:List Key},Rps K H S ts vs->gU ts=some ks->vs=ks.map kV
 |_,_,_,.nil,e=>by cases e;rfl
 |t::ts,v::vs,ks,.cons r rs,e=>by
  unfold gU at e
  cases e1:dH t with
  |none=>rw [e1] at e;cases e
  |some k =>
   cases e2:gU ts with
   |none=>rw [e1,e2] at e;cases e
   |some ks' =>
    rw [e1,e2] at e
    cases e
    rw [List.map_cons,jf r e1,qX rs e2]
theorem Fs {t:T}{v:V}{ks:List Key}(r:Rp K H S t v) (e:nP t=some ks):∃ p,v=.ref p/\H p=some (.tup (ks.map kV)):=by
 cases r with
 |tup n h rs=>exact ⟨_,rfl,by rw [h,qX rs e]⟩
 |_=>cases e
theorem Ik {a:Addr}{kts:List (List Key×T)}(s:SRp K H S) (e:S a=some (.dT kts)):∃ kvs,H a=some (.dT kvs)/\PrT K H S kts kvs:=by
 cases s a _ e with
 |dT h p=>exact ⟨_,h,p⟩
def ue:GM:=λx ts S Q=>∃ a kts y z ks,x=.ref a/\ts=[y,z]/\S a=some (.dT kts)/\nP y=some ks/\Q ((br kts ks).getD z) S
theorem Ap {κ:Type}[DecidableEq κ] {kts:List (κ×T)}{kvs:List (κ×V)}{k:κ}{z:T}{v:V}(p:PrT K H S kts kvs) (r:Rp K H S z v):Rp K H S ((br kts k).getD z) ((bw kvs k).getD v):=by
 cases e:br kts k with
 |none =>
  have:=lH (k:=k) p
  rw [e] at this
  cases e2:bw kvs k with
  |none=>exact r
  |some _=>rw [e2] at this;cases this
 |some t =>
  obtain ⟨u,h1,h2⟩:=zY p e
  rw [h1];exact h2
theorem Ft (hu:X.A.units+1<cLine):MtR X "dict.get" (lM K ue):=by
 rintro pins s U H x xs v us Q I rx rv ⟨S,t,ts,Qt,sr,hx,rs,⟨a,kts,y,z,ks,e,e2,ea,ek,q⟩,b⟩
 subst e e2
 cases hx
 cases rs with
 |cons ry rn =>
  cases rn with
  |cons rz rn2 =>
   cases rn2
   obtain ⟨kvs,hk,p⟩:=Ik sr ea
   obtain ⟨pb,rfl,hb⟩:=Fs ry ek
   obtain ⟨u1,u2,rfl,rr1,rr2⟩:=i5 rv
   cases (show v=Value.ref a from rx)
   exact D7 hu I (jo.t hk hb) rr1 rr2 λw' s' I' rw'=>⟨_,H,I',rw',b _ H _ S .refl sr (Ap p rz) q⟩
def sA:WE:=λ_ S Q=>∀ p,S p=none->Q (.ref p) (put S p (.dT []))
theorem Co {pos:Pos}:QE K X (.Dict [] [] pos) sA:=PE.of zE λU H Q ⟨S,J6,Qt,s,c,q,hq⟩=>λp hp =>
 hq _ _ (.ref p) _ (Fr.newT hp) (s.newT hp (.dT aF .nil)) .ref (q p (s.fresh hp))
end
section
variable {K:Fg}{X:Cx}{U:StT}{S:Sto}{D:EndsT}{Q:T->Sto->Prop}{R:Prop}{w:World}{a d:Addr}{t x y z:T}{kts:List (List Key×T)}{ks:List Key}{wa:WE}{o:Expr}{pos apos cpos:Pos}
theorem Cq (h:∀ p,S p=none->Q (.ref p) (put S p (.dT []))):sA U S Q:=h
theorem Fu (e:S a=some (.dT kts)) (ek:nP y=some ks) (h:Q ((br kts ks).getD z) S):ue (.ref a) [y,z] S Q:=⟨a,kts,y,z,ks,rfl,rfl,e,ek,h⟩
theorem Fv (e:S a=some (.dT kts)) (h:R):tyM "dict" S (.ref a)/\R:=⟨by simp only [tyM,e],h⟩
end
end T2
namespace PySem
open PySem.W
def J4 (h:Heap) (d:Addr) (es:Array DictEntry) (ep:Nat):Prop:=∃ o,h.get? d=some o/\o.ExactDict/\o.data=.dict es ep
section
variable {prog:Program}{w:World}{A:Around}{E:Value->Shared->Prop}{s:Shared}{d it:Addr}{es:Array DictEntry}{ep i:Nat}
end
end PySem
namespace L2
open PySem PySem.Spec PyProof.Rows
abbrev J5 (H:Hp):List Addr->List (List Key×V)->Prop:=Paired λ(b:Addr) (p:List Key×V)=>H b=some (.tup (p.1.map kV))
section
variable {X:Cx}{pins:List (Addr×Obj)}{U:St}{H:Hp}{s:Shared}{a:Addr}{kvs:List (List Key×V)}
end
end L2
namespace T2
open PySem PySem.Spec PyProof.Rows L2
section
variable {K:Fg}{X:Cx}{H:Hp}{S:Sto}
end
section
variable {K:Fg}{X:Cx}{o i a b c e:Expr}{es:List Expr}{wa wb wc wi:WE}{wr:WA}{we:WE}{pos p apos cpos:Pos}{x:Str}{k:Nat}{f:Addr}{fd:FuncData}{ps:List Str}{Ka:WSp}
abbrev FnO (P:Program) (w:World) (K:Fg) (mg:Str->Option Value) (base:Heap) (n:Nat) (f:Addr) (fd:FuncData) (ps:List Str) (sp:WSp):Prop:=FnOk P w K mg base CX0 n f fd ps (lSp K sp)
theorem aD {Ka:WSp}{N:List Str}{u:WS}(h:∀ v:WS,v=u->∀ ts S Q,Ka ts S Q->v { nx:=λ_ S'=>Fin Q .non S',rt:=Fin Q } (b0 N ts) S):∀ ts S Q,Ka ts S Q->u { nx:=λ_ S'=>Fin Q .non S',rt:=Fin Q } (b0 N ts) S:=h u rfl
theorem bp {Ka:aU}{N:List Str}{u:WR}(h:∀ v:WR,v=u->∀ ts S R,Ka ts S R->v (b0 N ts) S (eB R)):∀ ts S R,Ka ts S R->u (b0 N ts) S (eB R):=h u rfl
theorem aE (ha:QE K X a wa) (hc:QE K X c wc) (hK:X.K=K:=by rfl) (hs:lZ c:=by exact λ_ _=>rfl):QE K X (.Subscript a c pos) (w2 gIx wa wc):=Jr hK ha hc hs
theorem aq {j:Nat}(hr:Room j X.A) (ha:QE K X a wa) (hb:QE K X b wb) (hK:X.K=K:=by rfl):QT K X (.Compare a [.Eq] [b] pos) (wB (w2 (gEq false) wa wb)):=bo (g6 hK hr.units) ha hb (mH _)
theorem aL {G:Addr->Prop}{fl:Str}(hG:∀ C,G C->Cls K C/\aC K C fl) (he:QE K X o wa) (hK:X.K=K:=by rfl) (hb:attributeBase o fl X.env (eval o X.env)=eval o X.env:=by rfl):QE K X (.Attribute o fl pos) (jr G wa fl):=HQ hK hG he hb
theorem aX {id:String}{g:GC}(hc:bu X (.builtin id) (lC K g)) (hm:X.mg x=none) (hv:bootBuiltins x=some (.builtin id)) (ha:QA K X (e::es) wr) (hg:Gl X x:=by rfl) (hn:x ≠ "__name__":=by decide) (KC:(x==("__debug__":Str))=false:=by decide)
  (he:starEach (e::es) X.env=(false,eval e X.env)::starEach es X.env:=by rfl) (KL:(backTo pos (starEach es X.env)).any (·.1)=false:=by rfl):QE K X (.Call (.Name x p) (e::es) [] pos) (wCB g wr):=JM hc hg hm hv ha hn KC he KL
theorem aJ (F:FnOk X.prog X.w X.K X.mg X.base CX0 k f fd ps (lSp K Ka)) (D:Df X.K X.mg x f fd ps) (hr:Room k X.A) (ha:QA K X (e::es) wr) (hg:Gl X x:=by rfl)
  (KC:(x==("__debug__":Str))=false:=by decide) (he:starEach (e::es) X.env=(false,eval e X.env)::starEach es X.env:=by rfl) (KL:(backTo pos (starEach es X.env)).any (·.1)=false:=by rfl) :
  QE K X (.Call (.Name x p) (e::es) [] pos) (gQ Ka [] wr):=EQ F D hr hg ha KC he KL
theorem aI (i:Nat) {KA:Pos}(hN:X.N.Nodup) (he:QE K X e we) (hi:X.N[i]?=some x:=by rfl) (hx:Loc X.env.scope x:=by first|exact Or.inl rfl|exact Or.inr rfl) (hs:swapsWith e (some (.Name x KA)) pos.line X.env=pure false:=by rfl)
  (hf:X.fn x=true\/X.env.scope.names.lookup x=some .local:=by first|exact .inl rfl|exact .inr rfl|assumption):QS K X (.Assign [.Name x KA] e pos) (eg we (wgN i)):=G7 hN hi hx he hs hf
theorem bq (i:Nat) (hN:X.N.Nodup) (hi:X.N[i]?=some x:=by rfl) (hx:Loc X.env.scope x:=by first|exact Or.inl rfl|exact Or.inr rfl) (hf:X.fn x=true\/X.env.scope.names.lookup x=some .local:=by first|exact .inl rfl|exact .inr rfl|assumption):QG K X (.Name x pos) (wgN i):=BY hN hi hx hf
theorem fy {tg:Expr}{g:WG}(he:QE K X e we) (hg:QG K X tg g) (h:∀ {t g},PE X e t->PG X tg g->PS X (.Assign [tg] e pos) (fF t g):=by exact λh g=>L2.Dz h g):QS K X (.Assign [tg] e pos) (eg we g):=G6 h he hg
theorem fL {g:GS}(ho:QE K X o wa) (hi:QE K X i wi) (hs:dm X (fJ K g)) (h:∀ {to ti t},PE X o to->PE X i ti->dm X t->PG X (.Subscript o i pos) (L2.d7 to ti t):=by exact λh1 h2 h3=>L2.Dy h1 h2 h3):QG K X (.Subscript o i pos) (wgS wa wi g):=ER ho hi hs h
theorem c5 {ty id:String}{m:Str}{gm:GM}(pa:PlainAttrs ty) (slot:Slot ty m id) (O8:typeOf (.builtin id)=pure (.type "method_descriptor")) (hm:MtR X id (lM K gm)) (ho:QE K X o wa) (ha:QA K X (e::es) wr) (hK:X.K=K:=by rfl)
  (KZ:attributeBase o m X.env (eval o X.env)=eval o X.env:=by rfl)
  (QV:((backTo cpos (starEach (e::es) X.env)).all (λx=>!x.1)&&(backToKw cpos (keywordEach [] X.env)).all (λx=>x.1.isSome)
   && decide ((e::es).length+([]:List Keyword).length+(if ([]:List Keyword).isEmpty then 0 else 1)<30))=true:=by rfl)
  (LP:(apos.endLine==cpos.line)=true:=by rfl) (hs:starEach (e::es) X.env=(false,eval e X.env)::starEach es X.env:=by rfl) (LD:(backTo cpos (starEach es X.env)).any (·.1)=false:=by rfl) :
  QE K X (.Call (.Attribute o m apos) (e::es) [] cpos) (wBM ty gm wa wr):=JN hK pa slot O8 hm ho ha λh1 h2 h3=>GU pa slot O8 h2 h1 h3 KZ QV LP hs LD
end
end T2
namespace L2
open PySem PySem.Spec PyProof.Rows
def ItE (K:PySem.W.Frag) (l:Addr):It :=
 ⟨λi H=>∃ xs x,SqL K H l xs/\xs[i]?=some x,λi H x H'=>∃ p y,H p=none/\x=.ref p/\H'=upd H p (.tup [.int i,y])/\∀ xs,SqL K H l xs->xs[i]?=some y,λi H=>∃ xs,SqL K H l xs/\xs.length<=i⟩
theorem Inv.turned2 {X:Cx}{pins:List (Addr×Obj)}{U:St}{H:Hp}{s:Shared}{h':Heap}{t':Nat}{e it:Addr}{oi oi':Obj}(I:Inv X pins U H s) (NQ:e≠it) (hi:s.heap.get? it=some oi) (hi':h'.get? it=some oi') (k:∀ b o,b≠e->b≠it->s.heap.get? b=some o->h'.get? b=some o)
  (f:bK X pins H e) (g:bK X pins H it):Inv X pins U H { s with heap:=h',toks:=t' }:=by
 obtain ⟨f0,f1,f2,f3,f4,f5⟩:=f
 obtain ⟨g0,g1,g2,g3,g4,g5⟩:=g
 have hfr:oi.isFreed=false:=(Heap.get?_some_iff.mp hi).2
 have I1:Inv X pins U H { s with heap:=h'.update it (λ_=>oi),toks:=t' }:=I.turned (λb o hb z=>by
  by_cases hbi:b=it
  ·subst hbi
   rw [hi] at z;cases z
   exact Heap.get?_update_self _ hi' hfr
  ·rw [Heap.get?_update_other _ _ (Ne.symm hbi)]
   exact k b o hb hbi z) f0 f1 f3 f4 f5
 exact I1.turned (s:={ s with heap:=h'.update it (λ_=>oi),toks:=t' }) (t':=t') (λb o hb z=>by
  rw [show ({ s with heap:=h'.update it (λ_=>oi),toks:=t' }:Shared).heap.get? b=h'.get? b from Heap.get?_update_other _ _ (Ne.symm hb)] at z
  exact z) g0 g1 g3 g4 g5
theorem yO {P:Program}{w:World}{K:PySem.W.Frag}{L4:List Expr}{x1:Nat}{Lf:Pos}(l e it:Addr) (NQ:e≠it) :
  Turn P w K (.Tuple L4 x1 Lf) (ItE K l) [e,it] e (λi h=>∃ old,IsEnum h e it ((i:Nat):Int) old/\h.IsListIter it l i) where
 mem:=by simp
 obj:=λi h st b hb=>by
  obtain ⟨old,h1,o,h2,_,h3⟩:=st
  rcases List.mem_cons.mp hb with rfl|hb
  ·exact ⟨_,h1,λv z=>by cases z⟩
  ·obtain rfl:b=it:=by simpa using hb
   exact ⟨o,h2,λv z=>by rw [h3] at z;cases z⟩
 keep:=λi h h' zz125 k=>by obtain ⟨old,h1,o,h2,r⟩:=zz125;exact ⟨old,k e (by simp) _ h1,o,k it (by simp) _ h2,r⟩
 item:=by
  rintro X hP hw hK hc i pins s U H E I hf ⟨old,st,sl⟩ hg
  subst hP hw hK
  obtain ⟨xs,x,hq,hx⟩:=hg
  obtain ⟨its,rv,p,hz⟩:=I.list hq
  obtain ⟨u,hu,ru⟩:=rv.get hx
  have fe:=hf e (by simp)
  have fi:=hf it (by simp)
  obtain ⟨oi,hoi,_⟩:=id sl
  refine wpAny_pyNext_enum_item st sl p.isList (x:=u) (by simpa using hu) NQ λh1 st1 sl1 ht hsz kp=>?_
  refine ⟨_,rfl,wpAny_letOwnedTupleGo_enum st1 λh2 QK Qz=>?_⟩
  have Oj:e<s.heap.objs.size:=Heap.lt_size st
  have his:it<s.heap.objs.size:=Heap.lt_size hoi
  replace Qz:Heap.SameBut e h1 h2:=Qz
  have ht2:h2.get? s.heap.objs.size=some { cls:=.type "tuple",data:=.seq #[.int i s.toks,u] }:=(Qz.2 _ (Nat.ne_of_gt Oj)).trans ht
  have sl2:h2.IsListIter it l (i+1):=by
   obtain ⟨o,ho,r⟩:=sl1
   exact ⟨o,(Qz.2 it (Ne.symm NQ)).trans ho,r⟩
  obtain ⟨oi2,hoi2,_⟩:=id sl2
  have Im:Inv X pins U (upd H s.heap.objs.size (.tup [.int i,x])) { s with heap:=s.heap.push { cls:=.type "tuple",data:=.seq #[.int i s.toks,u] },toks:=s.toks } :=
   I.laid (t':=s.toks) (λb u e=>Heap.get?_push_of_some _ e) (Nat.le_refl _) ⟨by show 2<=sizeLine;decide,[.int i s.toks,u],.cons ⟨_,rfl⟩ (.cons ru .nil),⟨_,Heap.get?_push_size _ rfl,rfl,_,rfl⟩⟩
  have fk:∀ b,b<s.heap.objs.size->bK X pins H b->bK X pins (upd H s.heap.objs.size (.tup [.int i,x])) b:=λb hb f=>⟨by rw [ao (Nat.ne_of_lt hb)];exact f.1,f.2⟩
  have I2:Inv X pins U (upd H s.heap.objs.size (.tup [.int i,x])) { s with heap:=h2,toks:=s.toks+1 }:=by
   refine Inv.turned2 (s:={ s with heap:=s.heap.push { cls:=.type "tuple",data:=.seq #[.int i s.toks,u] },toks:=s.toks }) Im (t':=s.toks+1) (e:=e) (it:=it) (oi:=oi) (oi':=oi2) NQ (Heap.get?_push_of_some _ hoi) hoi2 (λb o PZ hbi z=>?_) (fk e Oj fe) (fk it his fi)
   by_cases hbs:b=s.heap.objs.size
   ·subst hbs
    rw [show ({ s with heap:=s.heap.push { cls:=.type "tuple",data:=.seq #[.int i s.toks,u] },toks:=s.toks }:Shared).heap.get? s.heap.objs.size=some { cls:=.type "tuple",data:=.seq #[.int i s.toks,u] } from Heap.get?_push_size _ rfl] at z
    cases z;exact ht2
   ·exact (Qz.2 b PZ).trans (kp b o PZ hbi (by rw [<- Heap.get?_push_ne _ _ _ hbs];exact z))
  refine ⟨.ref s.heap.objs.size,_,I2,rfl,⟨s.heap.objs.size,x,I.hok.fresh (Nat.le_refl _),rfl,rfl,λys hy=>by rw [I.list_inj hy hq];exact hx⟩,⟨_,QK,sl2⟩,λb hb=>?_⟩
  rcases List.mem_cons.mp hb with rfl|hb
  ·exact (fk _ Oj fe).1
  ·obtain rfl:b=it:=by simpa using hb
   exact (fk _ his fi).1
 done:=by
  rintro X hP hw hK hc i pins s U H E I hf ⟨old,st,sl⟩ hg
  subst hP hw hK
  obtain ⟨xs,hq,hx⟩:=hg
  obtain ⟨its,rv,p,hz⟩:=I.list hq
  obtain ⟨f0,f1,f2,f3,f4,f5⟩:=hf it (by simp)
  have hl:=rv.length
  exact wpAny_pyNext_enum_end (I.ok.hd hc) st sl p.isList (by simp;omega) λh' eb=>⟨rfl,I.turned (t':=s.toks) (λb o hb z=>eb b o hb z) f0 f1 f3 f4 f5⟩
 self:=λA i s Q E zz126 h=>by obtain ⟨old,st,sl⟩:=zz126;exact wpAny_pyIter_enum st h
theorem v3:bootBuiltins (Str.ofString "enumerate")=some (.type "enumerate"):=by kernel_rfl
def Il (K:PySem.W.Frag) (ta:TA):TI:=λU H R=>ta U H λvs H1=>∃ l,vs=[.ref l]/\(∃ xs,SqL K H1 l xs)/\R (ItE K l) H1
theorem Cr {X:Cx}{L4:List Expr}{x1:Nat}{Lf:Pos}{a:Expr}{ta:TA}{p pos:Pos}(hg:Gl X "enumerate") (hm:X.mg "enumerate"=none) (ha:PA X [a] ta) (hs:starEach [a] X.env=[(false,eval a X.env)]:=by rfl) :
  PI X (.Tuple L4 x1 Lf) (.Call (.Name "enumerate" p) [a] [] pos) (Il X.K ta):=by
 intro pins s U H R I h
 refine Call_ (eT I hg hm v3 (PyProof.Rows.callWith_type1 (thn (ha pos pins s U H _ I h) λus s1 ⟨vs,H1,I1,r1,q1⟩=>?_) hs rfl))
 obtain ⟨l,e,⟨xs,hq⟩,q⟩:=q1
 subst e
 cases r1 with
 |cons r rr =>
  cases rr
  cases r
  obtain ⟨its,rv,pl,hz⟩:=I1.list hq
  refine call_enumerate_list pl.isList λh' he hi hsz kp=>?_
  refine wpAny_pyIter_enum (s:={ s1 with heap:=h' }) he ?_
  have I2:Inv X pins U H1 { s1 with heap:=h' }:=I1.kept (t':=s1.toks) kp
  refine ⟨s1.heap.objs.size+1,[s1.heap.objs.size+1,s1.heap.objs.size],_,_,H1,rfl,I2,yO l _ _ (Nat.succ_ne_self _),⟨_,he,hi⟩,λb hb=>?_,q⟩
  rcases List.mem_cons.mp hb with rfl|hb
  ·exact I1.fpOk (Nat.le_succ _) (I1.hok.fresh (Nat.le_succ _))
  ·obtain rfl:b=s1.heap.objs.size:=by simpa using hb
   exact I1.fpOk (Nat.le_refl _) (I1.hok.fresh (Nat.le_refl _))
end L2
namespace T2
open PySem L2
variable {K:Fg}{X:Cx}
def dg (ts:List T):List T:=ts.zipIdx.map λp=>.tup [.int (p.2:Int),p.1]
theorem yP (ts:List T):(dg ts).length=ts.length:=by simp [dg]
theorem Aq (ts:List T) (i:Nat):(dg ts)[i]?=ts[i]?.map λt=>.tup [.int i,t]:=by
 simp only [dg,List.getElem?_map,List.getElem?_zipIdx,Option.map_map,Nat.zero_add]
 rfl
theorem yQ {H1:Hp}{S1:Sto}{x:T}{a:Addr}{ts:List T}(r:Rp K H1 S1 x (.ref a)) (e:aS S1 x=some ts):Iter K (ItE K a) ⟨dg ts,c8 x ts⟩ H1 S1:=by
 have I0:=pI r e
 have main:∀ H S,Fr H1 S1 H S->SRp K H S->c8 x ts S->∃ vs,SqL K H a vs/\Rps K H S ts vs:=λH S f s g=>by
  obtain ⟨p,vs,ep,hq,rs⟩:=cw s (r.fr f) (pH e g)
  cases ep
  exact ⟨vs,hq,rs⟩
 refine ⟨λH S i f s g hl=>?_,λH S i y H' f s g hl hy=>?_,λH S f s g=>?_⟩
 ·exact I0.go H S i f s g (by simpa [dg] using hl)
 ·obtain ⟨vs,hq,rs⟩:=main H S f s g
  obtain ⟨p,z,hp,rfl,rfl,hz⟩:=hy
  obtain ⟨t,et,rt⟩:=rs.getV (hz vs hq)
  refine ⟨.tup [.int i,t],by rw [Aq,et];rfl,Fr.new hp,s.new hp,?_⟩
  exact .tup (s.fresh hp) aF (.cons .int (.cons (rt.fr (Fr.new hp)) .nil))
 ·have:=I0.stop H S f s g
  show (ItE K a).stop (dg ts).length H
  rw [yP];exact this
def wiE (wa:WE):WI:=λU S R=>wa U S λx S1=>∃ ts,aS S1 x=some ts/\R ⟨dg ts,c8 x ts⟩ S1
theorem qY {L4:List Expr}{x1:Nat}{Lf:Pos}{a:Expr}{wa:WE}{p pos:Pos}(hK:X.K=K) (hg:Gl X "enumerate") (hm:X.mg "enumerate"=none) (ha:QE K X a wa) (hs:starEach [a] X.env=[(false,eval a X.env)]:=by rfl) (QZ:starEach [a] X.env=(false,eval a X.env)::starEach [] X.env:=by rfl) :
  QI K X (.Tuple L4 x1 Lf) (.Call (.Name "enumerate" p) [a] [] pos) (wiE wa):=by
 subst hK
 refine PI.of (Cr hg hm (lW ha mJ QZ) hs) λU H R zz127=>?_
 obtain ⟨S,J6,Rt,s,c,q,hq⟩:=zz127
 refine ⟨S,J6,_,s,c,q,λv H1 t S1 f1 s1 r1 q1=>?_⟩
 obtain ⟨ts,e,q1⟩:=q1
 obtain ⟨p,vs,rfl,hS,rs⟩:=cw s1 r1 e
 exact ⟨p,rfl,⟨vs,hS⟩,hq _ H1 _ S1 f1 s1 (yQ r1 e) q1⟩
end T2
namespace L2
open PySem PySem.Spec PyProof.Rows
section
variable {X:Cx}
theorem yR:bu X (.type "int") (λxs H Q=>∃ (x:Str) (n:Int),xs=[.str x]/\PySem.intText? x=some n/\x.length<=640/\Q (.int n) H):=by
 intro pins s U H xs us Q I r h
 obtain ⟨x,n,rfl,hn,hl,q⟩:=h
 obtain ⟨u,rfl,rx⟩:=bW r
 obtain ⟨t,rfl⟩:=(show ∃ t,u=Value.str x t from rx)
 exact PySem.W.KIN.call_text hn hl ⟨.int n,H,I.tok _,⟨_,rfl⟩,q⟩
def Io:V->List V->Hp->VK->Prop:=λx xs H Q=>∃ a b:Str,x=.str a/\xs=[.str b]/\b.length≠0/\a.length<=sizeLine/\∀ p,H p=none->Q (.ref p) (upd H p (.tup [.str (Txt.partition a b).1,.str (Txt.partition a b).2.1,.str (Txt.partition a b).2.2]))
theorem Ct:MtR X "str.partition" Io:=by
 intro pins s U H x vs v us Q I rx rv h
 obtain ⟨a,b,rfl,rfl,hb,hz,q⟩:=h
 obtain ⟨t,rfl⟩:=rx
 obtain ⟨u,rfl,t2,rfl⟩:=bW rv
 have hy:(b.length==0)=false:=by simpa using hb
 refine call_meets F.slot_str_partition (typeIs_str _ _ _) F.entry_str_partition (F.args_str_partition_2 _ _) (meets_str_partition a b t t2 hy hz) ?_
 have q1:=q s.heap.objs.size I.fresh
 unfold Txt.partition at q1
 cases e:Builtin.Str.occurrences a b 0 a.length 1 with
 |nil =>
  rw [e] at q1
  exact ⟨.ref _,_,I.laid (o:=.tup [.str a,.str Str.empty,.str Str.empty]) (h':=s.heap.push { cls:=.type "tuple",data:=.seq #[.str a t,.str Str.empty s.toks,.str Str.empty s.toks] }) (t':=s.toks+1) (λ_ _ e=>Heap.get?_push_of_some _ e) (Nat.le_refl _)
   ⟨by show 3<=sizeLine;decide,[.str a t,.str Str.empty s.toks,.str Str.empty s.toks],.cons ⟨_,rfl⟩ (.cons ⟨_,rfl⟩ (.cons ⟨_,rfl⟩ .nil)),⟨_,Heap.get?_push_size _ rfl,rfl,_,rfl⟩⟩,rfl,q1⟩
 |cons i l =>
  rw [e] at q1
  exact ⟨.ref _,_,I.laid (o:=.tup [.str (Builtin.Str.strSub a 0 i),.str b,.str (Builtin.Str.strSub a (i+b.length) a.length)]) (h':=s.heap.push { cls:=.type "tuple",data:=.seq #[.str (Builtin.Str.strSub a 0 i) s.toks,.str b t2,.str (Builtin.Str.strSub a (i+b.length) a.length) (s.toks+1)] }) (t':=s.toks+1+1) (λ_ _ e=>Heap.get?_push_of_some _ e) (Nat.le_refl _)
   ⟨by show 3<=sizeLine;decide,[.str (Builtin.Str.strSub a 0 i) s.toks,.str b t2,.str (Builtin.Str.strSub a (i+b.length) a.length) (s.toks+1)],.cons ⟨_,rfl⟩ (.cons ⟨_,rfl⟩ (.cons ⟨_,rfl⟩ .nil)),⟨_,Heap.get?_push_size _ rfl,rfl,_,rfl⟩⟩,rfl,q1⟩
end
end L2
namespace T2
open PySem PySem.Spec PyProof.Rows L2
section
variable {K:Fg}{X:Cx}
def uf:GC:=λts S Q=>∃ (x:Str) (n:Int),ts=[.str x]/\PySem.intText? x=some n/\x.length<=640/\Q (.int n) S
theorem Fw:bu X (.type "int") (lC K uf):=by
 rintro pins s U H xs us Q I r ⟨S,ts,Qt,sr,rs,⟨x,n,rfl,hn,hl,q⟩,b⟩
 cases rs with
 |cons a l =>
  cases l
  cases a
  exact yR pins s U H _ us Q I r ⟨_,n,rfl,hn,hl,b _ H _ S .refl sr .int q⟩
theorem Fy {S:Sto}{Q:T->Sto->Prop}{x:Str}{n:Int}(hn:PySem.intText? x=some n) (hl:x.length<=640) (h:Q (.int n) S):uf [.str x] S Q:=⟨x,n,rfl,hn,hl,h⟩
def ug:GM:=λx ts S Q=>∃ a b:Str,x=.str a/\ts=[.str b]/\b.length≠0/\a.length<=1000/\Q (.tup [.str (Txt.partition a b).1,.str (Txt.partition a b).2.1,.str (Txt.partition a b).2.2]) S
theorem iS:MtR X "str.partition" (lM K ug):=by
 rintro pins s U H x vs v us Q I rx rv ⟨S,t,ts,Qt,sr,hx,rs,⟨a,c,rfl,rfl,h0,h1,q⟩,b⟩
 cases hx
 cases rs with
 |cons r l =>
  cases l
  cases r
  refine Ct pins s U H _ _ v us Q I rx rv ⟨a,c,rfl,rfl,h0,by rw [sizeLine_eq];omega,λp hp=>?_⟩
  exact b _ _ _ S (Fr.new hp) (sr.new hp) (.tup (sr.fresh hp) aF (.cons .str (.cons .str (.cons .str .nil)))) q
theorem iT {S:Sto}{Q:T->Sto->Prop}{a b:Str}(h0:b.length≠0) (h1:a.length<=1000) (h:Q (.tup [.str (Txt.partition a b).1,.str (Txt.partition a b).2.1,.str (Txt.partition a b).2.2]) S):ug (.str a) [.str b] S Q:=⟨a,b,rfl,rfl,h0,h1,h⟩
end
end T2
open PySem
namespace Sc
noncomputable def isL (c:Nat):Bool:=decide (97<=c)&&decide (c<=122)
def isP (p:List Nat):Bool:=decide (1<=p.length)&&decide (p.length<=12)&&p.all isL
noncomputable def aT:List Nat->Nat->Nat->Option (Nat×Nat)
 |[],z,n=>some (z,n)
 |c::r,z,n=>if c=32 then (if z=0 then none else aT r 0 (n+1)) else if isL c=true then (if z+1>12 then none else aT r (z+1) n) else none
noncomputable def fin:Option (Nat×Nat)->Bool
 |none=>false
 |some (z,n)=>decide (0<z)&&decide (n<5)
theorem k8:∀ (p rest:List Nat) (z n:Nat),32∉p->z<=12->aT (p++rest) z n=if (p.all isL&&decide (z+p.length<=12))=true then aT rest (z+p.length) n else none
 |[],rest,z,n,_,hz=>by simp [hz]
 |c::p,rest,z,n,h,hz=>by
  have hc:c≠32:=λe=>h (by simp [e])
  have hp:32∉p:=λe=>h (by simp [e])
  have ih:=k8 p rest (z+1) n hp
  show aT (c::(p++rest)) z n=_
  rw [aT,if_neg hc]
  cases hl:isL c with
  |false=>simp [hl]
  |true =>
   rw [if_pos rfl]
   by_cases hz2:z+1>12
   ·rw [if_pos hz2]
    have:¬ (z+(c::p).length<=12):=by simp;omega
    simp [this]
    omega
   ·rw [if_neg hz2,ih (by omega)]
    have e:z+1+p.length=z+(c::p).length:=by simp;omega
    rw [e]
    simp [hl]
noncomputable def aW (g:List Nat):List (List Nat)->List Nat
 |[]=>[]
 |[p]=>p
 |p::q::r=>p++g++aW g (q::r)
theorem lL:∀ (ps:List (List Nat)) (n:Nat),ps≠[]->(∀ p∈ps,32∉p)->fin (aT (aW [32] ps) 0 n)=(decide (ps.length+n<=5)&&ps.all isP)
 |[],_,h,_=>absurd rfl h
 |[p],n,_,hf=>by
  have h:=k8 p [] 0 n (hf p (by simp)) (by omega)
  rw [List.append_nil] at h
  show fin (aT p 0 n)=_
  rw [h]
  simp only [Nat.zero_add,List.length_singleton,List.all_cons,List.all_nil,Bool.and_true]
  by_cases hc:(p.all isL&&decide (p.length<=12))=true
  ·rw [if_pos hc]
   simp only [Bool.and_eq_true,decide_eq_true_eq] at hc
   simp only [aT,fin,isP,hc.1,hc.2,decide_true,Bool.and_true]
   rw [Bool.eq_iff_iff]
   simp only [Bool.and_eq_true,decide_eq_true_eq]
   omega
  ·rw [if_neg hc]
   have:isP p=false:=by
    simp only [isP]
    rw [Bool.eq_false_iff]
    intro z
    simp only [Bool.and_eq_true,decide_eq_true_eq] at z hc
    exact hc ⟨z.2,z.1.2⟩
   simp [fin,this]
 |p::q::r,n,_,hf=>by
  have h:=k8 p (32::aW [32] (q::r)) 0 n (hf p (by simp)) (by omega)
  have ih:=lL (q::r) (n+1) (by simp) λx hx=>hf x (List.mem_cons_of_mem _ hx)
  have e:aW [32] (p::q::r)=p++32::aW [32] (q::r):=by simp [aW]
  rw [e,h]
  simp only [Nat.zero_add]
  by_cases hc:(p.all isL&&decide (p.length<=12))=true
  ·rw [if_pos hc]
   simp only [Bool.and_eq_true,decide_eq_true_eq] at hc
   rw [aT,if_pos rfl]
   by_cases hz:p.length=0
   ·rw [if_pos hz]
    have:isP p=false:=by simp [isP,hz]
    simp [fin,this]
   ·rw [if_neg hz,ih]
    have:isP p=true:=by
     simp only [isP,hc.1,hc.2,decide_true,Bool.and_true,decide_eq_true_eq]
     omega
    have ea:(p::q::r).all isP=(q::r).all isP:=by rw [List.all_cons,this,Bool.true_and]
    rw [ea]
    have e2:(q::r).length+(n+1)=(p::q::r).length+n:=by simp;omega
    rw [e2]
  ·rw [if_neg hc]
   have:isP p=false:=by
    simp only [isP]
    rw [Bool.eq_false_iff]
    intro z
    simp only [Bool.and_eq_true,decide_eq_true_eq] at z hc
    exact hc ⟨z.2,z.1.2⟩
   simp [fin,this]
theorem Cu (c:Nat):decide (c∈[97,98,99,100,101,102,103,104,105,106,107,108,109,110,111,112,113,114,115,116,117,118,119,120,121,122])=isL c:=by
 have lo:∀ c<123,decide (c∈[97,98,99,100,101,102,103,104,105,106,107,108,109,110,111,112,113,114,115,116,117,118,119,120,121,122])=isL c:=by decide +kernel
 by_cases h:c<123
 ·exact lo c h
 ·have hi:∀ x∈[97,98,99,100,101,102,103,104,105,106,107,108,109,110,111,112,113,114,115,116,117,118,119,120,121,122],x<123:=by decide +kernel
  rw [decide_eq_false λq=>h (hi c q)]
  unfold isL
  rw [decide_eq_false (p:=c<=122) λq=>h (Nat.lt_succ_of_le q),Bool.and_false]
theorem Fz (a b:Nat):decide ([a]<[b])=decide (a<b):=by
 rw [Bool.eq_iff_iff]
 simp [List.cons_lt_cons_iff]
end Sc
namespace Wm
open PySem
theorem kN (g:List Nat):∀ ps:List (List Nat),Sc.aW g ps=Tm.aW g ps
 |[]=>rfl
 |[p]=>rfl
 |p::q::r=>by
  show p++g++Sc.aW g (q::r)=p++g++Tm.aW g (q::r)
  rw [kN g (q::r)]
noncomputable def Wd (z:Str):Bool:=decide (z.length<=24)&&Sc.fin (Sc.aT (Tm.tl z) 0 1)
theorem xN (z:Str):Sc.fin (Sc.aT (Tm.tl z) 0 1)=(decide ((Txt.split z " ").length<=4)&&(Txt.split z " ").all λp=>Sc.isP (Tm.tl p)):=by
 have hn:=PyProof.Rows.split_pos z " "
 rw [<- Tm.pc z,<- kN,Sc.lL _ 1 (by simp [Tm.zW]) (Tm.split_free z),List.length_map,List.all_map]
 congr 1
 rw [Bool.eq_iff_iff]
 simp only [decide_eq_true_eq]
 omega
theorem iU (c d:Nat):T2.ltS ⟨#[c]⟩ ⟨#[d]⟩=decide (c<d):=by
 unfold T2.ltS
 exact Sc.Fz c d
theorem FA (c:Nat):(!T2.ltS ⟨#[c]⟩ "a" && !T2.ltS "z" ⟨#[c]⟩)=Sc.isL c:=by
 rw [show ("a":Str)=⟨#[97]⟩ by decide +kernel,show ("z":Str)=⟨#[122]⟩ by decide +kernel,iU,iU,Bool.eq_iff_iff]
 simp only [Sc.isL,Bool.and_eq_true,Bool.not_eq_true',decide_eq_false_iff_not,decide_eq_true_eq]
 omega
theorem all_map (l:List Bool):T2.dO (l.map T2.T.bl)=some l:=by
 induction l with
 |nil=>rfl
 |cons a l ih=>simp [T2.dO,ih]
theorem mw {α β:Type}(f:α->β) (l:List α):l.filterMap (λx=>some (f x))=l.map f:=by
 induction l with
 |nil=>rfl
 |cons a l ih=>simp [ih]
end Wm
namespace Wm
open PySem
theorem fY:∀ (a b:List Nat) (z n:Nat),Sc.aT (a++b) z n=(Sc.aT a z n).bind λp=>Sc.aT b p.1 p.2
 |[],b,z,n=>rfl
 |c::a,b,z,n=>by
  show Sc.aT (c::(a++b)) z n=_
  rw [Sc.aT,Sc.aT]
  split
  ·split
   ·rfl
   ·exact fY a b _ _
  ·split
   ·split
    ·rfl
    ·exact fY a b _ _
   ·rfl
theorem mB:∀ (a:List Nat) (z n:Nat) {z' n':Nat},Sc.aT a z n=some (z',n')->n<=n'
 |[],z,n,z',n',h=>by simp only [Sc.aT,Option.some.injEq,Prod.mk.injEq] at h;omega
 |c::a,z,n,z',n',h=>by
  rw [Sc.aT] at h
  split at h
  ·split at h
   ·cases h
   ·have:=mB a _ _ h;omega
  ·split at h
   ·split at h
    ·cases h
    ·exact mB a _ _ h
   ·cases h
theorem pS:∀ (ls:List (List Nat)),Tm.aW [] ls=ls.flatten
 |[]=>rfl
 |[p]=>by simp [Tm.aW]
 |p::q::r=>by
  show p++[]++Tm.aW [] (q::r)=_
  rw [pS (q::r)];simp
theorem iC {ys:List Str}(h1:∀ y∈ys,∃ c,y=⟨#[c]⟩/\Sc.isL c=true) (h2:1<=ys.length) (h3:ys.length<=12):Sc.isP (Tm.tl (Txt.join "" ys))=true:=by
 rw [Tm.iH,Tm.empty,pS]
 have len:((ys.map Tm.tl).flatten).length=ys.length:=by
  clear h2 h3
  induction ys with
  |nil=>rfl
  |cons y l ih =>
   obtain ⟨c,rfl,_⟩:=h1 y (by simp)
   simp only [List.map_cons,List.flatten_cons,List.length_append,ih λz hz=>h1 z (by simp [hz]),List.length_cons]
   simp [Tm.tl];omega
 unfold Sc.isP
 rw [len]
 simp only [Bool.and_eq_true,decide_eq_true_eq]
 refine ⟨⟨h2,h3⟩,?_⟩
 rw [List.all_eq_true]
 intro c hc
 rw [List.mem_flatten] at hc
 obtain ⟨l,hl,hc⟩:=hc
 rw [List.mem_map] at hl
 obtain ⟨y,hy,rfl⟩:=hl
 obtain ⟨d,rfl,hd⟩:=h1 y hy
 simp [Tm.tl] at hc
 rw [hc];exact hd
theorem Ar {p:List Nat}(h:Sc.isP p=true):32∉p:=λhm=>by
 unfold Sc.isP at h
 simp only [Bool.and_eq_true,List.all_eq_true] at h
 have:=h.2 32 hm
 simp [Sc.isL] at this
theorem Cv {ps:List Str}(h1:∀ p∈ps,Sc.isP (Tm.tl p)=true) (h2:ps≠[]) (h3:ps.length<=4):Sc.fin (Sc.aT (Tm.tl (Txt.join " " ps)) 0 1)=true:=by
 rw [Tm.iH,Tm.gS,<- kN]
 rw [Sc.lL (ps.map Tm.tl) 1 (by simpa using h2) (λp hp=>by
  rw [List.mem_map] at hp
  obtain ⟨y,hy,rfl⟩:=hp
  exact Ar (h1 y hy))]
 simp only [List.length_map,Bool.and_eq_true,decide_eq_true_eq,List.all_map,List.all_eq_true]
 exact ⟨by omega,λp hp=>h1 p hp⟩
theorem iV {z:Str}(h:Wd z=true):1<=z.length/\z.length<=24:=by
 unfold Wd at h
 simp only [Bool.and_eq_true,decide_eq_true_eq] at h
 refine ⟨?_,h.1⟩
 rcases Nat.eq_zero_or_pos z.length with e|e
 ·have:Tm.tl z=[]:=List.length_eq_zero_iff.mp (by rw [Tm.len];exact e)
  rw [this] at h
  simp [Sc.aT,Sc.fin] at h
 ·exact e
theorem mC:∀ (l:List Nat) (z n:Nat){p:Nat×Nat},Sc.aT l z n=some p->∀ c∈l,c=32\/Sc.isL c=true
 |[],_,_,_,_,c,hc=>by cases hc
 |d::l,z,n,p,h,c,hc=>by
  rw [Sc.aT] at h
  rcases List.mem_cons.mp hc with rfl|hc
  ·by_cases e:c=32
   ·exact .inl e
   ·rw [if_neg e] at h
    split at h
    ·exact .inr ‹_›
    ·cases h
  ·split at h
   ·split at h
    ·cases h
    ·exact mC l _ _ h c hc
   ·split at h
    ·split at h
     ·cases h
     ·exact mC l _ _ h c hc
    ·cases h
theorem qj {z:Str}(h:Wd z=true):∀ c∈Tm.tl z,c=32\/Sc.isL c=true:=by
 unfold Wd at h
 simp only [Bool.and_eq_true] at h
 cases q:Sc.aT (Tm.tl z) 0 1 with
 |none=>rw [q] at h;simp [Sc.fin] at h
 |some p=>exact mC _ _ _ q
theorem fz {z:Str}(h:Wd z=true):PyData.strOk z=true:=by
 unfold PyData.strOk
 rw [Array.all_eq_true_iff_forall_mem]
 intro c hc
 have:=qj h c (by simpa [Tm.tl] using hc)
 rw [decide_eq_true_eq]
 rcases this with e|e
 ·omega
 ·simp only [Sc.isL,Bool.and_eq_true,decide_eq_true_eq] at e;omega
end Wm
namespace Rk
open PySem T2 S6
abbrev Rt:=Str×Int
noncomputable def rt (a:Rt):T:=.tup [.str a.1,.int a.2]
noncomputable def ky (a:Rt):Ky:=.cons (.i (-a.2)) (.cons (.s a.1) .nil)
theorem mY (a:Rt):tre (ky a)=.tup [.int (-a.2),.str a.1]:=by simp [ky,tre,g8]
def ah (a b:Rt):Bool:=Ky.lt (ky a) (ky b)
theorem iW (a b:Rt):Ky.shp (ky a) (ky b)=true:=rfl
theorem FB {a b:Rt}(h:ky a=ky b):a=b:=by
 simp only [ky,Ky.cons.injEq,Ky.i.injEq,Ky.s.injEq,and_true] at h
 exact Prod.ext h.2 (by omega)
theorem Au {a b c:Rt}(h1:ah a b=true) (h2:ah b c=true):ah a c=true:=Ky.trans (iW _ _) (iW _ _) h1 h2
theorem sB (a b:Rt):ah a b=true\/a=b\/ah b a=true:=by
 rcases Ky.tri (iW a b) with h|h|h
 ·exact .inl h
 ·exact .inr (.inl (FB h))
 ·exact .inr (.inr h)
theorem Cw {a b:Rt}(h:ah a b=true):ah b a=false:=Ky.JK (iW _ _) h
noncomputable def kyT:T->Ky
 |.tup [.str w,.int n]=>ky (w,n)
 |_=>.nil
theorem sC (a:Rt):kyT (rt a)=ky a:=rfl
noncomputable def ins (J9:List Rt) (a:Rt):List Rt:=J9.takeWhile (λx=>ah x a)++a::J9.dropWhile (λx=>ah x a)
def bst (l:List Rt):List Rt:=l.foldl ins []
theorem lN (J9:List Rt) (a:Rt):(ins J9 a).Perm (a::J9):=by
 unfold ins
 refine (List.perm_middle).trans ?_
 rw [List.takeWhile_append_dropWhile]
theorem pT:∀ (l J9:List Rt),(l.foldl ins J9).Perm (l++J9)
 |[],J9=>by simp
 |a::l,J9=>by
  rw [List.foldl_cons]
  refine (pT l (ins J9 a)).trans ?_
  refine ((lN J9 a).append_left l).trans ?_
  exact List.perm_middle
theorem eN (l:List Rt):(bst l).Perm l:=by
 have:=pT l []
 rwa [List.append_nil] at this
theorem xO {J9:List Rt}{a:Rt}(h:J9.Pairwise λx y=>ah x y=true) (hn:a∉J9):(ins J9 a).Pairwise λx y=>ah x y=true:=by
 induction J9 with
 |nil=>simp [ins]
 |cons b l ih =>
  have hb:b≠a:=λe=>hn (by simp [e])
  obtain ⟨h1,h2⟩:=List.pairwise_cons.mp h
  have QQ:a∉l:=λe=>hn (by simp [e])
  unfold ins
  by_cases q:ah b a=true
  ·rw [List.takeWhile_cons,if_pos q,List.dropWhile_cons,if_pos q,List.cons_append]
   refine List.pairwise_cons.mpr ⟨λx hx=>?_,ih h2 QQ⟩
   have:=(lN l a).mem_iff.mp (show x∈ins l a from hx)
   rcases List.mem_cons.mp this with rfl|hx
   ·exact q
   ·exact h1 x hx
  ·rw [List.takeWhile_cons,if_neg q,List.dropWhile_cons,if_neg q,List.nil_append]
   have ab:ah a b=true:=by
    rcases sB a b with z|z|z
    ·exact z
    ·exact (hb z.symm).elim
    ·exact (q z).elim
   refine List.pairwise_cons.mpr ⟨λx hx=>?_,h⟩
   rcases List.mem_cons.mp hx with rfl|hx
   ·exact ab
   ·exact Au ab (h1 x hx)
theorem oX:∀ (l J9:List Rt),(l++J9).Nodup->(J9.Pairwise λx y=>ah x y=true)->((l.foldl ins J9).Pairwise λx y=>ah x y=true)
 |[],J9,_,h=>h
 |a::l,J9,hn,h=>by
  rw [List.foldl_cons]
  have hm:a∉J9:=λe=>by
   rw [List.cons_append,List.nodup_cons] at hn
   exact hn.1 (List.mem_append_right _ e)
  refine oX l (ins J9 a) ?_ (xO h hm)
  have p:(l++ins J9 a).Perm (a::l++J9):=((lN J9 a).append_left l).trans List.perm_middle
  exact p.nodup_iff.mpr hn
theorem xP {l:List Rt}(h:l.Nodup):(bst l).Pairwise λx y=>ah x y=true:=oX l [] (by simpa using h) .nil
theorem vw:∀ {l m:List Rt},(l.Pairwise λx y=>ah x y=true)->(m.Pairwise λx y=>ah x y=true)->l.Perm m->l=m
 |[],m,_,_,p=>(List.perm_nil.mp p.symm).symm
 |a::l,[],_,_,p=>absurd p.length_eq (by simp)
 |a::l,b::m,h1,h2,p=>by
  obtain ⟨a1,a2⟩:=List.pairwise_cons.mp h1
  obtain ⟨b1,b2⟩:=List.pairwise_cons.mp h2
  have e:a=b:=by
   rcases List.mem_cons.mp (p.mem_iff.mp (List.mem_cons_self ..):a∈b::m) with e|e
   ·exact e
   ·rcases List.mem_cons.mp (p.mem_iff.mpr (List.mem_cons_self ..):b∈a::l) with q|q
    ·exact q.symm
    ·have x1:=a1 b q
     have x2:=b1 a e
     rw [Cw x1] at x2;cases x2
  subst e
  rw [vw a2 b2 (List.perm_cons a |>.mp p)]
theorem Av {l:List Rt}(h:(l.map (·.1)).Nodup):l.Nodup:=by
 unfold List.Nodup at h ⊢
 rw [List.pairwise_map] at h
 exact h.imp fun {a b} NQ e=>NQ (by rw [e])
theorem yS {l l':List Rt}(hn:l.Nodup) (p:l'.Perm l) (h:l'.Pairwise λa b=>Ky.lt (kyT (rt b)) (kyT (rt a))=false):l'=bst l:=by
 refine vw ?_ (xP hn) (p.trans (eN l).symm)
 have n':l'.Nodup:=p.nodup_iff.mpr hn
 refine (h.and n').imp fun {a b} hab=>?_
 rcases sB a b with z|z|z
 ·exact z
 ·exact (hab.2 z).elim
 ·have:=hab.1
  rw [sC,sC] at this
  rw [show Ky.lt (ky b) (ky a)=true from z] at this;cases this
theorem Ip {S:Sto}{Q:T->Sto->Prop}{a:Rt}(h:Q (.str a.1) S):gIx (rt a) (.int 0) S Q:=nG (t:=.str a.1) rfl h
theorem Iq {S:Sto}{Q:T->Sto->Prop}{a:Rt}(h:Q (.int a.2) S):gIx (rt a) (.int 1) S Q:=nG (t:=.int a.2) rfl h
end Rk
namespace As
open PySem T2
variable {α β:Type}
noncomputable def kt (f:α->T) (l:List (Str×α)):List (L2.Key×T):=l.map λa=>(Sum.inr a.1,f a.2)
noncomputable def look (l:List (Str×α)) (z:Str):Option α:=(l.find? λa=>decide (a.1=z)).map (·.2)
noncomputable def pu (l:List (Str×α)) (z:Str) (x:α):List (Str×α):=if (l.any λa=>decide (a.1=z))=true then l.map (λa=>if a.1=z then (a.1,x) else a) else l++[(z,x)]
noncomputable def dr (l:List (Str×α)) (z:Str):List (Str×α):=l.filter λa=>decide (a.1≠z)
theorem cH (f:α->T) (z:Str):∀ l:List (Str×α),br (kt f l) (Sum.inr z)=(look l z).map f
 |[]=>rfl
 |a::l=>by
  have ih:=cH f z l
  unfold br kt look at *
  rw [List.map_cons,List.find?_cons,List.find?_cons]
  by_cases e:a.1=z
  ·simp [e]
  ·have e2:¬ (Sum.inr a.1:L2.Key)=Sum.inr z:=λq=>e (Sum.inr.inj q)
   simp only [e,e2,decide_false]
   exact ih
theorem sD (f:α->T) (z:Str):∀ l:List (Str×α),((kt f l).any λkv=>decide (kv.1=Sum.inr z))=l.any λa=>decide (a.1=z)
 |[]=>rfl
 |a::l=>by
  have ih:=sD f z l
  unfold kt at *
  rw [List.map_cons,List.any_cons,List.any_cons,ih]
  congr 1
  rw [Bool.eq_iff_iff]
  simp
theorem FC (f:α->T) (l:List (Str×α)) (z:Str) (x:α):fj (kt f l) (Sum.inr z) (f x)=kt f (pu l z x):=by
 unfold fj pu
 rw [sD]
 split
 ·unfold kt
  rw [List.map_map,List.map_map]
  refine List.map_congr_left λa _=>?_
  by_cases e:a.1=z
  ·simp [e]
  ·have e2:¬ (Sum.inr a.1:L2.Key)=Sum.inr z:=λq=>e (Sum.inr.inj q)
   simp [e]
 ·unfold kt;simp
theorem Aw {l:List (Str×α)}{z:Str}{x:α}(h:look l z=some x):(z,x)∈l:=by
 unfold look at h
 rw [Option.map_eq_some_iff] at h
 obtain ⟨a,h1,h2⟩:=h
 have h3:=List.find?_some h1
 have h4:=List.mem_of_find?_eq_some h1
 simp only [decide_eq_true_eq] at h3
 rw [<- h3,<- h2];exact h4
theorem Cy {l:List (Str×α)}(hn:(l.map (·.1)).Nodup){a:Str×α}(h:a∈l):look l a.1=some a.2:=by
 induction l with
 |nil=>cases h
 |cons b l ih =>
  rw [List.map_cons,List.nodup_cons] at hn
  unfold look
  rw [List.find?_cons]
  rcases List.mem_cons.mp h with rfl|h
  ·simp
  ·rw [decide_eq_false (λe=>hn.1 (by rw [e];exact List.mem_map_of_mem h))]
   exact ih hn.2 h
theorem cF {l:List (Str×α)}{z:Str}:look l z=none ↔ z∉l.map (·.1):=by
 unfold look
 rw [Option.map_eq_none_iff,List.find?_eq_none]
 constructor
 ·intro h hm
  obtain ⟨a,ha,e⟩:=List.mem_map.mp hm
  exact h a ha (by simp [e])
 ·intro h a ha e
  exact h (by rw [<- of_decide_eq_true e];exact List.mem_map_of_mem ha)
theorem FD {l:List (Str×α)}{z:Str}(x:α) (h:z∉l.map (·.1)):pu l z x=l++[(z,x)]:=by
 unfold pu
 rw [if_neg]
 intro e
 rw [List.any_eq_true] at e
 obtain ⟨a,ha,e⟩:=e
 exact h (by rw [<- of_decide_eq_true e];exact List.mem_map_of_mem ha)
theorem sE (f:α->T) (l:List (Str×α)):(kt f l).length=l.length:=by unfold kt;rw [List.length_map]
noncomputable def wrt (m:Int×Int) (now:Int):Int:=m.1 / 2 ^ (now - m.2).toNat
noncomputable def mkT (m:Int×Int):T:=.tup [.int m.1,.int m.2]
end As
open PySem
namespace Wm
theorem qZ:∀ (p q r s:List Nat),32∉p->32∉q->p++32::r=q++32::s->p=q/\r=s
 |[],[],r,s,_,_,h=>⟨rfl,(List.cons.inj h).2⟩
 |[],c::q,r,s,_,h2,h=>absurd (List.cons.inj h).1 λe=>h2 (by rw [<- e];exact List.mem_cons_self)
 |c::p,[],r,s,h1,_,h=>absurd (List.cons.inj h).1 λe=>h1 (by rw [e];exact List.mem_cons_self)
 |c::p,d::q,r,s,h1,h2,h=>by
  obtain ⟨e1,e2⟩:=List.cons.inj h
  obtain ⟨e3,e4⟩:=qZ p q r s (λz=>h1 (List.mem_cons_of_mem _ z)) (λz=>h2 (List.mem_cons_of_mem _ z)) e2
  exact ⟨by rw [e1,e3],e4⟩
theorem pU (y:List Nat):∀ i:List (List Nat),i≠[]->Tm.aW [32] (i++[y])=Tm.aW [32] i++32::y
 |[],h=>absurd rfl h
 |[a],_=>by
  show a++[32]++y=a++32::y
  rw [List.append_assoc];rfl
 |a::b::i,_=>by
  have ih:=pU y (b::i) (by simp)
  show a++[32]++Tm.aW [32] (b::i++[y])=a++[32]++Tm.aW [32] (b::i)++32::y
  rw [ih,List.append_assoc (a++[32])]
end Wm
namespace Nm
open PySem
def D (n:Nat):Str:=Str.ofString (toString (n:Int))
theorem sF (x:Str) (i:Nat):StrLaws.At x " " x.length i ↔ (Tm.tl x)[i]?=some 32:=by
 unfold StrLaws.At Builtin.Str.subAt
 have e1:((Str.ofString " ").length)=1:=rfl
 rw [e1]
 have e2:(x.cps.extract i (i+1)).toList=((Tm.tl x).drop i).take 1:=by
  rw [Array.toList_extract];simp [Tm.tl,List.extract]
 constructor
 ·rintro ⟨h,q⟩
  have q:=congrArg Array.toList (eq_of_beq q)
  rw [e2] at q
  have q:((Tm.tl x).drop i).take 1=[32]:=q
  have:=congrArg (λl=>l[0]?) q
  simpa using this
 ·intro h
  obtain ⟨hl,he⟩:=List.getElem?_eq_some_iff.mp h
  rw [Tm.len] at hl
  refine ⟨by omega,?_⟩
  have:x.cps.extract i (i+1)=(Str.ofString " ").cps:=by
   apply Array.toList_inj.mp
   rw [e2]
   show _=[32]
   rw [List.drop_eq_getElem_cons (by rw [Tm.len];exact hl),List.take_succ_cons,List.take_zero,he]
  rw [this];exact beq_self_eq_true _
theorem part {x p w:Str}(h:32∉Tm.tl p) (e:Tm.tl x=Tm.tl p++32::Tm.tl w):Txt.partition x " "=(p,(Str.ofString " "),w):=by
 have Q9:StrLaws.At x " " x.length p.length:=(sF x _).mpr (by rw [e,<- Tm.len p,List.getElem?_append_right (Nat.le_refl _)];simp)
 have str:∀ {a b:Str},Tm.tl a=Tm.tl b->a=b:=fun {a b} q=>by
  obtain ⟨a⟩:=a
  obtain ⟨b⟩:=b
  exact congrArg Str.mk (Array.toList_inj.mp q)
 have sum:=StrLaws.partition_sum x " "
 rcases PyProof.Rows.partition_whole x " " with ⟨_,no⟩|⟨i,he,hi,hm⟩
 ·exact (no _ Q9).elim
 ·have hs:32∉Tm.tl (Txt.partition x " ").1:=λhc=>by
   rw [he] at hc
   have ts:Tm.tl (Builtin.Str.strSub x 0 i)=(Tm.tl x).take i:=by
    have:=StrLaws.strSub_toList x 0 i
    simpa [Tm.tl] using this
   rw [show ((Builtin.Str.strSub x 0 i,(Str.ofString " "),Builtin.Str.strSub x (i+(Str.ofString " ").length) x.length):Str×Str×Str).1=Builtin.Str.strSub x 0 i from rfl,ts] at hc
   obtain ⟨k,hk⟩:=List.mem_iff_getElem?.mp hc
   rw [List.getElem?_take] at hk
   split at hk
   ·next hki=>exact hm k hki ((sF x k).mpr hk)
   ·cases hk
  have h2:(Txt.partition x " ").2.1=" ":=by rw [he]
  have sum2:=congrArg Tm.tl sum
  rw [Tm.bE,Tm.bE,h2,Tm.gS,e,List.append_assoc] at sum2
  obtain ⟨q1,q2⟩:=Wm.qZ _ _ _ _ hs h sum2
  exact Prod.ext (str q1) (Prod.ext h2 (str q2))
end Nm
namespace L2
open PySem PySem.Spec PyProof.Rows
section
variable {X:Cx}{pos p:Pos}{e e':Expr}{es:List Expr}{tv:TE}{t:Str->TE}{s2:Str}{k n:Nat}
def PJ (X:Cx) (n:Nat) (es:List Expr) (t:Str->TE):Prop:=∀ pins s U H Ko Q,Inv X pins U H s->Ko.length<=n->t Ko U H Q->wpAny (model X.prog X.w) X.A (joinParts Ko (evalEach es X.env)) (EP X pins U Q) X.xe s
theorem FE (h:n<=1000000):PJ X n [] λKo U H Q=>Q (.str Ko) H:=λpins s U H Ko Q I l q =>
 joinParts_nil (show EP X pins U Q _ _ from ⟨.str Ko,_,I.tok _,⟨_,rfl⟩,q⟩) (by rw [sizeLine_eq];omega)
theorem FF (h2:s2.length<=1000) (r:PJ X (n+1000) es t) (hn:n<=1000000):PJ X n (.Constant (.str s2) k p::es) λKo=>t (Ko++s2):=λpins s U H Ko Q I l q =>
 joinParts_cons (thn (rJ (pos:=p) (j:=k) pins s U H (λv H1=>v=.str s2/\H1=H) I ⟨rfl,rfl⟩) λu3 sc zz128=>by
  obtain ⟨v,H3,I3,ru3,ev,eH⟩:=zz128
  subst ev eH
  obtain ⟨t3,rfl⟩:=(show ∃ t,u3=Value.str s2 t from ru3)
  have lz:(Ko++s2).length<=n+1000:=by rw [PySem.Str.length_append];omega
  exact ⟨by rw [sizeLine_eq];omega,r pins _ U _ _ Q I3 lz q⟩)
def Fmt (x:V) (y:Str):Prop:=(∃ i:Int,x=.int i/\i.natAbs.log2<1920/\y=Str.ofString (toString i))\/(x=.str y/\y.length<=1000)
theorem FG (hv:PE X e tv) (r:PJ X (n+2000) es t) (hn:n<=1000000):PJ X n (.FormattedValue e (-1) none p::es) λKo U H Q=>tv U H λx H1=>∃ y,Fmt x y/\t (Ko++y) U H1 Q:=λpins s U H Ko Q I l q =>
 joinParts_cons (FormattedValue_plain (thn (hv pins s U H _ I q) λu2 sb zz129=>by
  obtain ⟨x,H2,I2,rx,y,hf,q⟩:=zz129
  rcases hf with ⟨i,rfl,hi,rfl⟩|⟨rfl,hy⟩
  ·obtain ⟨t2,rfl⟩:=(show ∃ t,u2=Value.int i t from rx)
   have li:(Str.ofString (toString i)).length<=1921:=by rw [PySem.ofString_length];exact int_text_length_le (by decide) hi
   have l0:(Ko++Str.ofString (toString i)).length<=n+2000:=by rw [PySem.Str.length_append];omega
   exact formatField_int_small hi ⟨by rw [sizeLine_eq];omega,r pins _ U _ _ Q (I2.tok _) l0 q⟩
  ·obtain ⟨t2,rfl⟩:=(show ∃ t,u2=Value.str y t from rx)
   have l0:(Ko++y).length<=n+2000:=by rw [PySem.Str.length_append];omega
   exact formatField_str (λt' tk=>⟨by rw [sizeLine_eq];omega,r pins _ U _ _ Q (I2.tok _) l0 q⟩) (by rw [sizeLine_eq];omega)))
theorem FH (hv:PE X e tv) (r:PJ X (n+11000) es t) (hn:n<=1000000):PJ X n (.FormattedValue e 114 none p::es) λKo U H Q=>tv U H λx H1=>∃ z:Str,x=.str z/\z.length<=1000/\PyData.strOk z=true/\t (Ko++reprText z) U H1 Q:=λpins s U H Ko Q I l q =>
 joinParts_cons (by
  show wpAny (model X.prog X.w) X.A (do let v <- eval e X.env;standAt p;formatted p (<- holding [v] (converted 114 v)) none) _ _ s
  refine wpAny_bind (thn (hv pins s U H _ I q) λu sa zz130=>?_)
  obtain ⟨x,H1,I1,rx,z,ex,hz,hok,q⟩:=zz130
  subst ex
  obtain ⟨t1,rfl⟩:=(show ∃ t,u=Value.str z t from rx)
  have hr:(reprText z).length<=10002:=by
   have:=StrLaws.reprText_len z λc hc=>by
    unfold PyData.strOk at hok
    rw [Array.all_eq_true_iff_forall_mem] at hok
    have:=of_decide_eq_true (hok c (by simpa using hc))
    omega
   omega
  have l0:(Ko++reprText z).length<=n+11000:=by rw [PySem.Str.length_append];omega
  refine wpAny_bind (wpAny_standAt (wpAny_bind (wpAny_holding ?_)))
  show wpAny _ _ (pyReprObj (.str z t1)) _ _ _
  exact wpAny_pyReprObj_str (formatField_str (λt' tk=>⟨by rw [sizeLine_eq];omega,r pins _ U _ _ Q (I1.tok _) l0 q⟩) (by rw [sizeLine_eq];omega)) (by rw [sizeLine_eq];omega))
theorem Ir (h:PJ X 0 (e::e'::es) t):PE X (.JoinedStr (e::e'::es) pos) (t Str.empty):=λpins s U H Q I q=>JoinedStr_many (h pins s U H _ Q I (Nat.le_refl 0) q)
theorem PJ.of {t':Str->TE}(h:PJ X n es t) (i:∀ Ko U H Q,t' Ko U H Q->t Ko U H Q):PJ X n es t':=λpins s U H Ko Q I l q=>h pins s U H Ko Q I l (i Ko U H Q q)
end
end L2
namespace T2
open PySem PySem.Spec PyProof.Rows L2
section
variable {K:Fg}{X:Cx}{pos p:Pos}{e e':Expr}{es:List Expr}{wv:WE}{w:Str->WE}{s2:Str}{k n:Nat}
def QJ (K:Fg) (X:Cx) (n:Nat) (es:List Expr) (w:Str->WE):Prop:=PJ X n es λKo=>lE K (w Ko)
def jN:Str->WE:=λKo U S Q=>Q (.str Ko) S
def FmT (x:T) (y:Str):Prop:=(∃ i:Int,x=.int i/\i.natAbs.log2<1920/\y=Str.ofString (toString i))\/(x=.str y/\y.length<=1000)
def jV (wv:WE) (w:Str->WE):Str->WE:=λKo U S Q=>wv U S λx S1=>∃ y,FmT x y/\w (Ko++y) U S1 Q
def jR (wv:WE) (w:Str->WE):Str->WE:=λKo U S Q=>wv U S λx S1=>∃ z:Str,x=.str z/\z.length<=1000/\PyData.strOk z=true/\w (Ko++reprText z) U S1 Q
theorem bI (h:n<=1000000:=by decide):QJ K X n [] jN:=PJ.of (FE h) λKo U H Q zz131=>by obtain ⟨S,J6,Qt,s,c,q,hq⟩:=zz131;exact hq _ _ _ _ .refl s .str q
theorem bB (r:QJ K X (n+1000) es w) (h2:s2.length<=1000:=by decide) (hn:n<=1000000:=by decide):QJ K X n (.Constant (.str s2) k p::es) (λKo=>w (Ko++s2)):=FF h2 r hn
theorem dX (hv:QE K X e wv) (r:QJ K X (n+2000) es w) (hn:n<=1000000:=by decide):QJ K X n (.FormattedValue e (-1) none p::es) (jV wv w) :=
 PJ.of (FG hv r hn) λKo U H Q zz132=>by
  obtain ⟨S,J6,Qt,s,c,q,hq⟩:=zz132
  refine ⟨S,J6,_,s,c,q,λx H1 tx S1 f1 s1 r1 zz133=>?_⟩
  obtain ⟨y,hf,q1⟩:=zz133
  refine ⟨y,?_,S1,J6,Qt,s1,c.fr f1,q1,λx2 H2 tx2 S2 f2=>hq x2 H2 tx2 S2 (f1.trans f2)⟩
  rcases hf with ⟨i,rfl,hi,rfl⟩|⟨rfl,hy⟩
  ·cases r1;exact .inl ⟨i,rfl,hi,rfl⟩
  ·cases r1;exact .inr ⟨rfl,hy⟩
theorem b6 (hv:QE K X e wv) (r:QJ K X (n+11000) es w) (hn:n<=1000000:=by decide):QJ K X n (.FormattedValue e 114 none p::es) (jR wv w) :=
 PJ.of (FH hv r hn) λKo U H Q zz134=>by
  obtain ⟨S,J6,Qt,s,c,q,hq⟩:=zz134
  refine ⟨S,J6,_,s,c,q,λx H1 tx S1 f1 s1 r1 zz135=>?_⟩
  obtain ⟨z,ez,hz,ho,q1⟩:=zz135
  subst ez
  cases r1
  exact ⟨z,rfl,hz,ho,S1,J6,Qt,s1,c.fr f1,q1,λx2 H2 tx2 S2 f2=>hq x2 H2 tx2 S2 (f1.trans f2)⟩
theorem bM (h:QJ K X 0 (e::e'::es) w):QE K X (.JoinedStr (e::e'::es) pos) (w Str.empty):=Ir h
theorem JR {Ko:Str}{U:StT}{S:Sto}{Q:T->Sto->Prop}(h:Q (.str Ko) S):jN Ko U S Q:=h
theorem JS {Ko:Str}{U:StT}{S:Sto}{Q:T->Sto->Prop}(h:wv U S λx S1=>∃ y,FmT x y/\w (Ko++y) U S1 Q):jV wv w Ko U S Q:=h
theorem JT {Ko:Str}{U:StT}{S:Sto}{Q:T->Sto->Prop}(h:wv U S λx S1=>∃ z:Str,x=.str z/\z.length<=1000/\PyData.strOk z=true/\w (Ko++reprText z) U S1 Q):jR wv w Ko U S Q:=h
end
end T2
namespace L2
open PySem PySem.Spec PyProof.Rows
section
variable {X:Cx}
end
end L2
namespace T2
open PySem PySem.Spec PyProof.Rows L2
section
variable {K:Fg}{X:Cx}
end
end T2
namespace L2
open PySem PySem.Spec PyProof.Rows
section
variable {X:Cx}{o e:Expr}{es:List Expr}{r:TR}{ta:TE}{pos apos:Pos}{G:Addr->Prop}{m:Str}{f:Addr}
theorem Cz {x1}(h:PRA X es r):PRE X (.Tuple es x1 pos) r:=λpins s U H R I q=>wpAny_Tuple_spliced (wpAny_mono (h pos pins s U H R I q) (λ_ _ z=>z.elim) λ_ _ z=>z)
def FI (G:Addr->Prop) (m:Str) (ta:TE) (r:TR):TR:=λU H R=>ta U H λx H1=>∃ a C dx fs,x=.ref a/\H1 a=some (.ins C dx fs)/\G C/\fs.lookup m=none/\r U H1 R
theorem yT {pl:Sem Bool}(he:PE X.nox o ta) (hG:∀ C,G C->Cls X.K C/\Meth X.K C m f) (ha:PRA X (e::es) r)
  (Nb:starEach (e::es) X.env=(false,eval e X.env)::starEach es X.env:=by rfl) (KL:(backTo pos (starEach es X.env)).any (·.1)=false:=by rfl)
  (ht:eval (.Call (.Attribute o m apos) (e::es) [] pos) X.env=(do
   let ov <- eval o X.env
   standAt apos.atName
   let (f,first) <- holding [ov] (getMethod ov m pl)
   callWith pos f first (backTo pos (starEach (e::es) X.env)) (backToKw pos (keywordEach [] X.env))):=by rfl) :
  PRE X (.Call (.Attribute o m apos) (e::es) [] pos) (FI G m ta r):=by
 intro pins s U H R I h
 refine PySem.W.methodCall_KW (pl:=pl) (b5 (he pins s U H _ (I.wish _) h) λu s1 ⟨x,H1,I1,rx,a,C,dx,fs,ex,ea,g,l,q⟩=>?_) ht
 subst ex
 obtain rfl:u=Value.ref a:=rx
 obtain ⟨c,hm⟩:=hG C g
 refine fR I1.unwish ea c hm l ?_
 exact PySem.W.callWith_K (first:=[.ref a]) (h₀:=X.base) I.ok.mod.kin hm.kp (wpAny_mono (ha pos pins s1 U H1 R I1.unwish q) (λ_ _ z=>z.elim) λ_ _ z=>z) Nb KL
end
end L2
namespace T2
open PySem PySem.Spec PyProof.Rows L2
section
variable {K:Fg}{X:Cx}{o e:Expr}{es:List Expr}{r r2:WR}{wa:WE}{pos apos:Pos}{G:Addr->Prop}{m:Str}{f:Addr}
theorem FJ {x1}(h:QRA K X es r):QRE K X (.Tuple es x1 pos) r:=Cz h
def re (G:Addr->Prop) (m:Str) (wa:WE) (r:WR):WR:=λU S R=>wa U S λx S1=>∃ a C fs,x=.ref a/\S1 a=some (.ins C fs)/\G C/\fs.lookup m=none/\r U S1 R
theorem Ax {pl:Sem Bool}(hG:∀ C,G C->Cls X.K C/\Meth X.K C m f) (ho:QE K X.nox o wa) (ha:QRA K X (e::es) r)
  (Nb:starEach (e::es) X.env=(false,eval e X.env)::starEach es X.env:=by rfl) (KL:(backTo pos (starEach es X.env)).any (·.1)=false:=by rfl)
  (ht:eval (.Call (.Attribute o m apos) (e::es) [] pos) X.env=(do
   let ov <- eval o X.env
   standAt apos.atName
   let (f,first) <- holding [ov] (getMethod ov m pl)
   callWith pos f first (backTo pos (starEach (e::es) X.env)) (backToKw pos (keywordEach [] X.env))):=by rfl) :
  QRE K X (.Call (.Attribute o m apos) (e::es) [] pos) (re G m wa r):=PRE.of (yT (pl:=pl) ho hG ha Nb KL ht) λU H R zz136=>by
 obtain ⟨S,J6,Rt,s,c,q,hq⟩:=zz136
 refine ⟨S,J6,_,s,c,q,λx H1 tx S1 f1 s1 r1 q1=>?_⟩
 obtain ⟨a,C,fs,rfl,ea,g,l,q1⟩:=q1
 cases r1
 cases s1 a _ ea with
 |ins eh pr=>exact ⟨a,C,_,_,rfl,eh,g,cF pr l,S1,J6,Rt,s1,c.fr f1,q1,λC' J7 H' Kd S' f'=>hq C' J7 H' Kd S' (f1.trans f')⟩
theorem CA {U:StT}{S:Sto}{R:WX}(h:wa U S λx S1=>∃ a C fs,x=.ref a/\S1 a=some (.ins C fs)/\G C/\fs.lookup m=none/\r U S1 R):re G m wa r U S R:=h
end
section
variable {K:Fg}{X:Cx}
def uh:G2:=λx y S Q=>∃ ts us,x=.tup ts/\y=.tup us/\ts≠[]/\us≠[]/\ts.length+us.length<=sizeLine/\Q (.tup (ts++us)) S
theorem FK:OpR X (binaryOp .Add) (l2 K uh):=by
 rintro pins s U H x y v u Q I rx ry ⟨S,tx,ty,Qt,sr,hx,hy,hg,b⟩
 obtain ⟨ts,us,rfl,rfl,h1,h2,hz,q⟩:=hg
 cases hx with
 |tup n1 e1 r1 =>
  cases hy with
  |tup n2 e2 r2 =>
   refine Bg pins s U H _ _ v u Q I rx ry ⟨_,_,_,_,rfl,rfl,.inl (.inl e1),.inl (.inl e2),λz=>?_,by rw [r1.length,r2.length];exact hz,λz=>?_,λ_ p hp=>?_⟩
   ·subst z;cases r1;exact h1 rfl
   ·subst z;cases r2;exact absurd rfl h2
   ·exact b _ _ (.tup (ts++us)) S (Fr.new hp) (sr.new hp) (.tup (sr.fresh hp) aF ((r1.append r2).fr (Fr.new hp))) q
theorem FL {S:Sto}{Q:T->Sto->Prop}{t u:T}{ts us:List T}(hz:(t::ts).length+(u::us).length<=sizeLine) (h:Q (.tup ((t::ts)++(u::us))) S):uh (.tup (t::ts)) (.tup (u::us)) S Q:=⟨_,_,rfl,rfl,nofun,nofun,hz,h⟩
end
end T2
seal T2.QE T2.QT T2.QW T2.QA T2.QS T2.QSs T2.QG T2.QGs T2.QI T2.QTs T2.QO L2.PE L2.PT L2.PA L2.PS L2.PSs L2.PG L2.PGs L2.PI L2.PTs L2.PO L2.PW
namespace My
open PySem L2 T2
set_option genInjectivity false
set_option hygiene false
local macro_rules
 | `(tactic|subst_eqs)=>`(tactic|simp only [Option.isSome_none,Option.isSome_some,Bool.true_xor,Bool.false_xor,Bool.not_false,Bool.not_true])
local macro_rules
 | `(tactic|and_intros)=>`(tactic|simp only [List.set_cons_zero,List.set_cons_succ])
local macro_rules
 |`(tactic| ac_rfl)=>`(tactic| (first|(with_reducible assumption)|with_reducible exact aA|exact (av (by assumption)).trans (by assumption)|exact (av (by assumption)).trans aA|exact (av (Ne.symm (by assumption))).trans aA|exact (av (Ne.symm (by assumption))).trans (by assumption)))
local macro_rules
 |`(tactic| infer_instance)=>`(tactic| (first|omega|(with_reducible assumption)|((with_reducible apply Int.emod_nonneg);omega)|((with_reducible apply Int.emod_lt_of_pos);omega)|(simp only [Int.reduceToNat,Int.reducePow];omega)|(simp only [PySem.Str.length_append];omega)|(simp only [List.length_range,List.length_map];omega)))
local macro_rules
 |`(tactic| contradiction)=>`(tactic| (first|(simp only [PySem.sizeLine_eq,PySem.Str.length_append,Tm.BW,Tm.pM,Tm.k7];omega)|(rw [PySem.sizeLine_eq];omega)|(rw [PySem.sizeLine_eq];decide)))
local macro_rules
 |`(tactic| ext)=>`(tactic| (repeat (first
   |(with_reducible first|apply Hf|apply Eo|apply Ep|apply Hg|apply Hh|apply Hi|apply Ju|apply BF|apply Er|apply Hj|apply i_C|apply i_2|apply i_B|apply Jw|apply BG|apply Hk|apply Jx|apply Hl|apply Es|apply Et|apply Hm|apply Eu|apply Jy|apply Hn|apply Ev|apply Ho|apply Hq|apply Ew|apply Ex|apply Jz|apply JA|apply Hr|apply JB|apply JC|apply JD|apply Ey|apply Ez|apply JE|apply Hs|apply JF|apply Ht|apply EA|apply Hx|apply Hy|apply Hz|apply HA|apply HB|apply HC|apply HD|apply JG|apply HI|apply tU|apply EF|apply EG|apply EH|apply zP|apply HF|apply HG|apply ifT|apply ifF|apply JI|apply JJ|apply Am|apply Ia|apply Fn|apply Ff|apply Cg|apply JU|apply Ij|apply CA|apply JT|apply JS|apply JR|apply Iq|apply Ip|apply sG|apply Ay|apply B9|apply Ck|apply Fa|apply E9|apply bn|apply aZ|apply HW|apply Aj|apply JL|apply JO|apply Cq|apply E3|apply HV|apply E2|apply HS|apply EZ|apply EY)
   |((with_reducible apply HE);(rfl;exact T.ss))
   |((with_reducible apply CB);(infer_instance;infer_instance;(with_reducible assumption);intro r o' hr0 hr1 hbx))
   |((with_reducible apply gK);(infer_instance;infer_instance;ac_rfl;(with_reducible assumption);intro r o' hr0 hr1 hbx))
   |((with_reducible apply Iu);(infer_instance;intro q ob hq0 hbx))
   |((with_reducible apply FM);(infer_instance;intro z))
   |((with_reducible apply CC);(infer_instance))
   |((with_reducible apply i_part);(infer_instance))
   |((with_reducible apply Az);(infer_instance))
   |((with_reducible apply Fv);(ac_rfl))
   |((with_reducible apply JP);(ac_rfl))
   |((with_reducible apply dW);(ac_rfl;rfl;(simp only [List.length_cons,List.length_nil];decide)))
   |((with_reducible apply HU);(ac_rfl;rfl;rfl))
   |((with_reducible apply E1);(ac_rfl;rfl;rfl))
   |((with_reducible apply i_V);(rfl))
   |((with_reducible apply tQ);(((try and_intros);rfl)))
   |((with_reducible apply Jv);(rfl))
   |((with_reducible apply nG);(rfl))
   |((with_reducible apply nH);(rfl))
   |((with_reducible apply tR);(ac_rfl;rfl))
   |((with_reducible apply BI);(rfl;(simp only [List.length_cons,List.length_nil];decide);((try and_intros);rfl)))
   |((with_reducible apply ED);(ac_rfl;rfl;(simp only [List.length_cons,List.length_nil];decide);((try and_intros);rfl)))
   |((with_reducible apply Hv);(infer_instance))
   |((with_reducible apply Hu);(infer_instance;infer_instance))
   |((with_reducible apply EC);(first|exact .inl ⟨by first|omega|decide,by first|omega|decide⟩|exact .inr ⟨by first|omega|decide,by first|omega|decide⟩))
   |((with_reducible apply Hw);(infer_instance))
   |((with_reducible apply EB);(contradiction))
   |((with_reducible apply tT);(contradiction))
   |((with_reducible apply EE);(contradiction))
   |((with_reducible apply BM);(decide;infer_instance))
   |((with_reducible apply HJ);(infer_instance;infer_instance))
   |((with_reducible apply EI);(contradiction;infer_instance;infer_instance;intro d hd ed))
   |((with_reducible apply HH);(ac_rfl))
   |((with_reducible apply BL);(ac_rfl))
   |((with_reducible apply JH (n:=0));((first|decide|(simp only [List.length_cons,List.length_nil];decide)))))))
local macro_rules
 |`(tactic| ac_nf)=>`(tactic| (subst hu;simp only [b0,List.map_cons,List.map_nil,List.length_cons,List.length_nil,List.replicate,List.cons_append,List.nil_append,Nat.zero_add,Nat.reduceAdd,Nat.reduceSub]))
local macro_rules
 |`(tactic| exfalso)=>`(tactic| (ext;repeat' ((with_reducible refine ifB ?_ ?_)<;>(intro hb;(try simp only [Bool.false_xor,Bool.true_xor,Bool.not_eq_true',Bool.not_eq_false',Bool.not_eq_true,Bool.not_eq_false,Bool.not_not,decide_eq_true_eq,decide_eq_false_iff_not,Int.not_lt,Int.not_le,Bool.not_true,Bool.not_false] at hb);ext))))
local macro_rules
 |`(tactic| left)=>`(tactic| (cases d<;>first|exact ⟨_,_,rfl⟩|exact ⟨_,rfl⟩|rfl|exact absurd h (by dsimp only [kd];decide +kernel)))
local macro_rules
 |`(tactic| exists $x)=>`(tactic| ((first|refine D9 F $x (λts S Q h=>?_) λcdv A outer s H E hr=>?_|refine B4 F $x (λts S Q h=>?_) λcdv A outer s H E hr=>?_|refine qU F $x (λts S Q h=>?_) λcdv A outer s H E hr=>?_|refine qU (T2.Fun.toD F) $x (λts S Q h=>?_) λcdv A outer s H E hr=>?_);(focus ((repeat obtain ⟨_,h⟩:=h)<;>(subst_vars;rfl)));have nd:=($x).nd))
local macro_rules
 |`(tactic| symm)=>`(tactic| ((with_reducible apply i_hide);intro X hr))
local macro_rules
 |`(tactic| right)=>`(tactic| refine ifK (λk=>?_) λ_=>?_)
local macro_rules
 |`(!$n:num)=>`(Txt K mg C L R Y Z)
local macro_rules
 |`(!$a:str $m)=>`(Fun K $a $a $m f fd)
local macro_rules
 |`(!$a:str $b:str $m)=>`(FunD K $a $b $m f fd)
local macro_rules
 |`(!$n:num $a $b $c $d)=>`(FnO P w K mg base $n $a $b $c $d)
set_option hygiene true
open Rk S6 As
structure Zs where
 (N T A S H W B X E I:Addr)
def Zs.l (Z:Zs):List Addr:=[Z.S,Z.H,Z.T,Z.N,Z.A,Z.B,Z.X,Z.W]
def Zs.n (Z:Zs) (i:Nat):Addr:=Z.l.getD i 0
abbrev vv0:List Str:=["self","word"]
abbrev vv1:List Str:=["self"]
abbrev vv2:List Str:=["_law_house","_law_layers","_law_kind","_law_word_here"]
abbrev vv3:List Str:=["_law_house","_law_layers","_law_typist","_law_desk","_law_kind","_law_word_here","_law_full"]
abbrev vv4:List Str:=["_law_typist","_law_kind","_law_full"]
abbrev vv5:List Str:=["wood","beginning","word","many"]
abbrev vv6:List Str:=["self","row"]
abbrev vv7:List Str:=["self","word","count"]
abbrev vv8:List Str:=["self","word","times"]
abbrev vv9:List Str:=["self","beginning"]
abbrev jy:List Str:=["_law_house","_law_layers","_law_typist","_law_desk"]
abbrev hW:List Str:=["_law_desk","_law_kind","_law_word_here"]
abbrev dA:List Str:=["self","name","rest"]
abbrev dR:List Str:=["_law_script","_law_k"]
abbrev eC:List Str:=["wood","beginning","word"]
abbrev fM:List Str:=["_law_box_here","_law_many"]
abbrev eD:List Str:=["self","layers","many"]
abbrev eE:List Str:=["text","most_figures"]
abbrev vv18:List Str:=["word","worth","own","before","self"]
abbrev fN:List Str:=["text","least","most"]
abbrev hZ:List Str:=["self","before","word"]
abbrev dS:List Str:=["self","sign"]
abbrev eF:List Str:=["self","house"]
abbrev vv23:List Str:=["word","mark","self","beginning"]
abbrev eG:List Str:=["mark","era"]
abbrev jz:List Str:=["number","word","own"]
abbrev h7:List Str:=["rated","many"]
structure Txt (K:PySem.W.Frag) (mg:Str->Option Value) (C L R Y D:Addr) (Z:Zs):Prop where
 len:mg "len"=none
 range:mg "range"=none
 all:mg "all"=none
 sorted:mg "sorted"=none
 isinstance:mg "isinstance"=none
 int:mg "int"=none
 str:mg "str"=none
 list:mg "list"=none
 max:mg "max"=none
 enumerate:mg "enumerate"=none
 ValueError:mg "ValueError"=none
 ss:PySem.W.kitOne K (.type "str") (.type "str")=some true
 c_MOST_SIGNS:∃ tk,mg "MOST_SIGNS"=some (.int 24 tk)
 c_MOST_PARTS:∃ tk,mg "MOST_PARTS"=some (.int 4 tk)
 c_MOST_LETTERS:∃ tk,mg "MOST_LETTERS"=some (.int 12 tk)
 c_MOST_FIGURES:∃ tk,mg "MOST_FIGURES"=some (.int 15 tk)
 c_ROW_FIGURES:∃ tk,mg "ROW_FIGURES"=some (.int 10 tk)
 c_MOST_COUNT:∃ tk,mg "MOST_COUNT"=some (.int 1000000000 tk)
 c_MOST_NUMBER:∃ tk,mg "MOST_NUMBER"=some (.int 9999999999 tk)
 mg_Wood:mg "Wood"=some (.ref C)
 cl:Cls K C
 nm:aC K C "marks"
 nn:aC K C "now"
 mg_Layers:mg "Layers"=some (.ref L)
 cL:Cls K L
 nh:aC K L "house"
 no:aC K L "own"
 nv:aC K L "veiled"
 mg_Pairs:mg "Pairs"=some (.ref R)
 cR:Cls K R
 rm:aC K R "marks"
 rn:aC K R "now"
 mg_Typist:mg "Typist"=some (.ref Y)
 cY:Cls K Y
 yl:aC K Y "layers"
 ym:aC K Y "many"
 yp:aC K Y "pairs"
 yt:aC K Y "text"
 yc:aC K Y "chosen"
 mg_Desk:mg "Desk"=some (.ref D)
 cD:Cls K D
 dh:aC K D "house"
 dl:aC K D "layers"
 dt:aC K D "typist"
 mg_NoWord:mg "NoWord"=some (.ref Z.N)
 mg_Twice:mg "Twice"=some (.ref Z.T)
 mg_Absent:mg "Absent"=some (.ref Z.A)
 mg_NoSign:mg "NoSign"=some (.ref Z.S)
 mg_NoChoice:mg "NoChoice"=some (.ref Z.H)
 mg_NoRow:mg "NoRow"=some (.ref Z.W)
 mg_Beside:mg "Beside"=some (.ref Z.B)
 mg_NoText:mg "NoText"=some (.ref Z.X)
 mg_AheadError:mg "AheadError"=some (.ref Z.E)
 x_NoWord:aV K Z.N none=true
 x_Twice:aV K Z.T none=true
 x_Absent:aV K Z.A none=true
 x_NoSign:aV K Z.S none=true
 x_NoChoice:aV K Z.H none=true
 x_NoRow:aV K Z.W none=true
 x_Beside:aV K Z.B none=true
 ex:aV K Z.X (some (.ref Z.I))=true
 fn:PySem.W.isFn K (.ref Z.I)=true
 nr:aC K Z.X "row"
 sp:PySem.W.specialIn K (.ref Z.E) "__getattribute__"=some (some (.builtin "type.__getattribute__"))
 rd:PySem.W.readsIn K Z.E (.type "type")=true
 fc:PySem.W.findCls K (.ref Z.E) (.type "type") "__init__"=some (.val (.builtin "ValueError.__init__"))
 xa:nZ K Z.E Z.l=true
section
variable {P:Program}{w:World}{K:PySem.W.Frag}{mg:Str->Option Value}{base:Heap}{C L R Y D:Addr}{Z:Zs}
theorem Txt.gm (T:Txt K mg C L R Y D Z):∀ c,c=C->Cls K c/\aC K c "marks":=λc e=>by subst e;exact ⟨T.cl,T.nm⟩
theorem Txt.gn (T:Txt K mg C L R Y D Z):∀ c,c=C->Cls K c/\aC K c "now":=λc e=>by subst e;exact ⟨T.cl,T.nn⟩
theorem Txt.gh (T:Txt K mg C L R Y D Z):∀ c,c=L->Cls K c/\aC K c "house":=λc e=>by subst e;exact ⟨T.cL,T.nh⟩
theorem Txt.go (T:Txt K mg C L R Y D Z):∀ c,c=L->Cls K c/\aC K c "own":=λc e=>by subst e;exact ⟨T.cL,T.no⟩
theorem Txt.gv (T:Txt K mg C L R Y D Z):∀ c,c=L->Cls K c/\aC K c "veiled":=λc e=>by subst e;exact ⟨T.cL,T.nv⟩
theorem Txt.gpm (T:Txt K mg C L R Y D Z):∀ c,c=R->Cls K c/\aC K c "marks":=λc e=>by subst e;exact ⟨T.cR,T.rm⟩
theorem Txt.gpn (T:Txt K mg C L R Y D Z):∀ c,c=R->Cls K c/\aC K c "now":=λc e=>by subst e;exact ⟨T.cR,T.rn⟩
theorem Txt.gul (T:Txt K mg C L R Y D Z):∀ c,c=Y->Cls K c/\aC K c "layers":=λc e=>by subst e;exact ⟨T.cY,T.yl⟩
theorem Txt.gum (T:Txt K mg C L R Y D Z):∀ c,c=Y->Cls K c/\aC K c "many":=λc e=>by subst e;exact ⟨T.cY,T.ym⟩
theorem Txt.gup (T:Txt K mg C L R Y D Z):∀ c,c=Y->Cls K c/\aC K c "pairs":=λc e=>by subst e;exact ⟨T.cY,T.yp⟩
theorem Txt.gut (T:Txt K mg C L R Y D Z):∀ c,c=Y->Cls K c/\aC K c "text":=λc e=>by subst e;exact ⟨T.cY,T.yt⟩
theorem Txt.guc (T:Txt K mg C L R Y D Z):∀ c,c=Y->Cls K c/\aC K c "chosen":=λc e=>by subst e;exact ⟨T.cY,T.yc⟩
theorem Txt.gdh (T:Txt K mg C L R Y D Z):∀ c,c=D->Cls K c/\aC K c "house":=λc e=>by subst e;exact ⟨T.cD,T.dh⟩
theorem Txt.gdl (T:Txt K mg C L R Y D Z):∀ c,c=D->Cls K c/\aC K c "layers":=λc e=>by subst e;exact ⟨T.cD,T.dl⟩
theorem Txt.gdt (T:Txt K mg C L R Y D Z):∀ c,c=D->Cls K c/\aC K c "typist":=λc e=>by subst e;exact ⟨T.cD,T.dt⟩
theorem Txt.gd (T:Txt K mg C L R Y D Z){m:Str}{f:Addr}(h:Meth K D m f):∀ c,c=D->Cls K c/\Meth K c m f:=λc e=>by subst e;exact ⟨T.cD,h⟩
theorem Txt.gf (T:Txt K mg C L R Y D Z){m:Str}{f:Addr}(h:Meth K C m f):∀ c,c=C->Cls K c/\Meth K c m f:=λc e=>by subst e;exact ⟨T.cl,h⟩
theorem Txt.gl (T:Txt K mg C L R Y D Z){m:Str}{f:Addr}(h:Meth K L m f):∀ c,c=L->Cls K c/\Meth K c m f:=λc e=>by subst e;exact ⟨T.cL,h⟩
theorem Txt.gp (T:Txt K mg C L R Y D Z){m:Str}{f:Addr}(h:Meth K R m f):∀ c,c=R->Cls K c/\Meth K c m f:=λc e=>by subst e;exact ⟨T.cR,h⟩
theorem Txt.gu (T:Txt K mg C L R Y D Z){m:Str}{f:Addr}(h:Meth K Y m f):∀ c,c=Y->Cls K c/\Meth K c m f:=λc e=>by subst e;exact ⟨T.cY,h⟩
theorem Txt.xm (T:Txt K mg C L R Y D Z){i:Nat}(hi:i<8):XC K (Z.n i)/\PySem.W.exmOne K (.ref (Z.n i)) (.ref Z.E)=some true/\PySem.W.kitOne K (.ref (Z.n i)) (.type "ValueError")=some true/\∀ j<8,PySem.W.kitOne K (.ref (Z.n i)) (.ref (Z.n j))=some (i==j):=by
 have h:=T.xa
 unfold nZ at h
 rw [List.all_eq_true] at h
 have h:=h i (List.mem_range.mpr hi)
 simp only [Bool.and_eq_true,beq_iff_eq,List.all_eq_true] at h
 exact ⟨XC.of h.1.1.1,h.1.1.2,h.1.2,λj hj=>h.2 j (List.mem_range.mpr hj)⟩
def GX (Z:Zs) (c:Addr):Prop:=∃ i,i<8/\c=Z.n i
theorem Txt.gx (T:Txt K mg C L R Y D Z):∀ c,GX Z c->XC K c:=λc zz137=>by obtain ⟨_,h,e⟩:=zz137;exact e ▸ (T.xm h).1
theorem Txt.gr (T:Txt K mg C L R Y D Z):∀ c,c=Z.X->XC K c/\aC K c "row":=λc e=>by
 subst e
 exact ⟨(T.xm (i:=6) (by decide)).1,T.nr⟩
theorem Txt.k_NoWord (T:Txt K mg C L R Y D Z):PySem.W.keepIn K (.ref Z.N)=true:=(T.xm (i:=3) (by decide)).1.kp
theorem Txt.k_Twice (T:Txt K mg C L R Y D Z):PySem.W.keepIn K (.ref Z.T)=true:=(T.xm (i:=2) (by decide)).1.kp
theorem Txt.k_Absent (T:Txt K mg C L R Y D Z):PySem.W.keepIn K (.ref Z.A)=true:=(T.xm (i:=4) (by decide)).1.kp
theorem Txt.k_NoSign (T:Txt K mg C L R Y D Z):PySem.W.keepIn K (.ref Z.S)=true:=(T.xm (i:=0) (by decide)).1.kp
theorem Txt.k_NoChoice (T:Txt K mg C L R Y D Z):PySem.W.keepIn K (.ref Z.H)=true:=(T.xm (i:=1) (by decide)).1.kp
theorem Txt.k_NoRow (T:Txt K mg C L R Y D Z):PySem.W.keepIn K (.ref Z.W)=true:=(T.xm (i:=7) (by decide)).1.kp
theorem Txt.k_Beside (T:Txt K mg C L R Y D Z):PySem.W.keepIn K (.ref Z.B)=true:=(T.xm (i:=5) (by decide)).1.kp
theorem Txt.k_NoText (T:Txt K mg C L R Y D Z):PySem.W.keepIn K (.ref Z.X)=true:=(T.xm (i:=6) (by decide)).1.kp
def cb (o:O):Prop:=∃ a b c d:Int,o=.lst [.int a,.int b,.int c,.int d]
def eV:WSp:=λts S Q=>∃ p m o,ts=[.ref p,.int m]/\0<m/\m<18446744073709551616/\S p=some o/\cb o/\∀ r o',0<=r->r<m->cb o'->Q (.int r) (put S p o')
theorem gK {S:Sto}{Q:T->Sto->Prop}{p:Addr}{m:Int}{o:O}(h1:0<m) (h2:m<18446744073709551616) (e:S p=some o) (f:cb o) (h:∀ r o',0<=r->r<m->cb o'->Q (.int r) (put S p o')) :
  eV ([.ref p,.int m]++[]) S Q:=⟨p,m,o,rfl,h1,h2,e,f,h⟩
theorem CB {S:Sto}{Q:T->Sto->Prop}{p:Addr}{m:Int}{o:O}(h1:0<m) (h2:m<18446744073709551616) (f:cb o) (h:∀ r o',0<=r->r<m->cb o'->Q (.int r) (put S p o')) :
  eV ([.ref p,.int m]++[]) (put S p o) Q:=⟨p,m,o,rfl,h1,h2,aA,f,λr o' a b c=>by rw [dB];exact h r o' a b c⟩
theorem xf:FnScope ["_law_box_here","_law_many","_law_found"] fM (aj kK):=⟨rfl,rfl,rfl,by decide +kernel,rfl,by decide +kernel,by decide +kernel⟩
theorem CD (F:!"_law_take" kK):!1 f fd fM eV:=by
 exists xf
 refine ⟨_,((ak (fy (aB (bf false) (aE (aa 0) ae) ae) (fL (aa 0) ae (gD 2))) (ak (ax (bY (dE (aq hr (aE (aa 0) ae) ae) (dD (io bL bL (dG ae) (aE (aa 0) ae) ae)))) (ak (fy (aE (aa 0) ae) (fL (aa 0) ae (gD 0))) (am (fy ae (fL (aa 0) ae (gD 1))))) ay) (ak (ax (aq hr (aE (aa 0) ae) ae) (ak (aI 2 nd (aB cQ (aE (aa 0) ae) (aa 1))) (ak (fy (aB nC (aE (aa 0) ae) (aa 1)) (fL (aa 0) ae (gD 0))) (am (aG (aa 2))))) ay) (ak (fy (aB cQ (aB (bf false) (aB (bf false) (aB (dF false) (aB cQ (aE (aa 0) ae) ae) ae) (aB (dF false) ae (aE (aa 0) ae))) ae) ae) (fL (aa 0) ae (gD 0))) (am (aG (aB cQ (aB nC (aB cQ (aB (dF false) (aE (aa 0) ae) ae) ae) ae) (aa 1))))))))),aD λv hu ts S Q h=>?_⟩
 obtain ⟨p,m,o,rfl,h1,h2,hp,⟨a,b,c,d,rfl⟩,hq⟩:=h
 ac_nf
 refine dI (λJ7 S'=>J7=[some (.ref p),some (.int m),none]/\S'=put S p (.lst [.int a,.int b,.int (c+1),.int d])) ?_ ?_
 ·intro X hX
  ext
  exact hX _ _ ⟨rfl,rfl⟩
 rintro J7 S' ⟨rfl,rfl⟩
 refine dI (λJ7 S'=>J7=[some (.ref p),some (.int m),none]/\∃ o',cb o'/\S'=put S p o') ?_ ?_
 ·intro X hX
  exfalso
  all_goals exact hX _ _ ⟨rfl,_,⟨_,_,_,_,rfl⟩,rfl⟩
 ·rintro J7 S' ⟨rfl,o',⟨a,b,c,d,rfl⟩,rfl⟩
  exfalso
  all_goals exact .mk (hq _ _ (Int.emod_nonneg _ (by omega)) (Int.emod_lt_of_pos _ h1) ⟨_,_,_,_,rfl⟩)
def iL:WSp:=λts S Q=>∃ (ns:List Int) (k:Int),ts=[.scr ns,.int k]/\0<=k/\∀ z:Int,Q (.int z) S
theorem FM {S:Sto}{Q:T->Sto->Prop}{ns:List Int}{k:Int}(h0:0<=k) (h:∀ z:Int,Q (.int z) S):iL ([.scr ns,.int k]++[]) S Q:=⟨ns,k,rfl,h0,h⟩
theorem v4:FnScope ["_law_script","_law_k","_law_seed"] dR (aj ka):=⟨rfl,rfl,rfl,by decide +kernel,rfl,by decide +kernel,by decide +kernel⟩
theorem CF (F:!"_law_cell_at" ka) (T:Txt K mg C L R Y D Z):!1 f fd dR iL:=by
 exists v4
 refine ⟨_,((ak (ax (bo vb (aa 1) (aX (b8 rfl) T.len PySem.boot_len (ac (aa 0) af))) (am (aG (aE (aa 0) (aa 1)))) ay) (ak (aI 2 nd ae) (ak (ax (bo vc (aX (b8 rfl) T.len PySem.boot_len (ac (aa 0) af)) ae) (am (aI 2 nd (aE (aa 0) (aB cQ (aa 1) (aX (b8 rfl) T.len PySem.boot_len (ac (aa 0) af)))))) ay) (am (aG (aB (bf false) (aB (dF false) (aB cQ (aB (bf false) (aB (bf false) (aB (dF false) (aB cQ (aa 2) ae) ae) (aB (dF false) (aa 1) ae)) ae) ae) ae) ae))))))),aD λv hu ts S Q h=>?_⟩
 obtain ⟨ns,k,rfl,h0,hq⟩:=h
 ac_nf
 refine dI (λJ7 S'=>J7=[some (.scr ns),some (.int k),none]/\S=S') ?_ ?_
 ·intro X hX
  exfalso
  ·refine tV h0 hb λz _ _=>?_
   ext
   exact .mk (hq _)
  ·exact hX _ _ ⟨rfl,rfl⟩
 rintro J7 S' ⟨rfl,rfl⟩
 refine dI (λJ7 S'=>∃ z:Int,J7=[some (.scr ns),some (.int k),some (.int z)]/\S=S') ?_ ?_
 ·intro X hX
  ext
  exact hX _ _ ⟨_,rfl,rfl⟩
 rintro J7 S' ⟨z,rfl,rfl⟩
 refine dI (λJ7 S'=>∃ z:Int,J7=[some (.scr ns),some (.int k),some (.int z)]/\S=S') ?_ ?_
 ·intro X hX
  exfalso
  ·refine tV (Int.emod_nonneg _ (by omega)) (Int.emod_lt_of_pos _ hb) λz _ _=>?_
   ext
   exact hX _ _ ⟨_,rfl,rfl⟩
  ·exact hX _ _ ⟨_,rfl,rfl⟩
 rintro J7 S' ⟨z,rfl,rfl⟩
 ext
 exact .mk (hq _)
def i7:WSp:=λts S Q=>∃ (ns:List Int) (k:Int),ts=[.scr ns,.int k]/\0<=k/\∀ p o,S p=none->cb o->Q (.ref p) (put S p o)
theorem Iu {S:Sto}{Q:T->Sto->Prop}{ns:List Int}{k:Int}(h0:0<=k) (h:∀ p o,S p=none->cb o->Q (.ref p) (put S p o)):i7 ([.scr ns,.int k]++[]) S Q:=⟨ns,k,rfl,h0,h⟩
theorem xQ:FnScope ["_law_script","_law_k","_law_cell"] dR (aj kT):=⟨rfl,rfl,rfl,by decide +kernel,rfl,by decide +kernel,by decide +kernel⟩
theorem FN (F:!"_law_box" kT) (MI:!1 f1 Ki dR iL) (MJ:Df K mg "_law_cell_at" f1 Ki dR) :
  !2 f fd dR i7:=by
 exists xQ
 refine ⟨_,((ak (aI 2 nd (aJ MI MJ hr.m (ac (aa 0) (ac (aa 1) af)))) (am (aG (rQ (ac (aB nC (aa 2) ae) (ac (aB cQ (aa 2) ae) (ac ae (ac (aa 2) af))))))))),aD λv hu ts S Q h=>?_⟩
 obtain ⟨ns,k,rfl,h0,hq⟩:=h
 ac_nf
 ext
 exact λp hp=>.mk (hq p _ hp ⟨_,_,_,_,rfl⟩)
def sH:WSp:=λts S Q=>∃ p o,ts=[.ref p]/\S p=some o/\cb o/\∀ z o',Wm.Wd z=true->cb o'->Q (.str z) (put S p o')
theorem CG {z:Str}(h:Tm.tl z=[]):z="":=by
 obtain ⟨a⟩:=z
 have:a=#[]:=Array.toList_inj.mp h
 rw [this];rfl
structure Mkw (z:Str) (zs:List Str):Prop where
 pt:∀ y∈zs,Sc.isP (Tm.tl y)=true
 eq:Tm.tl z=Tm.aW [32] (zs.map Tm.tl)
 le:z.length<=24
theorem Mkw.ne {z:Str}{zs:List Str}(h:Mkw z zs) (hz:z ≠ ""):zs≠[]:=λe=>hz (CG (by rw [h.eq,e];rfl))
theorem Mkw.one {y:Str}(h:Sc.isP (Tm.tl y)=true) (hl:y.length<=24):Mkw y [y]:=⟨by simpa using h,rfl,hl⟩
theorem Mkw.more {z y:Str}{zs:List Str}(h:Mkw z zs) (hz:z ≠ "") (hy:Sc.isP (Tm.tl y)=true) (hl:(z ++ " " ++ y).length<=24):Mkw (z ++ " " ++ y) (zs++[y]):=by
 refine ⟨λx hx=>?_,?_,hl⟩
 ·rcases List.mem_append.mp hx with q|q
  ·exact h.pt x q
  ·rw [List.mem_singleton.mp q];exact hy
 ·rw [Tm.bE,Tm.bE,h.eq,List.map_append,List.map_cons,List.map_nil,Wm.pU _ _ (by simpa using h.ne hz),Tm.gS,List.append_assoc]
  rfl
theorem Mkw.wd {z:Str}{zs:List Str}(h:Mkw z zs) (hn:zs≠[]) (h4:zs.length<=4):Wm.Wd z=true:=by
 have:=Wm.Cv h.pt hn h4
 rw [Tm.iH,Tm.gS,<- h.eq] at this
 unfold Wm.Wd
 rw [this,decide_eq_true h.le];rfl
theorem xg:FnScope ["_law_box_here","_law_letters","_law_word_here","_law_k","_law_size","_law_part"] ["_law_box_here"] (aj kL):=⟨rfl,rfl,rfl,by decide +kernel,rfl,by decide +kernel,by decide +kernel⟩
theorem CH (F:!"_law_word" kL) (T:Txt K mg C L R Y D Z) (Kg:!1 f1 Ki fM eV) (Kh:Df K mg "_law_take" f1 Ki fM) :
  !2 f fd ["_law_box_here"] sH:=by
 exists xg
 refine ⟨_,((ak (aI 1 nd (aE (cA (ac aw (ac aw (ac aw af)))) (aJ Kg Kh hr.m (ac (aa 0) (ac ae af))))) (ak (aI 2 nd aw) (ak (nD PassesOwn.never rfl (fT (by rfl) T.range (aE (cA (ac ae (ac ae (ac ae (ac ae (ac ae (ac ae (ac ae af)))))))) (aJ Kg Kh hr.m (ac (aa 0) (ac ae af))))) (bq 3 nd) (ak (aI 4 nd (aE (cA (ac ae (ac ae (ac ae (ac ae (ac ae (ac ae (ac ae af)))))))) (aJ Kg Kh hr.m (ac (aa 0) (ac ae af))))) (ak (aI 5 nd (c5 PySem.F.plainAttrs_str PySem.F.slot_str_join PySem.F.type_str_join (rY rfl) aw (ac (c9 false ["_law_j","_law_letters","_law_box_here"] 1 [1,0] rfl (fT (by rfl) T.range (aa 4)) (λ_ _ _ _=>(bq 0 (show List.Nodup (["_law_j","_law_letters","_law_box_here"]:List Str) from by decide +kernel))) (λ_ _ _ _=>c6) (λ_ _ _ _=>(aE (aa 1) (aJ Kg Kh hr.m (ac (aa 2) (ac (aX (b8 rfl) T.len PySem.boot_len (ac (aa 1) af)) af)))))) af))) (am (ax (aq hr (aa 2) aw) (am (aI 2 nd (aa 5))) (am (ax (bo bL (aB (bf false) (aB (bf false) (aX (b8 rfl) T.len PySem.boot_len (ac (aa 2) af)) ae) (aa 4)) ae) (am (aI 2 nd (aB (bf false) (aB (bf false) (aa 2) aw) (aa 5)))) ay))))))) (am (aG (aa 2))))))),aD λv hu ts S Q h=>?_⟩
 obtain ⟨p,o,rfl,hp,hf,hq⟩:=h
 ac_nf
 ext
 refine nI (λt=>∃ z:Str,t=.str z/\1<=z.length/\z.length<=26/\(Tm.tl z).all Sc.isL=true) hr0 ?_ ?_ ?_
 ·simpa using hr1
 ·intro t ht
  simp only [List.mem_cons,List.not_mem_nil,or_false] at ht
  rcases ht with rfl|rfl|rfl<;>exact ⟨_,rfl,by decide +kernel,by decide +kernel,by decide +kernel⟩
 rintro _ ⟨le,rfl,hle1,hle2,hle3⟩
 ext
 refine nI (λt=>∃ z:Int,t=.int z/\1<=z/\z<=4) hr0 ?_ ?_ ?_
 ·simpa using hr1
 ·simp
 rintro _ ⟨m,rfl,hm1,hm2⟩
 ext
 refine kM (λk J7 S'=>∃ (z:Str) (zs:List Str) (o2:O) (u v q:Option T2.T),Mkw z zs/\zs.length<=k/\(1<=k->zs≠[])/\J7=[some (.ref p),some (.str le),some (.str z),u,v,q]/\S'=put S p o2/\cb o2)
  ⟨"",[],_,none,none,none,⟨by simp,rfl,by decide⟩,Nat.zero_le _,λh=>absurd h (by decide),rfl,rfl,hbx⟩ ?_ ?_
 ·rintro k J7 S' N hk ⟨z,zs,o2,u,v,q,hmk,hzk,hz1,rfl,rfl,O2⟩ hN
  have hz24:=hmk.le
  refine ⟨trivial,?_⟩
  have hk4:k<4:=by omega
  ext
  refine nI (λt=>∃ z:Int,t=.int z/\1<=z/\z<=12) hr0 ?_ ?_ ?_
  ·simpa using hr1
  ·simp
  rintro _ ⟨n,rfl,hn1,QQ⟩
  ext
  refine ik (λitems J9 J7 S'=>∃ (ys:List Str) (u:Option T2.T) (o4:O),J9=ys.map T2.T.str/\(∀ y∈ys,∃ c,y=⟨#[c]⟩/\Sc.isL c=true)/\ys.length+items.length=n.toNat/\J7=[u,some (.str le),some (.ref p)]/\S'=put S p o4/\cb o4)
   ⟨[],none,_,rfl,by simp,by simp [cP],rfl,rfl,by assumption⟩ ?_ ?_
  ·rintro t ts J9 J7 S' N2 ⟨ys,u,o4,rfl,hys,hl,rfl,rfl,Ra⟩ hN2
   simp only [List.length_cons] at hl
   refine ⟨trivial,?_⟩
   ext
   refine ⟨by rw [List.length_map,sizeLine_eq];omega,hN2 _ _ _ ⟨ys++[⟨#[d]⟩],_,_,by simp,?_,by simp;omega,rfl,rfl,by assumption⟩⟩
   intro y hy
   rcases List.mem_append.mp hy with h|h
   ·exact hys y h
   ·exact ⟨d,List.mem_singleton.mp h,List.all_eq_true.mp hle3 d hd⟩
  ·rintro J9 J7 S' ⟨ys,u,o4,rfl,hys,hl,rfl,rfl,Ra⟩
   have hl2:ys.length=n.toNat:=by simpa using hl
   have hy1:∀ y∈ys,y.length<=1:=λy hy=>by obtain ⟨c,rfl,_⟩:=hys y hy;exact Nat.le_refl _
   refine ⟨trivial,?_⟩
   ext
   refine qM (Tm.qd ys) (Tm.EO (b:=1) hy1 (by rw [Tm.k7];omega)) ?_
   have hj:=Tm.BX "" (b:=1) ys hy1
   rw [Tm.k7] at hj
   have hpt:Sc.isP (Tm.tl (Txt.join "" ys))=true:=Wm.iC hys (by omega) (by omega)
   have hj12:(Txt.join "" ys).length<=n.toNat:=by omega
   generalize Txt.join "" ys=pt at hj12 hpt
   exfalso
   ·exact hN _ _ ⟨pt,[pt],_,_,_,_,Mkw.one hpt (by omega),by simp,by simp,rfl,rfl,Ra⟩
   ·refine hN _ _ ⟨z ++ " " ++ pt,zs++[pt],_,_,_,_,Mkw.more hmk (by first|assumption|simpa using hb_1|simpa using hb) hpt ?_,by simp;omega,by simp,rfl,rfl,Ra⟩
    simp only [PySem.Str.length_append,Tm.pM];omega
   ·exact hN _ _ ⟨z,zs,_,_,_,_,hmk,by omega,λ_=>hmk.ne (by first|assumption|simpa using hb_1|simpa using hb),rfl,rfl,Ra⟩
 ·rintro J7 S' ⟨z,zs,o2,u,v,q,hmk,hzk,hz1,rfl,rfl,O2⟩
  refine ⟨trivial,?_⟩
  ext
  exact .mk (hq _ _ (hmk.wd (hz1 (by omega)) (by omega)) O2)
theorem _root_.T2.Le.chg {S S':Sto}{l:Addr}{o:O}(le:Le S S') (h:S l=none):Le S (put S' l o):=λa u e=>by
 have:a≠l:=λz=>by rw [z,h] at e;cases e
 rw [av this];exact le a u e
def ix:WSp:=λts S Q=>∃ c:Nat,ts=[.str ⟨#[c]⟩]/\Q (.bl (Sc.isL c)) S
theorem Ay {S:Sto}{Q:T->Sto->Prop}{c:Nat}(h:Q (.bl (Sc.isL c)) S):ix ([.str ⟨#[c]⟩]++[]) S Q:=⟨c,rfl,h⟩
theorem wM:FnScope ["sign"] ["sign"] (aj ki):=⟨rfl,rfl,rfl,by decide +kernel,rfl,by decide +kernel,by decide +kernel⟩
theorem yU (F:!"is_letter" ki):!1 f fd ["sign"] ix:=by
 exists wM
 refine ⟨_,((am (aG (l7 bL bL aw (aa 0) aw)))),aD λv hu ts S Q h=>?_⟩
 obtain ⟨c,rfl,hq⟩:=h
 rw [<- Wm.FA] at hq
 ac_nf
 ext
 refine ifB (λhb=>?_) λhb=>?_
 ·ext
  rw [hb,Bool.true_and] at hq
  exact .mk hq
 ·rw [hb,Bool.false_and] at hq
  exact .mk hq
def lP:WSp:=λts S Q=>∃ z:Str,ts=[.str z]/\z.length<=1000/\Q (.bl (Sc.isP (Tm.tl z))) S
theorem Az {S:Sto}{Q:T->Sto->Prop}{z:Str}(h0:z.length<=1000) (h:Q (.bl (Sc.isP (Tm.tl z))) S):lP ([.str z]++[]) S Q:=⟨z,rfl,h0,h⟩
theorem xR:FnScope ["text"] ["text"] (aj kQ):=⟨rfl,rfl,rfl,by decide +kernel,rfl,by decide +kernel,by decide +kernel⟩
theorem yV (F:!"is_part" kQ) (T:Txt K mg C L R Y D Z) (Lh:!1 f1 Ki ["sign"] ix) (Li:Df K mg "is_letter" f1 Ki ["sign"]) :
  !2 f fd ["text"] lP:=by
 exists xR
 refine ⟨_,((am (aG (iN (l7 bL bL ae (aX (b8 rfl) T.len PySem.boot_len (ac (aa 0) af)) (db (n:=12) (by rfl) T.c_MOST_LETTERS)) (gP (aX (nE rfl rfl) T.all PyProof.Rows.boot_all (ac (c9 false ["sign"] 1 [] rfl (rV (aa 0)) (λ_ _ _ _=>(bq 0 (show List.Nodup (["sign"]:List Str) from by decide +kernel))) (λ_ _ _ _=>c6) (λ_ _ _ _=>(aJ Lh Li hr.m (ac (aa 0) af)))) af))))))),aD λv hu ts S Q h=>?_⟩
 obtain ⟨z,rfl,hz,hq⟩:=h
 have e:Sc.isP (Tm.tl z)=(decide (1<=(z.length:Int))&&decide ((z.length:Int)<=12)&&(Tm.tl z).all Sc.isL):=by
  unfold Sc.isP
  rw [Tm.len]
  congr 1
  congr 1
  ·rw [Bool.eq_iff_iff];simp only [decide_eq_true_eq];omega
  ·rw [Bool.eq_iff_iff];simp only [decide_eq_true_eq];omega
 rw [e] at hq
 ac_nf
 ext
 refine ifB (λhb=>?_) λhb=>?_
 ·rw [hb,Bool.true_and] at hq
  ext
  refine ifB (λhb=>?_) λhb=>?_
  ·rw [hb,Bool.true_and] at hq
   ext
   refine eJ (ls:=Tm.tl z) (λc=>T2.T.str ⟨#[c]⟩) (λc=>some (.bl (Sc.isL c))) [] ?_ ?_ (λx hx u J9 N Lc hN=>?_) ?_
   ·trivial
   ·rw [Tm.len,sizeLine_eq];omega
   ·ext
    exact ⟨Lc,hN _⟩
   ·ext
    refine mR (bs:=(Tm.tl z).map Sc.isL) (by rw [<- Wm.all_map,List.map_map];rw [Wm.mw];rfl) ?_
    rw [List.all_map]
    exact .mk hq
  ·rw [hb,Bool.false_and] at hq
   exact .mk hq
 ·rw [hb,Bool.false_and,Bool.false_and] at hq
  ext
  exact .mk hq
def fZ:WSp:=λts S Q=>∃ z:Str,ts=[.str z]/\z.length<=1000/\Q (.bl (Wm.Wd z)) S
theorem xS:FnScope ["thing","parts"] ["thing"] (aj kR):=⟨rfl,rfl,rfl,by decide +kernel,rfl,by decide +kernel,by decide +kernel⟩
theorem yW (F:!"is_word" kR) (T:Txt K mg C L R Y D Z) (O3:!2 f1 Ki ["text"] lP) (O4:Df K mg "is_part" f1 Ki ["text"]) :
  !3 f fd ["thing"] fZ:=by
 exists xS
 refine ⟨_,((ak (ax (bY (d9 (bx (bj (aX (Hb rfl) T.isinstance PyProof.Rows.boot_isinstance (ac (aa 0) (ac (vm (n:="str") (by rfl) T.str PyProof.Rows.boot_str) af))))) (d4 (bo vc (aX (b8 rfl) T.len PySem.boot_len (ac (aa 0) af)) (db (n:=24) (by rfl) T.c_MOST_SIGNS))))) (am (aG fH)) ay) (ak (aI 1 nd (c5 PySem.F.plainAttrs_str PySem.F.slot_str_split PySem.F.type_str_split (BE false) (aa 0) (ac aw af))) (am (aG (iN (d3 bL (aX (b8 rfl) T.len PySem.boot_len (ac (aa 1) af)) (db (n:=4) (by rfl) T.c_MOST_PARTS)) (gP (aX (nE rfl rfl) T.all PyProof.Rows.boot_all (ac (c9 false ["part"] 1 [] rfl (eQ rfl (aa 1)) (λ_ _ _ _=>(bq 0 (show List.Nodup (["part"]:List Str) from by decide +kernel))) (λ_ _ _ _=>c6) (λ_ _ _ _=>(aJ O3 O4 hr.m (ac (aa 0) af)))) af))))))))),aD λv hu ts S Q h=>?_⟩
 obtain ⟨z,rfl,hz,hq⟩:=h
 ac_nf
 ·unfold Wm.Wd at hq
  ext
  refine ifB (λhb=>?_) λhb=>?_
  ·ext
   have hb:=of_decide_eq_true hb
   rw [decide_eq_false (by omega),Bool.false_and] at hq
   exact .mk hq
  ·have hb:=of_decide_eq_false hb
   rw [decide_eq_true (by omega),Bool.true_and,Wm.xN] at hq
   have hsl:=PyProof.Rows.split_le z " "
   ext
   refine ifB (λhb=>?_) λhb=>?_
   ·have hb:=of_decide_eq_true hb
    rw [decide_eq_true (by omega),Bool.true_and] at hq
    ext
    refine eJ (ls:=Txt.split z " ") T2.T.str (λp=>some (.bl (Sc.isP (Tm.tl p)))) [] ?_ ?_ (λx hx u J9 N Lc hN=>?_) ?_
    ·trivial
    ·rw [sizeLine_eq];omega
    ·have hxl:=Tm.yC hx
     ext
     exact ⟨Lc,hN _⟩
    ·ext
     refine mR (bs:=(Txt.split z " ").map λp=>Sc.isP (Tm.tl p)) (by rw [<- Wm.all_map,List.map_map];rw [Wm.mw];rfl) ?_
     rw [List.all_map]
     exact .mk hq
   ·have hb:=of_decide_eq_false hb
    rw [decide_eq_false (by omega),Bool.false_and] at hq
    exact .mk hq
def gj:WSp:=λts S Q=>∃ (m:Int×Int) (Qg:Int),ts=[mkT m,.int Qg]/\m.2<=Qg/\Q (.int (wrt m Qg)) S
theorem CC {S:Sto}{Q:T->Sto->Prop}{m:Int×Int}{Qg:Int}(h0:m.2<=Qg) (h:Q (.int (wrt m Qg)) S):gj ([mkT m,.int Qg]++[]) S Q:=⟨m,Qg,rfl,h0,h⟩
theorem xh:FnScope eG eG (aj kD):=⟨rfl,rfl,rfl,by decide +kernel,rfl,by decide +kernel,by decide +kernel⟩
theorem AA (F:!"worth_at" kD):!1 f fd eG gj:=by
 exists xh
 refine ⟨_,((am (aG (aB G' (aE (aa 0) ae) (aB G9 (aa 1) (aE (aa 0) ae)))))),aD λv hu ts S Q h=>?_⟩
 obtain ⟨m,Qg,rfl,h0,hq⟩:=h
 ac_nf
 unfold mkT
 ext
 exact .mk hq
abbrev Ms:=List (Str×Int×Int)
structure Wo (C:Addr) (S:Sto) (p d:Addr) (n:Int) (ms:Ms):Prop where
 ins:S p=some (.ins C [("marks",.ref d),("now",.int n)])
 dct:S d=some (.dK (kt mkT ms))
theorem Wo.ne {S:Sto}{p d:Addr}{n:Int}{ms:Ms}(h:Wo C S p d n ms):p≠d:=λe=>by
 have:=h.ins
 rw [e,h.dct] at this;cases this
def gL (C:Addr):WSp:=λts S Q=>∃ p,ts=[.ref p]/\S p=some (.ins C [])/\∀ d,S d=none->Q .non (put (put S d (.dK [])) p (.ins C [("marks",.ref d),("now",.int 0)]))
theorem wN:FnScope vv1 vv1 (aj kj):=⟨rfl,rfl,rfl,by decide +kernel,rfl,by decide +kernel,by decide +kernel⟩
theorem CI (F:!"__init__" "Wood.__init__" kj) (T:Txt K mg C L R Y D Z):!1 f fd vv1 (gL C):=by
 exists wN
 refine ⟨_,((ak (bV rfl T.gm (aa 0) sm) (am (bV rfl T.gn (aa 0) ae)))),aD λv hu ts S Q h=>?_⟩
 obtain ⟨p,rfl,hp,hq⟩:=h
 ac_nf
 ext
 intro d hd
 have NQ:p≠d:=λe=>by rw [e,hd] at hp;cases hp
 ext
 refine dW aA rfl (Nat.le_of_ble_eq_true rfl) ?_
 rw [dB]
 exact .mk (hq d hd)
theorem vW:FnScope vv0 vv0 (aj jS):=⟨rfl,rfl,rfl,by decide +kernel,rfl,by decide +kernel,by decide +kernel⟩
def nQ (C:Addr):WSp:=λts S Q=>∃ p d n ms z c,ts=[.ref p,.str z,.int c]/\Wo C S p d n ms/\ms.length<=100/\Wm.Wd z=true/\look ms z=none/\Q .non (put S d (.dK (kt mkT (ms++[(z,c,n)]))))
theorem oY:FnScope vv7 vv7 (aj ig):=⟨rfl,rfl,rfl,by decide +kernel,rfl,by decide +kernel,by decide +kernel⟩
theorem FO (F:!"put" "Wood.put" ig) (T:Txt K mg C L R Y D Z) (Kj:!3 f1 Ki ["thing"] fZ) (Kk:Df K mg "is_word" f1 Ki ["thing"]):!4 f fd vv7 (nQ C):=by
 exists oY
 refine ⟨_,((ak (ax (bx (bj (aJ Kj Kk hr.m (ac (aa 1) af)))) (am bT) ay) (ak (ax (bo (fq w rfl) (aa 1) (aL T.gm (aa 0)) (by with_unfolding_all rfl)) (am bT) ay) (am (fy (bX (ac (aa 2) (ac (aL T.gn (aa 0)) af))) (fL (aL T.gm (aa 0)) (aa 1) (EW (nz hr)))))))),aD λv hu ts S Q h=>?_⟩
 obtain ⟨p,d,n,ms,z,c,rfl,⟨hw,hd⟩,hl,hz,hm,hq⟩:=h
 have hv:br (kt mkT ms) (Sum.inr z)=none:=by rw [cH,hm];rfl
 have hzl:=Wm.iV hz
 ac_nf
 ext
 refine ⟨z,rfl,by omega,?_⟩
 rw [hz]
 ext
 refine cU hd rfl ?_
 rw [hv]
 subst_eqs
 ext
 refine E4 hd rfl (by rw [sE,sizeLine_eq];omega) ?_
 rw [show (T2.T.tup [.int c,.int n])=mkT (c,n) from rfl,FC,FD _ (cF.mp hm)]
 exact .mk hq
theorem xi:FnScope vv8 vv8 (aj kF):=⟨rfl,rfl,rfl,by decide +kernel,rfl,by decide +kernel,by decide +kernel⟩
theorem v5:FnScope vv0 vv0 (aj j5):=⟨rfl,rfl,rfl,by decide +kernel,rfl,by decide +kernel,by decide +kernel⟩
theorem AB {S:Sto}{a:Addr}{o:O}(h:S a=some o):put S a o=S:=by
 funext b
 by_cases e:b=a
 ·subst e;rw [aA,h]
 ·rw [av e]
theorem kO {α:Type}{grd:Sto->Prop}{g:WG}{tt:WT}{te:WE}{Q:List T2.T->Sto->Prop}(f:α->T2.T) (φ:α->Option T2.T) (cs:StT){ls:List α}{S:Sto}(hg:grd S) (hz:ls.length<=sizeLine)
  (step:∀ a∈ls,∀ (u v:Option T2.T) (J9:List T2.T) (N:List T2.T->StT->Sto->Prop),J9.length<sizeLine->(∀ u' v',N (J9++(φ a).toList) (u'::v'::cs) S) ->
   g (f a) (u::v::cs) S λKO S2=>tt KO S2 λb S3=>if b=true then te KO S3 λy S4=>J9.length<sizeLine/\N (J9++[y]) KO S4 else N J9 KO S3)
  (done:Q (ls.filterMap φ) S):cS grd g tt te Q (ls.map f) [] (none::none::cs) S:=by
 refine ik (λitems J9 J7 S'=>∃ pre M9 u v,ls=pre++M9/\items=M9.map f/\J9=pre.filterMap φ/\J7=u::v::cs/\S'=S) ⟨[],ls,none,none,rfl,rfl,rfl,rfl,rfl⟩ ?_ ?_
 ·rintro t ts J9 J7 S' N ⟨pre,M9,u,v,e,e2,rfl,rfl,rfl⟩ hN
  cases M9 with
  |nil=>cases e2
  |cons a r =>
   simp only [List.map_cons,List.cons.injEq] at e2
   obtain ⟨rfl,rfl⟩:=e2
   refine ⟨hg,step a (by rw [e];simp) u v _ N ?_ λu' v'=>hN _ _ _ ⟨pre++[a],r,u',v',by rw [e];simp,rfl,?_,rfl,rfl⟩⟩
   ·have h1:=List.length_filterMap_le φ pre
    have h2:ls.length=pre.length+(r.length+1):=by rw [e];simp
    omega
   ·rw [List.filterMap_append];cases h:φ a<;>simp [h]
 ·rintro J9 J7 S' ⟨pre,M9,u,v,e,e2,rfl,rfl,rfl⟩
  have:M9=[]:=by cases M9 with|nil=>rfl|cons _ _=>cases e2
  subst this
  rw [List.append_nil] at e
  subst e
  exact ⟨hg,done⟩
def fO (ms:Ms) (b:Str):Ms:=ms.filter λa=>PySem.Txt.startswith a.1 b
def rtd (ms:Ms) (n:Int) (b:Str):List Rt:=(fO ms b).map λa=>(a.1,wrt a.2 n)
theorem iX {ms:Ms}{n:Int}{b:Str}(h:(ms.map (·.1)).Nodup):(rtd ms n b).Nodup:=by
 refine Av ?_
 unfold rtd fO
 rw [List.map_map]
 exact (List.Sublist.map _ (List.filter_sublist)).nodup h
theorem iJ (ms:Ms) (n:Int) (b:Str):(rtd ms n b).length<=ms.length:=by
 unfold rtd fO
 rw [List.length_map];exact List.length_filter_le _ _
def mD (C:Addr):WSp:=λts S Q=>∃ p d n ms b,ts=[.ref p,.str b]/\Wo C S p d n ms/\ms.length<=100/\(∀ a∈ms,a.2.2<=n)/\Q (.lst ((rtd ms n b).map rt)) S
theorem wA:FnScope vv9 vv9 (aj ke):=⟨rfl,rfl,rfl,by decide +kernel,rfl,by decide +kernel,by decide +kernel⟩
theorem AC (F:!"begun" "Wood.begun" ke) (T:Txt K mg C L R Y D Z) (LG:!1 f1 Ki eG gj) (LH:Df K mg "worth_at" f1 Ki eG):!2 f fd vv9 (mD C):=by
 exists wA
 refine ⟨_,((am (aG (HR w rfl (c9 false vv23 2 [0,1] rfl (B3 w rfl rfl (aL T.gm (aa 0))) (λ_ _ _ _=>(eZ (λh=>eO (n:=2) rfl rfl h) (cr (bq 0 (show List.Nodup (vv23:List Str) from by decide +kernel)) (cr (bq 1 (show List.Nodup (vv23:List Str) from by decide +kernel)) eP (λh1 h2=>cq h1 h2)) (λh1 h2=>cq h1 h2)))) (λ_ _ _ _=>(mi (bj (c5 PySem.F.plainAttrs_str PySem.F.slot_str_startswith PySem.F.type_str_startswith p9 (aa 0) (ac (aa 3) af))))) (λ_ _ _ _=>(bX (ac (aa 0) (ac (aJ LG LH hr.m (ac (aa 1) (ac (aL T.gn (aa 2)) af))) af))))))))),aD λv hu ts S Q h=>?_⟩
 obtain ⟨p,d,n,ms,b,rfl,W,hl,hn,hq⟩:=h
 have hw:=W.ins
 have hd:=W.dct
 have hpd:=W.ne
 ac_nf
 ext
 intro od kvs
 rw [show (kt mkT ms).map jg=ms.map (λa=>T2.T.tup [.str a.1,mkT a.2]) by unfold kt;rw [List.map_map];rfl]
 refine kO (λa:Str×Int×Int=>T2.T.tup [.str a.1,mkT a.2]) (λa=>if PySem.Txt.startswith a.1 b=true then some (rt (a.1,wrt a.2 n)) else none) [some (.ref p),some (.str b)] aA (by rw [sizeLine_eq];omega) (λa ha u v J9 N Lc hN=>?_) ?_
 ·have hn1:=hn a ha
  ext
  refine ifB (λhb=>?_) λhb=>?_
  ·ext
   rw [if_pos hb] at hN
   exact ⟨Lc,hN _ _⟩
  ·rw [hb] at hN
   have:=hN (some (.str a.1)) (some (mkT a.2))
   rw [if_neg (by decide),Option.toList_none,List.append_nil] at this
   exact this
 rw [show (ms.filterMap λa=>if PySem.Txt.startswith a.1 b=true then some (rt (a.1,wrt a.2 n)) else none)=(rtd ms n b).map rt by
  unfold rtd fO
  clear hd hl hn hq W
  induction ms with
  |nil=>rfl
  |cons a l ih =>
   rw [List.filterMap_cons,List.filter_cons]
   by_cases e:PySem.Txt.startswith a.1 b=true
   ·rw [if_pos e,if_pos e];simp only [List.map_cons,ih]
   ·rw [if_neg e,if_neg e];exact ih]
 ext
 refine JQ aA ?_
 rw [dB,AB hd]
 exact .mk hq
def jh (C:Addr):WSp:=λts S Q=>∃ p d n ms z,ts=[.ref p,.str z]/\Wo C S p d n ms/\Q (.bl (look ms z).isSome) S
theorem xj:FnScope vv0 vv0 (aj kH):=⟨rfl,rfl,rfl,by decide +kernel,rfl,by decide +kernel,by decide +kernel⟩
theorem FP (F:!"has" "Wood.has" kH) (T:Txt K mg C L R Y D Z):!1 f fd vv0 (jh C):=by
 exists xj
 refine ⟨_,((am (aG (d3 (fq w rfl) (aa 1) (aL T.gm (aa 0)) (by with_unfolding_all rfl))))),aD λv hu ts S Q h=>?_⟩
 obtain ⟨p,d,n,ms,z,rfl,⟨hw,hd⟩,hq⟩:=h
 ac_nf
 ext
 refine cU hd rfl ?_
 rw [cH,Option.isSome_map,Bool.false_xor]
 exact .mk hq
noncomputable def kyW (a:Rt):Ky:=.cons (.s a.1) (.cons (.i a.2) .nil)
noncomputable def unW:T2.T->Ky
 |.tup [.str z,.int i]=>.cons (.s z) (.cons (.i i) .nil)
 |_=>.nil
def jA (l:List Rt):Prop:=(l.map (·.1)).Pairwise λx y=>Ky.lt (.s y) (.s x)=false
theorem AD (ms:Ms) (n:Int):rtd ms n ""=ms.map λa=>(a.1,wrt a.2 n):=by
 unfold rtd fO
 rw [List.filter_eq_self.mpr λa _=>?_]
 rw [Tm.wL]
 refine decide_eq_true ?_
 have e:=Tm.eM a.1 0
 have:Tm.tl (PySem.Txt.slice a.1 none (some 0))=Tm.tl (Str.ofString ""):=by
  rw [show (some (0:Int))=some ((0:Nat):Int) from rfl,e];rfl
 cases h:PySem.Txt.slice a.1 none (some (((Str.ofString "").length:Nat):Int)) with
 |mk cps =>
  have h2:PySem.Txt.slice a.1 none (some 0)=⟨cps⟩:=h
  rw [h2] at this
  show (⟨cps⟩:Str)=⟨#[]⟩
  congr 1
  exact Array.toList_inj.mp this
def iz (C:Addr):WSp:=λts S Q=>∃ p d n ms,ts=[.ref p]/\Wo C S p d n ms/\ms.length<=60/\(∀ a∈ms,a.2.2<=n)/\(ms.map (·.1)).Nodup/\(∀ a∈ms,Wm.Wd a.1=true)/\∀ l:List Rt,l.Perm (ms.map λa=>(a.1,wrt a.2 n))->jA l->Q (.lst (l.map rt)) S
theorem wD:FnScope vv1 vv1 (aj kf):=⟨rfl,rfl,rfl,by decide +kernel,rfl,by decide +kernel,by decide +kernel⟩
theorem yX (F:!"words" "Wood.words" kf) (T:Txt K mg C L R Y D Z)
  (KU:!2 f2 Lw vv9 (mD C)) (KW:Meth K C "begun" f2) (KY:ap K Lw vv9 []):!4 f fd vv1 (iz C):=by
 exists wD
 refine ⟨_,((am (aG (aX (ES false rfl hr.m) T.sorted PyProof.Rows.boot_sorted (ac (bP (T.gf KW) KU KY hr.m (aa 0) (ac aw af)) af))))),aD λv hu ts S Q h=>?_⟩
 obtain ⟨p,d,n,ms,rfl,W,hl,hn,hnd,hwd,hq⟩:=h
 have hw:=W.ins
 ac_nf
 ext
 refine ⟨p,d,n,ms,_,rfl,W,by omega,hn,?_⟩
 rw [AD]
 ext
 refine ET (ls:=ms.map λa=>(a.1,wrt a.2 n)) kyW unW (.cons (.s ⟨#[]⟩) (.cons (.i 0) .nil)) rfl (λa _=>rfl) (by rw [List.length_map];omega) rfl (by decide) (λa ha=>⟨?_,rfl⟩) λl' hp hs=>?_
 ·obtain ⟨x,hx,rfl⟩:=List.mem_map.mp ha
  have:=Wm.fz (hwd x hx)
  simp [kyW,S6.Ky.ok,S6.Ky.ok.isRow,this]
 ·refine .mk (hq l' hp ?_)
  have Rb:(l'.map (·.1)).Nodup:=(hp.map _).nodup_iff.mpr (by rw [List.map_map];exact hnd)
  unfold jA
  unfold List.Nodup at Rb
  rw [List.pairwise_map] at Rb ⊢
  refine (hs.and Rb).imp fun {x y} q=>?_
  have q1:Ky.lt (kyW y) (kyW x)=false:=q.1
  unfold kyW Ky.lt at q1
  rw [if_neg (λe=>q.2 (Ky.s.inj e).symm)] at q1
  exact q1
def iY:WSp:=λts S Q=>∃ a:Rt,ts=[rt a]/\Q (tre (ky a)) S
theorem sG {S:Sto}{Q:T->Sto->Prop}{a:Rt}(h:Q (tre (ky a)) S):iY ([rt a]++[]) S Q:=⟨a,rfl,h⟩
theorem xk:FnScope ["pair"] ["pair"] (aj kC):=⟨rfl,rfl,rfl,by decide +kernel,rfl,by decide +kernel,by decide +kernel⟩
theorem CJ (F:!"rank_key" kC):!1 f fd ["pair"] iY:=by
 exists xk
 refine ⟨_,((am (aG (bX (ac (dG (aE (aa 0) ae)) (ac (aE (aa 0) ae) af)))))),aD λv hu ts S Q h=>?_⟩
 obtain ⟨a,rfl,hq⟩:=h
 rw [mY] at hq
 ac_nf
 unfold rt
 ext
 exact .mk hq
def mZ:WSp:=λts S Q=>∃ (x:T2.T) (l:List Rt) (m:Int),ts=[x,.int m]/\aS S x=some (l.map rt)/\l.length<64/\l.Nodup/\0<=m/\Q (.lst (((bst l).take m.toNat).map rt)) S
theorem xT:FnScope h7 h7 (aj kP):=⟨rfl,rfl,rfl,by decide +kernel,rfl,by decide +kernel,by decide +kernel⟩
theorem CK (F:!"best_of" kP) (T:Txt K mg C L R Y D Z) (LI:!1 f1 Ki ["pair"] iY) (LJ:Df K mg "rank_key" f1 Ki ["pair"]):!4 f fd h7 mZ:=by
 exists xT
 refine ⟨_,((am (aG (mf false rfl (qQ false rfl LI LJ hr.m (by rfl) T.sorted (by rfl) (ac (aa 0) af)) md (me (aa 1)))))),aD λv hu ts S Q h=>?_⟩
 obtain ⟨x,l,m,rfl,hv,Mi,hn,hm,hq⟩:=h
 ac_nf
 ext
 refine qR kyT (ky ("",0)) hv Mi rfl (by decide) (λa ha=>⟨rfl,rfl,λS' Q' q=>⟨a,rfl,q⟩⟩) λl' p hs=>?_
 rw [yS hn p hs]
 ext
 rw [qN hm]
 exact .mk hq
def mE (C XA:Addr):aU:=λts S R=>∃ p d n ms z,ts=[.ref p,.str z]/\Wo C S p d n ms/\look ms z=none/\z.length<=1000/\PyData.strOk z=true/\R (XA,none) S
theorem CL (F:!"mark_of" "Wood.mark_of" jS) (T:Txt K mg C L R Y D Z):FnOk P w K mg base (CX1 P w) 1 f fd vv0 (az K (mE C Z.A)):=by
 exists vW
 refine ⟨_,((ai (aH (bo (ir w rfl) (aa 1) (aL T.gm (aa 0)) (by with_unfolding_all rfl)) (ai (bN T.x_Absent T.k_Absent rfl (by rfl) T.mg_Absent (ac (bM (b6 (aa 1) (bB bI))) af))) aK))),bp λv hu ts S Q h=>?_⟩
 obtain ⟨p,d,n,ms,z,rfl,⟨hw,hd⟩,hm,hz,Mj,hq⟩:=h
 have hv:br (kt mkT ms) (Sum.inr z)=none:=by rw [cH,hm];rfl
 ac_nf
 ext
 refine cU hd rfl ?_
 rw [hv]
 subst_eqs
 ext
 refine ⟨z,rfl,hz,Mj,?_⟩
 ext
 exact ⟨Nat.le_of_ble_eq_true rfl,.mk hq⟩
def sI (C XN XT:Addr):aU:=λts S R=>∃ p d n ms z c,ts=[.ref p,.str z,.int c]/\Wo C S p d n ms/\z.length<=1000/\PyData.strOk z=true/\(Wm.Wd z=false/\R (XN,none) S\/Wm.Wd z=true/\(∃ m,look ms z=some m)/\R (XT,none) S)
theorem FQ (F:!"put" "Wood.put" ig) (T:Txt K mg C L R Y D Z) (Kj:!3 f1 Ki ["thing"] fZ) (Kk:Df K mg "is_word" f1 Ki ["thing"]):FnOk P w K mg base (CX1 P w) 4 f fd vv7 (az K (sI C Z.N Z.T)):=by
 exists oY
 refine ⟨_,((bd (ai (aH (bx (bj (aJ Kj Kk hr.m (ac (aa 1) af)))) (ai (bN T.x_NoWord T.k_NoWord rfl (by rfl) T.mg_NoWord (ac (bM (b6 (aa 1) (bB bI))) af))) aK)) (aP (ax (bx (bj (aJ Kj Kk hr.m (ac (aa 1) af)))) (am bT) ay) (ai (aH (bo (fq w rfl) (aa 1) (aL T.gm (aa 0)) (by with_unfolding_all rfl)) (ai (bN T.x_Twice T.k_Twice rfl (by rfl) T.mg_Twice (ac (bM (b6 (aa 1) (bB bI))) af))) aK))))),bp λv hu ts S Q h=>?_⟩
 obtain ⟨p,d,n,ms,z,c,rfl,⟨hw,hd⟩,hz,Mj,h⟩:=h
 ac_nf
 rcases h with ⟨hm,hq⟩|⟨hm,⟨m,hl⟩,hq⟩
 ·refine bg (bn ?_)
  ext
  refine ⟨z,rfl,hz,?_⟩
  rw [hm]
  ext
  refine ⟨z,rfl,hz,Mj,?_⟩
  ext
  exact ⟨Nat.le_of_ble_eq_true rfl,.mk hq⟩
 ·have hv:br (kt mkT ms) (Sum.inr z)=some (mkT m):=by rw [cH,hl];rfl
  refine bb (aZ ?_)
  ext
  refine ⟨z,rfl,hz,?_⟩
  rw [hm]
  ext
  refine cU hd rfl ?_
  rw [hv]
  subst_eqs
  ext
  refine ⟨z,rfl,hz,Mj,?_⟩
  ext
  exact ⟨Nat.le_of_ble_eq_true rfl,.mk hq⟩
def sJ (C XA:Addr):aU:=λts S R=>∃ p d n ms z c,ts=[.ref p,.str z,.int c]/\Wo C S p d n ms/\look ms z=none/\z.length<=1000/\PyData.strOk z=true/\R (XA,none) S
theorem FR (F:!"use" "Wood.use" kF) (T:Txt K mg C L R Y D Z) (Ol:Df K mg "used_mark" f1 Ki ["mark","era","times"])
  (K0:FnOk P w K mg base (CX1 P w) 1 f2 Lw vv0 (az K (mE C Z.A))) (K1:Meth K C "mark_of" f2) (K2:ap K Lw vv0 []):FnOk P w K mg base (CX1 P w) 3 f fd vv8 (az K (sJ C Z.A)):=by
 exists xi
 refine ⟨_,((ai (Fq (Ag Ol (by rfl) (lJ (bA (T.gf K1) K0 K2 hr.m (aa 0) (ac (aa 1) af))))))),bp λv hu ts S Q h=>?_⟩
 obtain ⟨p,d,n,ms,z,c,rfl,W,hm,hz,Mj,hq⟩:=h
 have hw:=W.ins
 ac_nf
 ext
 exact ⟨p,d,n,ms,z,rfl,W,hm,hz,Mj,.mk hq⟩
def pV (C XA:Addr):aU:=λts S R=>∃ p d n ms z,ts=[.ref p,.str z]/\Wo C S p d n ms/\look ms z=none/\z.length<=1000/\PyData.strOk z=true/\R (XA,none) S
theorem yY (F:!"strike" "Wood.strike" j5) (T:Txt K mg C L R Y D Z)
  (K0:FnOk P w K mg base (CX1 P w) 1 f2 Lw vv0 (az K (mE C Z.A))) (K1:Meth K C "mark_of" f2) (K2:ap K Lw vv0 []):FnOk P w K mg base (CX1 P w) 3 f fd vv0 (az K (pV C Z.A)):=by
 exists v5
 refine ⟨_,((ai (aY (bA (T.gf K1) K0 K2 hr.m (aa 0) (ac (aa 1) af))))),bp λv hu ts S Q h=>?_⟩
 obtain ⟨p,d,n,ms,z,rfl,W,hm,hz,Mj,hq⟩:=h
 have hw:=W.ins
 ac_nf
 ext
 exact ⟨p,d,n,ms,z,rfl,W,hm,hz,Mj,.mk hq⟩
abbrev Rw:=Str×Int×Bool
noncomputable def rw3 (a:Rw):T2.T:=.tup [.str a.1,.int a.2.1,.bl a.2.2]
def wo (b:Bool) (l:List Rt):List Rw:=l.map λa=>(a.1,a.2,b)
theorem gA (l:List Rt):(bst l).length=l.length:=(eN l).length_eq
theorem FS {S:Sto}{Q:T->Sto->Prop}{l:List Rt}{m:Int}(h1:l.length<64) (h2:l.Nodup) (h3:0<=m) (h:Q (.lst (((bst l).take m.toNat).map rt)) S):mZ ([.lst (l.map rt),.int m]++[]) S Q:=⟨_,l,m,rfl,rfl,h1,h2,h3,h⟩
def m3:WSp:=λts S Q=>∃ (l:List Rt) (b:Bool),ts=[.lst (l.map rt),.bl b]/\l.length<64/\l.Nodup/\Q (.lst ((wo b (bst l)).map rw3)) S
theorem xn:FnScope ["rated","own"] ["rated","own"] (aj kI):=⟨rfl,rfl,rfl,by decide +kernel,rfl,by decide +kernel,by decide +kernel⟩
theorem CM (F:!"with_own" kI) (T:Txt K mg C L R Y D Z)
  (O5:!4 f2 Lw h7 mZ) (O6:Df K mg "best_of" f2 Lw h7):!5 f fd ["rated","own"] m3:=by
 exists xn
 refine ⟨_,((am (aG (c9 false ["word","worth","own"] 2 [1] rfl (eQ rfl (aJ O5 O6 hr.m (ac (aa 0) (ac (aX (b8 rfl) T.len PySem.boot_len (ac (aa 0) af)) af)))) (λ_ _ _ _=>(eZ (λh=>eO (n:=2) rfl rfl h) (cr (bq 0 (show List.Nodup (["word","worth","own"]:List Str) from by decide +kernel)) (cr (bq 1 (show List.Nodup (["word","worth","own"]:List Str) from by decide +kernel)) eP (λh1 h2=>cq h1 h2)) (λh1 h2=>cq h1 h2)))) (λ_ _ _ _=>c6) (λ_ _ _ _=>(bX (ac (aa 0) (ac (aa 1) (ac (aa 2) af))))))))),aD λv hu ts S Q h=>?_⟩
 obtain ⟨l,b,rfl,Mi,hn,hq⟩:=h
 have hbl:=gA l
 ac_nf
 ext
 refine FS Mi hn (by omega) ?_
 rw [show ((l.length:Int)).toNat=(bst l).length by rw [hbl];omega,List.take_length]
 ext
 refine kO (ls:=bst l) rt (λa=>some (rw3 (a.1,a.2,b))) [some (.bl b)] trivial (by rw [sizeLine_eq];omega) (λa ha u v J9 N Lc hN=>?_) ?_
 ·unfold rt
  ext
  exact ⟨Lc,hN _ _⟩
 ·rw [show (bst l).filterMap (λa=>some (rw3 (a.1,a.2,b)))=(wo b (bst l)).map rw3 by unfold wo;rw [List.map_map,<- List.filterMap_eq_map];rfl]
  ext
  exact .mk hq
structure Ly (C L:Addr) (S:Sto) (y h e p d v:Addr) (k n:Int) (hs ms:Ms) (vs:List (Str×Bool)):Prop where
 ins:S y=some (.ins L [("house",.ref h),("own",.ref p),("veiled",.ref v)])
 wh:Wo C S h e k hs
 wp:Wo C S p d n ms
 ve:S v=some (.dK (kt T2.T.bl vs))
structure Mo (n:Int) (ms:Ms):Prop where
 len:ms.length<=60
 old:∀ a∈ms,a.2.2<=n
 nd:(ms.map (·.1)).Nodup
 wd:∀ a∈ms,Wm.Wd a.1=true
theorem gW {S:Sto}{a b:Addr}{o:O}(h1:S a=none) (h2:S b=some o):a≠b:=λe=>by rw [e,h2] at h1;cases h1
theorem Iw {S:Sto}{x y:Addr}{o1 o2 o3:O}(hx:S x=none) (hy:put S x o1 y=none) :
  put (put (put S x o1) y o2) x o3 x=some o3/\put (put (put S x o1) y o2) x o3 y=some o2/\(∀ a o,S a=some o->put (put (put S x o1) y o2) x o3 a=some o)/\S y=none:=by
 obtain ⟨h1,h2⟩:=bS hy
 refine ⟨aA,(av h1).trans aA,λa o e=>?_,h2⟩
 have e1:=gW hx e
 have e2:=gW h2 e
 rw [av (Ne.symm e1),av (Ne.symm e2),av (Ne.symm e1)];exact e
def mF (C L:Addr):WSp:=λts S Q=>∃ y h,ts=[.ref y,.ref h]/\S y=some (.ins L [])/\∀ S' p d v,S' y=some (.ins L [("house",.ref h),("own",.ref p),("veiled",.ref v)])->Wo C S' p d 0 []->S' v=some (.dK [])->d≠v->S p=none->S d=none->S v=none ->
 (∀ a o,S a=some o->a≠y->S' a=some o)->Q .non S'
theorem v6:FnScope eF eF (aj j6):=⟨rfl,rfl,rfl,by decide +kernel,rfl,by decide +kernel,by decide +kernel⟩
theorem AE (F:!"__init__" "Layers.__init__" j6) (T:Txt K mg C L R Y D Z)
  (Ke:!1 f1 Ki vv1 (gL C)) (LK:Mk K C f1) (Kf:ap K Ki vv1 []):!3 f fd eF (mF C L):=by
 exists v6
 refine ⟨_,((ak (bV rfl T.gh (aa 0) (aa 1)) (ak (bV rfl T.go (aa 0) (gz LK Ke Kf hr.m (by rfl) T.mg_Wood)) (am (bV rfl T.gv (aa 0) sm))))),aD λv hu ts S Q hh=>?_⟩
 obtain ⟨y,h,rfl,hy,hq⟩:=hh
 ac_nf
 ext
 rw [show bR (Str.ofString "house") (T2.T.ref h) []=[(Str.ofString "house",T2.T.ref h)] from rfl]
 intro p hp
 refine ⟨p,rfl,aA,λd hd=>⟨rfl,?_⟩⟩
 obtain ⟨x1,x2,kp,hd1⟩:=Iw (o2:=.dK []) (o3:=.ins C [("marks",.ref d),("now",.int 0)]) hp hd
 have hpy:=(bS hp).1
 have hp0:=(bS hp).2
 have hdy:=(bS hd1).1
 have Qh:=(bS hd1).2
 have k1:=kp y _ aA
 have k2:∀ a o,S a=some o->a≠y->put (put (put (put S y (.ins L [("house",.ref h)])) p (.ins C [])) d (.dK [])) p (.ins C [("marks",.ref d),("now",.int 0)]) a=some o:=λa o ha hay=>kp a o ((av hay).trans ha)
 generalize put (put (put (put S y (.ins L [("house",.ref h)])) p (.ins C [])) d (.dK [])) p (.ins C [("marks",.ref d),("now",.int 0)])=S1 at x1 x2 k1 k2 ⊢
 clear kp
 ext
 intro v hv
 have hvy:=(bS hv).1
 have hv0:=(bS hv).2
 have hvd:d≠v:=λe=>by rw [e,hv0] at x2;cases x2
 have hvp:p≠v:=λe=>by rw [e,hv0] at x1;cases x1
 ext
 refine dW (fs:=[(Str.ofString "house",T2.T.ref h),(Str.ofString "own",T2.T.ref p)]) ((av (Ne.symm hvy)).trans aA) rfl (by simp) ?_
 refine .mk (hq _ p d v aA ⟨?_,?_⟩ ?_ hvd hp0 Qh ?_ λa o ha hay=>?_)
 ·rw [av hpy,av hvp,av hpy];exact x1
 ·rw [av hdy,av hvd,av hdy];exact x2
 ·rw [av hvy];exact aA
 ·cases hsv:S v with
  |none=>rfl
  |some o=>rw [k2 v o hsv hvy] at hv0;cases hv0
 ·have h1:=k2 a o ha hay
  rw [av hay,av (λe=>by rw [e,hv0] at h1;cases h1),av hay];exact h1
theorem vP:FnScope vv0 vv0 (aj jL):=⟨rfl,rfl,rfl,by decide +kernel,rfl,by decide +kernel,by decide +kernel⟩
theorem v7:FnScope vv0 vv0 (aj j7):=⟨rfl,rfl,rfl,by decide +kernel,rfl,by decide +kernel,by decide +kernel⟩
theorem v9:FnScope vv0 vv0 (aj j8):=⟨rfl,rfl,rfl,by decide +kernel,rfl,by decide +kernel,by decide +kernel⟩
def m5 (C L:Addr):WSp:=λts S Q=>∃ y h e p d v k n hs ms vs z,ts=[.ref y,.str z]/\Ly C L S y h e p d v k n hs ms vs/\Q (.bl ((look vs z).isNone&&(look ms z).isNone)) S
theorem vI:FnScope vv0 vv0 (aj jE):=⟨rfl,rfl,rfl,by decide +kernel,rfl,by decide +kernel,by decide +kernel⟩
theorem CN (F:!"is_seen_of_house" "Layers.is_seen_of_house" jE) (T:Txt K mg C L R Y D Z)
  (KD:!1 f1 Ki vv0 (jh C)) (KG:Meth K C "has" f1) (KH:ap K Ki vv0 []):!2 f fd vv0 (m5 C L):=by
 exists vI
 refine ⟨_,((am (aG (iN (d3 (ir w rfl) (aa 1) (aL T.gv (aa 0)) (by with_unfolding_all rfl)) (gP (mP (bP (T.gf KG) KD KH hr.m (aL T.go (aa 0)) (ac (aa 1) af)))))))),aD λv hu ts S Q hh=>?_⟩
 obtain ⟨y,h,e,p,d,v,k,n,hs,ms,vs,z,rfl,hL,hq⟩:=hh
 have hy:=hL.ins
 have hp:=hL.wp.ins
 have hd:=hL.ve
 ac_nf
 ext
 refine cU hd rfl ?_
 rw [cH,Option.isSome_map]
 ext
 refine ifB (λhb=>?_) λhb=>?_
 ·have e1:(look vs z).isNone=true:=by cases q:look vs z with|none=>rfl|some x=>rw [q] at hb;cases hb
  rw [e1,Bool.true_and] at hq
  ext
  refine ⟨p,d,n,ms,z,rfl,hL.wp,?_⟩
  ext
  rw [show (!(look ms z).isSome)=(look ms z).isNone by cases look ms z<;>rfl]
  exact .mk hq
 ·have e1:(look vs z).isNone=false:=by cases q:look vs z with|none=>rw [q] at hb;cases hb|some x=>rfl
  rw [e1,Bool.false_and] at hq
  exact .mk hq
def jB (ms:Ms) (vs:List (Str×Bool)) (n:Int) (b:Str):List Rt:=(rtd ms n b).filter λa=>(look vs a.1).isNone
def jC (hs ms:Ms) (vs:List (Str×Bool)) (k:Int) (b:Str):List Rt:=(rtd hs k b).filter λa=>(look vs a.1).isNone&&(look ms a.1).isNone
def bD (hs ms:Ms) (vs:List (Str×Bool)) (k n:Int) (b:Str):List Rw:=wo true (bst (jB ms vs n b))++wo false (bst (jC hs ms vs k b))
theorem nR {α β:Type}(p:α->Bool) (f:α->β):∀ l:List α,(l.filterMap λa=>if p a=true then some (f a) else none)=(l.filter p).map f
 |[]=>rfl
 |a::l=>by
  have ih:=nR p f l
  rw [List.filterMap_cons,List.filter_cons]
  by_cases e:p a=true
  ·rw [if_pos e,if_pos e];simp only [List.map_cons,ih]
  ·rw [if_neg e,if_neg e];exact ih
theorem sK {S:Sto}{Q:T->Sto->Prop}{l:List Rt}{b:Bool}(h1:l.length<64) (h2:l.Nodup) (h:Q (.lst ((wo b (bst l)).map rw3)) S):m3 ([.lst (l.map rt),.bl b]++[]) S Q:=⟨l,b,rfl,h1,h2,h⟩
theorem FT {S:Sto}{Q:T->Sto->Prop}{y h e p d v:Addr}{k n:Int}{hs ms:Ms}{vs:List (Str×Bool)}{z:Str}(h1:Ly C L S y h e p d v k n hs ms vs) (h:Q (.bl ((look vs z).isNone&&(look ms z).isNone)) S):m5 C L (.ref y::([.str z]++[])) S Q:=⟨_,_,_,_,_,_,_,_,_,_,_,_,rfl,h1,h⟩
def nU (C L:Addr):WSp:=λts S Q=>∃ y h e p d v k n hs ms vs b,ts=[.ref y,.str b]/\Ly C L S y h e p d v k n hs ms vs/\Mo k hs/\Mo n ms/\Q (.lst ((bD hs ms vs k n b).map rw3)) S
theorem vL:FnScope ["self","beginning","own","house"] vv9 (aj jH):=⟨rfl,rfl,rfl,by decide +kernel,rfl,by decide +kernel,by decide +kernel⟩
theorem FU (F:!"all_told" "Layers.all_told" jH) (T:Txt K mg C L R Y D Z)
  (KU:!2 f1 Ki vv9 (mD C)) (KW:Meth K C "begun" f1) (KY:ap K Ki vv9 [])
  (K7:!2 f2 Lw vv0 (m5 C L)) (K8:Meth K L "is_seen_of_house" f2) (K9:ap K Lw vv0 [])
  (MK:!5 f3 OC ["rated","own"] m3) (ML:Df K mg "with_own" f3 OC ["rated","own"]):!6 f fd vv9 (nU C L):=by
 exists vL
 refine ⟨_,((ak (k6 false (i:=2) ["pair","self"] 1 [0] rfl nd rfl (Or.inl rfl) (eQ rfl (bP (T.gf KW) KU KY hr.m (aL T.go (aa 0)) (ac (aa 1) af))) (λ_ _ _ _=>(bq 0 (show List.Nodup (["pair","self"]:List Str) from by decide +kernel))) (λ_ _ _ _=>(mi (bo (ir w rfl) (aE (aa 0) ae) (aL T.gv (aa 1)) (by with_unfolding_all rfl)))) (λ_ _ _ _=>(aa 0))) (ak (k6 false (i:=3) ["pair","self"] 1 [0] rfl nd rfl (Or.inl rfl) (eQ rfl (bP (T.gf KW) KU KY hr.m (aL T.gh (aa 0)) (ac (aa 1) af))) (λ_ _ _ _=>(bq 0 (show List.Nodup (["pair","self"]:List Str) from by decide +kernel))) (λ_ _ _ _=>(mi (bj (bP (T.gl K8) K7 K9 hr.m (aa 1) (ac (aE (aa 0) ae) af))))) (λ_ _ _ _=>(aa 0))) (am (aG (aB (bf false) (aJ MK ML hr.m (ac (aa 2) (ac fH af))) (aJ MK ML hr.m (ac (aa 3) (ac fH af))))))))),aD λv hu ts S Q hh=>?_⟩
 obtain ⟨y,h,e,p,d,v,k,n,hs,ms,vs,b,rfl,hL,hH,hM,hq⟩:=hh
 have hy:=hL.ins
 have hp:=hL.wp.ins
 have hhh:=hL.wh.ins
 have hd:=hL.ve
 have l1:=iJ ms n b
 have l2:=iJ hs k b
 have l3:=hM.len
 have l4:=hH.len
 ac_nf
 ext
 refine ⟨p,d,n,ms,b,rfl,hL.wp,by omega,hM.old,?_⟩
 ext
 refine eJ (ls:=rtd ms n b) rt (λa=>if (look vs a.1).isNone=true then some (rt a) else none) [some (.ref y)] trivial (by rw [sizeLine_eq];omega) (λa ha u J9 N Lc hN=>?_) ?_
 ·have h0:=hN (some (rt a))
  ext
  refine cU hd rfl ?_
  rw [cH,Option.isSome_map]
  refine ⟨_,rfl,?_⟩
  refine ifB (λhb=>?_) λhb=>?_
  ·have e1:(look vs a.1).isNone=true:=by cases q:look vs a.1 with|none=>rfl|some x=>rw [q] at hb;cases hb
   rw [if_pos e1] at h0
   ext
   exact ⟨Lc,h0⟩
  ·have e1:¬ (look vs a.1).isNone=true:=by cases q:look vs a.1 with|none=>rw [q] at hb;cases hb|some x=>simp
   rw [if_neg e1,Option.toList_none,List.append_nil] at h0
   exact h0
 rw [nR]
 ext
 refine ⟨h,e,k,hs,b,rfl,hL.wh,by omega,hH.old,?_⟩
 ext
 refine eJ (ls:=rtd hs k b) rt (λa=>if ((look vs a.1).isNone&&(look ms a.1).isNone)=true then some (rt a) else none) [some (.ref y)] trivial (by rw [sizeLine_eq];omega) (λa ha u J9 N Lc hN=>?_) ?_
 ·have h0:=hN (some (rt a))
  ext
  refine FT hL ?_
  refine ⟨_,rfl,?_⟩
  refine ifB (λhb=>?_) λhb=>?_
  ·rw [if_pos hb] at h0
   ext
   exact ⟨Lc,h0⟩
  ·rw [if_neg (by rw [hb];decide),Option.toList_none,List.append_nil] at h0
   exact h0
 rw [nR]
 have l5:=List.length_filter_le (λa:Rt=>(look vs a.1).isNone) (rtd ms n b)
 have l6:=List.length_filter_le (λa:Rt=>(look vs a.1).isNone&&(look ms a.1).isNone) (rtd hs k b)
 ext
 refine sK (by omega) (List.filter_sublist.nodup (iX hM.nd)) ?_
 ext
 refine sK (by omega) (List.filter_sublist.nodup (iX hH.nd)) ?_
 ext
 refine iP rfl rfl ?_ ?_
 ·unfold wo
  rw [List.length_map,List.length_map,List.length_map,List.length_map,gA,gA,sizeLine_eq];omega
 rw [<- List.map_append]
 ext
 exact .mk hq
theorem wE:FnScope vv8 vv8 (aj kg):=⟨rfl,rfl,rfl,by decide +kernel,rfl,by decide +kernel,by decide +kernel⟩
def pf (C L:Addr) (Z:Zs):aU:=λts S R=>∃ y h e p d v k n hs ms vs z,ts=[.ref y,.str z]/\Ly C L S y h e p d v k n hs ms vs/\z.length<=1000/\PyData.strOk z=true/\look ms z=none/\R (Z.A,none) S
theorem xU (F:!"strike" "Layers.strike" jL) (T:Txt K mg C L R Y D Z)
  (Nf:FnOk P w K mg base (CX1 P w) 3 f1 Ki vv0 (az K (pV C Z.A))) (Ng:Meth K C "strike" f1) (Nh:ap K Ki vv0 []):FnOk P w K mg base (CX1 P w) 4 f fd vv0 (az K (pf C L Z)):=by
 exists vP
 refine ⟨_,((ai (aY (bA (T.gf Ng) Nf Nh hr.m (aL T.go (aa 0)) (ac (aa 1) af))))),bp λv hu ts S Q hh=>?_⟩
 obtain ⟨y,h,e,p,d,v,k,n,hs,ms,vs,z,rfl,hL,hz,Mj,hm,hq⟩:=hh
 have hy:=hL.ins
 have hp:=hL.wp.ins
 have hh:=hL.wh.ins
 have hd:=hL.ve
 ac_nf
 ext
 exact ⟨p,d,n,ms,z,rfl,hL.wp,hm,hz,Mj,.mk hq⟩
def rg (C L:Addr) (Z:Zs):aU:=λts S R=>∃ y h e p d v k n hs ms vs z,ts=[.ref y,.str z]/\Ly C L S y h e p d v k n hs ms vs/\z.length<=1000/\PyData.strOk z=true/\(Wm.Wd z=false/\R (Z.N,none) S\/Wm.Wd z=true/\(∃ m,look vs z=some m)/\R (Z.T,none) S)
theorem CO (F:!"hide" "Layers.hide" j7) (T:Txt K mg C L R Y D Z)
  (Kj:!3 f1 Ki ["thing"] fZ) (Kk:Df K mg "is_word" f1 Ki ["thing"]):FnOk P w K mg base (CX1 P w) 4 f fd vv0 (az K (rg C L Z)):=by
 exists v7
 refine ⟨_,((bd (ai (aH (bx (bj (aJ Kj Kk hr.m (ac (aa 1) af)))) (ai (bN T.x_NoWord T.k_NoWord rfl (by rfl) T.mg_NoWord (ac (bM (b6 (aa 1) (bB bI))) af))) aK)) (aP (ax (bx (bj (aJ Kj Kk hr.m (ac (aa 1) af)))) (am bT) ay) (ai (aH (bo (fq w rfl) (aa 1) (aL T.gv (aa 0)) (by with_unfolding_all rfl)) (ai (bN T.x_Twice T.k_Twice rfl (by rfl) T.mg_Twice (ac (bM (b6 (aa 1) (bB bI))) af))) aK))))),bp λv hu ts S Q hh=>?_⟩
 obtain ⟨y,h,e,p,d,v,k,n,hs,ms,vs,z,rfl,hL,hz,Mj,hq⟩:=hh
 have hy:=hL.ins
 have hp:=hL.wp.ins
 have hh:=hL.wh.ins
 have hd:=hL.ve
 ac_nf
 rcases hq with ⟨hm,hq⟩|⟨hm,⟨m,hl⟩,hq⟩
 ·refine bg (bn ?_)
  ext
  refine ⟨z,rfl,hz,?_⟩
  rw [hm]
  ext
  refine ⟨z,rfl,hz,Mj,?_⟩
  ext
  exact ⟨Nat.le_of_ble_eq_true rfl,.mk hq⟩
 ·have hv:br (kt T2.T.bl vs) (Sum.inr z)=some (.bl m):=by rw [cH,hl];rfl
  refine bb (aZ ?_)
  ext
  refine ⟨z,rfl,hz,?_⟩
  rw [hm]
  ext
  refine cU hd rfl ?_
  rw [hv]
  subst_eqs
  ext
  refine ⟨z,rfl,hz,Mj,?_⟩
  ext
  exact ⟨Nat.le_of_ble_eq_true rfl,.mk hq⟩
def rh (C L:Addr) (Z:Zs):aU:=λts S R=>∃ y h e p d v k n hs ms vs z,ts=[.ref y,.str z]/\Ly C L S y h e p d v k n hs ms vs/\z.length<=1000/\PyData.strOk z=true/\look vs z=none/\R (Z.A,none) S
theorem CP (F:!"show" "Layers.show" j8) (T:Txt K mg C L R Y D Z):FnOk P w K mg base (CX1 P w) 1 f fd vv0 (az K (rh C L Z)):=by
 exists v9
 refine ⟨_,((ai (aH (bo (ir w rfl) (aa 1) (aL T.gv (aa 0)) (by with_unfolding_all rfl)) (ai (bN T.x_Absent T.k_Absent rfl (by rfl) T.mg_Absent (ac (bM (b6 (aa 1) (bB bI))) af))) aK))),bp λv hu ts S Q hh=>?_⟩
 obtain ⟨y,h,e,p,d,v,k,n,hs,ms,vs,z,rfl,hL,hz,Mj,hm,hq⟩:=hh
 have hy:=hL.ins
 have hp:=hL.wp.ins
 have hh:=hL.wh.ins
 have hd:=hL.ve
 have hv:br (kt T2.T.bl vs) (Sum.inr z)=none:=by rw [cH,hm];rfl
 ac_nf
 ext
 refine cU hd rfl ?_
 rw [hv]
 subst_eqs
 ext
 refine ⟨z,rfl,hz,Mj,?_⟩
 ext
 exact ⟨Nat.le_of_ble_eq_true rfl,.mk hq⟩
def rj (C L:Addr) (Z:Zs):aU:=λts S R=>∃ y h e p d v k n hs ms vs z c,ts=[.ref y,.str z,.int c]/\Ly C L S y h e p d v k n hs ms vs/\z.length<=1000/\PyData.strOk z=true/\((∃ x,look vs z=some x)\/look vs z=none/\look ms z=none/\look hs z=none)/\R (Z.A,none) S
theorem CQ (F:!"use" "Layers.use" kg) (T:Txt K mg C L R Y D Z)
  (KD:!1 f1 Ki vv0 (jh C)) (KG:Meth K C "has" f1) (KH:ap K Ki vv0 [])
  (MM:FnOk P w K mg base (CX1 P w) 3 f2 Lw vv8 (az K (sJ C Z.A))) (MN:Meth K C "use" f2) (MO:ap K Lw vv8 []):FnOk P w K mg base (CX1 P w) 4 f fd vv8 (az K (rj C L Z)):=by
 exists wE
 refine ⟨_,((bd (ai (aH (bo (fq w rfl) (aa 1) (aL T.gv (aa 0)) (by with_unfolding_all rfl)) (ai (bN T.x_Absent T.k_Absent rfl (by rfl) T.mg_Absent (ac (bM (b6 (aa 1) (bB bI))) af))) aK)) (aP (ax (bo (fq w rfl) (aa 1) (aL T.gv (aa 0)) (by with_unfolding_all rfl)) (am bT) ay) (ai (aH (bj (bP (T.gf KG) KD KH hr.m (aL T.go (aa 0)) (ac (aa 1) af))) (ai (aY (bA (T.gf MN) MM MO hr.m (aL T.go (aa 0)) (ac (aa 1) (ac (aa 2) af))))) (ai (aY (bA (T.gf MN) MM MO hr.m (aL T.gh (aa 0)) (ac (aa 1) (ac (aa 2) af)))))))))),bp λv hu ts S Q hh=>?_⟩
 obtain ⟨y,h,e,p,d,v,k,n,hs,ms,vs,z,c,rfl,hL,hz,Mj,hm,hq⟩:=hh
 have hy:=hL.ins
 have hp:=hL.wp.ins
 have hh:=hL.wh.ins
 have hd:=hL.ve
 ac_nf
 rcases hm with ⟨x,hm⟩|⟨hm,h0,h1⟩
 ·have hv:br (kt T2.T.bl vs) (Sum.inr z)=some (.bl x):=by rw [cH,hm];rfl
  refine bg (bn ?_)
  ext
  refine cU hd rfl ?_
  rw [hv]
  subst_eqs
  ext
  refine ⟨z,rfl,hz,Mj,?_⟩
  ext
  exact ⟨Nat.le_of_ble_eq_true rfl,.mk hq⟩
 ·have hv:br (kt T2.T.bl vs) (Sum.inr z)=none:=by rw [cH,hm];rfl
  refine bb (aZ ?_)
  ext
  refine cU hd rfl ?_
  rw [hv]
  subst_eqs
  ext
  refine ⟨p,d,n,ms,z,rfl,hL.wp,?_⟩
  rw [h0]
  simp only [Option.isSome_some,Option.isSome_none]
  ext
  exact ⟨h,e,k,hs,z,c,rfl,hL.wh,h1,hz,Mj,.mk hq⟩
abbrev Pm:=List (List Key×(Int×Int))
def toT (ms:Pm):List (List Key×T2.T):=ms.map λp=>(p.1,mkT p.2)
noncomputable abbrev pk (b z:Str):List Key:=[.inr b,.inr z]
noncomputable def lkP (ms:Pm) (k:List Key):Option (Int×Int):=(ms.find? λp=>decide (p.1=k)).map (·.2)
def lkD (ms:Pm) (k:List Key) (n:Int):Int×Int:=(lkP ms k).getD (0,n)
noncomputable def JV (ms:Pm) (k:List Key) (m:Int×Int):Pm:=if (ms.any λp=>decide (p.1=k))=true then ms.map (λp=>if p.1=k then (p.1,m) else p) else ms++[(k,m)]
theorem FV {ms:Pm}{k:List Key}:br (toT ms) k=(lkP ms k).map mkT:=by
 unfold br toT lkP
 rw [List.find?_map]
 simp only [Function.comp_def,Option.map_map]
theorem FW {ms:Pm}{k:List Key}{n:Int}:(br (toT ms) k).getD (.tup [.int 0,.int n])=mkT (lkD ms k n):=by
 rw [FV];unfold lkD
 cases lkP ms k<;>rfl
theorem nz {k:Nat}{A:Around}(hr:Room k A):A.units+1<cLine:=by have:=hr.units;omega
structure Wf (k:Nat) (n:Int) (ms:Pm):Prop where
 len:ms.length<=k
 old:∀ x∈ms,x.2.2<=n
theorem FX {ms:Pm}{k:List Key}{m:Int×Int}(h:lkP ms k=some m):∃ x∈ms,x.2=m:=by
 unfold lkP at h
 obtain ⟨x,hx,rfl⟩:=Option.map_eq_some_iff.mp h
 exact ⟨x,List.mem_of_find?_eq_some hx,rfl⟩
theorem Wf.lk {c:Nat}{n:Int}{ms:Pm}(h:Wf c n ms) (k:List Key):(lkD ms k n).2<=n:=by
 unfold lkD
 cases q:lkP ms k with
 |none=>exact Int.le_refl _
 |some m =>
  obtain ⟨x,hx,rfl⟩:=FX q
  exact h.old x hx
def chosen (ms:Pm) (n:Int) (b z:Str):Pm:=JV ms (pk b z) (wrt (lkD ms (pk b z) n) n+1,n)
noncomputable def prO (R d:Addr) (n:Int):O:=.ins R [("marks",.ref d),("now",.int n)]
def rl (R:Addr):WSp:=λts S Q=>∃ p,ts=[.ref p]/\S p=some (.ins R [])/\∀ d,S d=none->Q .non (put (put S d (.dT [])) p (prO R d 0))
theorem wF:FnScope vv1 vv1 (aj kb):=⟨rfl,rfl,rfl,by decide +kernel,rfl,by decide +kernel,by decide +kernel⟩
theorem AF (F:!"__init__" "Pairs.__init__" kb) (T:Txt K mg C L R Y D Z):!1 f fd vv1 (rl R):=by
 exists wF
 refine ⟨_,((ak (bV rfl T.gpm (aa 0) Co) (am (bV rfl T.gpn (aa 0) ae)))),aD λv hu ts S Q h=>?_⟩
 obtain ⟨p,rfl,hp,hq⟩:=h
 ac_nf
 ext
 intro d hd
 have NQ:p≠d:=λe=>by rw [e,hd] at hp;cases hp
 ext
 refine dW aA rfl (Nat.le_of_ble_eq_true rfl) ?_
 rw [dB]
 exact .mk (hq d hd)
def pw (ms:Pm) (n:Int) (b z:Str):Int:=wrt (lkD ms (pk b z) n) n
def om (R:Addr):WSp:=λts S Q=>∃ p d n ms b z c,ts=[.ref p,.str b,.str z]/\S p=some (prO R d n)/\S d=some (.dT (toT ms))/\Wf c n ms/\Q (.int (pw ms n b z)) S
theorem JW {S:Sto}{Q:T->Sto->Prop}{p d:Addr}{n:Int}{c:Nat}{b z:Str}{ms:Pm}(h1:S p=some (prO R d n)) (h1':S d=some (.dT (toT ms))) (h2:Wf c n ms) (h:Q (.int (pw ms n b z)) S):om R (.ref p::([.str b,.str z]++[])) S Q:=⟨p,d,n,ms,b,z,c,rfl,h1,h1',h2,h⟩
theorem vM:FnScope hZ hZ (aj jI):=⟨rfl,rfl,rfl,by decide +kernel,rfl,by decide +kernel,by decide +kernel⟩
theorem Ix (F:!"worth_of" "Pairs.worth_of" jI) (T:Txt K mg C L R Y D Z) (LG:!1 f1 Ki eG gj) (LH:Df K mg "worth_at" f1 Ki eG) :
  !2 f fd hZ (om R):=by
 exists vM
 refine ⟨_,((am (aG (aJ LG LH hr.m (ac (c5 PySem.F.plainAttrs_dict PySem.F.slot_dict_get PySem.F.type_dict_get (Ft (nz hr)) (aL T.gpm (aa 0)) (ac (bX (ac (aa 1) (ac (aa 2) af))) (ac (bX (ac ae (ac (aL T.gpn (aa 0)) af))) af))) (ac (aL T.gpn (aa 0)) af)))))),aD λv hu ts S Q h=>?_⟩
 obtain ⟨p,d,n,ms,b,z,c,rfl,hp,hd,hw,hq⟩:=h
 unfold prO at hp
 have l3:=hw.lk (pk b z)
 ac_nf
 ext
 refine Fu (ks:=pk b z) hd rfl ?_
 rw [FW]
 ext
 exact .mk hq
noncomputable def sgn (z:Str):Bool:=decide ((z.length:Int)=1)&&!(Builtin.Str.occurrences (Str.ofString "abcdefghijklmnopqrstuvwxyz ") z 0 (Str.ofString "abcdefghijklmnopqrstuvwxyz ").length 1).isEmpty
theorem FY {z:Str}(h:(z.length:Int)=1):∃ c,z=⟨#[c]⟩:=by
 obtain ⟨⟨l⟩⟩:=z
 have:l.length=1:=by simp [Str.length] at h;omega
 match l,this with
 |[c],_=>exact ⟨c,rfl⟩
theorem CS (c:Nat) (l:List Nat):decide (c∈l++[32])=(decide (c∈l) || decide (c=32)):=by rw [Bool.eq_iff_iff];simp
theorem CT (c:Nat):sgn ⟨#[c]⟩=(decide ((⟨#[c]⟩:Str)=Str.ofString " ") || Sc.isL c):=by
 unfold sgn
 rw [show decide (((⟨#[c]⟩:Str).length:Int)=1)=true from rfl,Bool.true_and,StrLaws.found_one,show (Str.ofString "abcdefghijklmnopqrstuvwxyz ").cps.toList=[97,98,99,100,101,102,103,104,105,106,107,108,109,110,111,112,113,114,115,116,117,118,119,120,121,122]++[32] by decide +kernel,CS,Sc.Cu,Bool.or_comm]
 congr 1
 rw [show Str.ofString " "=⟨#[32]⟩ by decide +kernel,Bool.eq_iff_iff]
 simp
def m6:WSp:=λts S Q=>∃ z:Str,ts=[.str z]/\z.length<=1000/\Q (.bl (sgn z)) S
theorem xV:FnScope ["text"] ["text"] (aj kS):=⟨rfl,rfl,rfl,by decide +kernel,rfl,by decide +kernel,by decide +kernel⟩
theorem CU (F:!"is_sign" kS) (T:Txt K mg C L R Y D Z) (Lh:!1 f1 Ki ["sign"] ix) (Li:Df K mg "is_letter" f1 Ki ["sign"]) :
  !2 f fd ["text"] m6:=by
 exists xV
 refine ⟨_,((am (aG (iN (d3 (g6 rfl hr.units) (aX (b8 rfl) T.len PySem.boot_len (ac (aa 0) af)) ae) (gP (G5 (d3 (g6 rfl hr.units) (aa 0) aw) (gP (aJ Lh Li hr.m (ac (aa 0) af))))))))),aD λv hu ts S Q h=>?_⟩
 obtain ⟨z,rfl,hz,hq⟩:=h
 ac_nf
 ext
 refine ifB (λhb=>?_) λhb=>?_
 ·obtain ⟨c,rfl⟩:=FY (of_decide_eq_true (by simpa using hb))
  rw [CT] at hq
  ext
  rw [Bool.false_xor]
  refine ifB (λO2=>?_) λO2=>?_
  ·rw [O2,Bool.true_or] at hq
   exact .mk hq
  ·rw [O2,Bool.false_or] at hq
   ext
   exact .mk hq
 ·unfold sgn at hq
  rw [Bool.false_xor] at hb
  rw [hb,Bool.false_and] at hq
  exact .mk hq
noncomputable def tyO (Y y q c:Addr) (m:Int) (x:Str):O:=.ins Y [("layers",.ref y),("many",.int m),("pairs",.ref q),("text",.str x),("chosen",.ref c)]
def mG (Y R:Addr):WSp:=λts S Q=>∃ t y m,ts=[.ref t,.ref y,.int m]/\S t=some (.ins Y [])/\∀ S' q g c,S' t=some (tyO Y y q c m "")->S' q=some (prO R g 0)->S' g=some (.dT [])->S' c=some (.lst [])->(∀ a o,S a=some o->a≠t->S' a=some o)->S q=none->S g=none->S c=none->Q .non S'
theorem wf:FnScope eD eD (aj jX):=⟨rfl,rfl,rfl,by decide +kernel,rfl,by decide +kernel,by decide +kernel⟩
theorem AG (F:!"__init__" "Typist.__init__" jX) (T:Txt K mg C L R Y D Z)
  (L6:!1 f1 Ki vv1 (rl R)) (Qi:Mk K R f1) (L7:ap K Ki vv1 []):!3 f fd eD (mG Y R):=by
 exists wf
 refine ⟨_,((ak (bV rfl T.gul (aa 0) (aa 1)) (ak (bV rfl T.gum (aa 0) (aa 2)) (ak (bV rfl T.gup (aa 0) (gz Qi L6 L7 hr.m (by rfl) T.mg_Pairs)) (ak (bV rfl T.gut (aa 0) aw) (am (bV rfl T.guc (aa 0) (rQ af)))))))),aD λv hu ts S Q hh=>?_⟩
 obtain ⟨t,y,m,rfl,ht,hq⟩:=hh
 ac_nf
 ext
 rw [show bR (Str.ofString "layers") (T2.T.ref y) []=[(Str.ofString "layers",T2.T.ref y)] from rfl]
 refine dW aA rfl (Nat.le_of_ble_eq_true rfl) ?_
 rw [dB,show bR (Str.ofString "many") (T2.T.int m) [(Str.ofString "layers",T2.T.ref y)]=[(Str.ofString "layers",T2.T.ref y),(Str.ofString "many",T2.T.int m)] from rfl]
 ext
 intro q hq1
 refine ⟨q,rfl,aA,λd hd=>⟨rfl,?_⟩⟩
 obtain ⟨hqt,hq0⟩:=bS hq1
 obtain ⟨hdq,hd1⟩:=bS hd
 obtain ⟨hdt,Qh⟩:=bS hd1
 generalize P1:put (put (put (put S t (.ins Y [("layers",.ref y),("many",.int m)])) q (.ins R [])) d (.dT [])) q (prO R d 0)=S1
 have k1:S1 t=some (.ins Y [("layers",.ref y),("many",.int m)]):=by
  rw [<- P1,av (Ne.symm hqt),av (Ne.symm hdt),av (Ne.symm hqt)];exact aA
 have k2:∀ a o,S a=some o->a≠t->S1 a=some o:=λa o ha Q9=>by
  have e1:=gW hq0 ha
  have e2:=gW Qh ha
  rw [<- P1,av (Ne.symm e1),av (Ne.symm e2),av (Ne.symm e1),av Q9];exact ha
 have k3:S1 q=some (prO R d 0):=by rw [<- P1];exact aA
 have k4:S1 d=some (.dT []):=by rw [<- P1,av hdq];exact aA
 clear P1
 ext
 refine dW aA rfl (Nat.le_of_ble_eq_true rfl) ?_
 rw [dB]
 ext
 intro c hc
 obtain ⟨hct,hc0⟩:=bS hc
 have hSc:S c=none:=by
  cases z:S c with
  |none=>rfl
  |some o=>rw [k2 c o z hct] at hc0;cases hc0
 ext
 refine dW ((av (Ne.symm hct)).trans aA) rfl (Nat.le_of_ble_eq_true rfl) ?_
 refine .mk (hq _ q d c aA ?_ ?_ ?_ ?_ hq0 Qh hSc)
 ·rw [av hqt,av (λz=>by rw [<- z,k3] at hc0;cases hc0),av hqt];exact k3
 ·rw [av hdt,av (λz=>by rw [<- z,k4] at hc0;cases hc0),av hdt];exact k4
 ·rw [av hct];exact aA
 ·intro a o ha Q9
  rw [av Q9,av (gW hSc ha).symm,av Q9];exact k2 a o ha Q9
def ui (Y:Addr):WSp:=λts S Q=>∃ t y q c m x z,ts=[.ref t,.str z]/\S t=some (tyO Y y q c m x)/\z.length<=1000/\sgn z=true/\x.length<24/\Q .non (put S t (tyO Y y q c m (x++z)))
theorem oG:FnScope dS dS (aj ia):=⟨rfl,rfl,rfl,by decide +kernel,rfl,by decide +kernel,by decide +kernel⟩
theorem FZ (F:!"key" "Typist.key" ia) (T:Txt K mg C L R Y D Z) (Lr:!2 f1 Ki ["text"] m6) (Ls:Df K mg "is_sign" f1 Ki ["text"]) :
  !3 f fd dS (ui Y):=by
 exists oG
 refine ⟨_,((ak (ax (bx (bj (aJ Lr Ls hr.m (ac (aa 1) af)))) (am bT) ay) (ak (ax (bo vd (aX (b8 rfl) T.len PySem.boot_len (ac (aL T.gut (aa 0)) af)) (db (n:=24) (by rfl) T.c_MOST_SIGNS)) (am bT) ay) (am (xL rfl T.gut (aa 0) (aa 1)))))),aD λv hu ts S Q h=>?_⟩
 obtain ⟨t,y,q,c,m,x,z,rfl,ht,hz,hs,hx,hq⟩:=h
 unfold tyO at ht
 ac_nf
 ext
 refine ⟨z,rfl,hz,?_⟩
 rw [hs]
 ext
 refine ifB (λhb=>?_) λhb=>?_
 ·exact absurd (of_decide_eq_true hb) (by omega)
 ext
 refine ⟨t,Y,_,x,rfl,ht,rfl,rfl,?_⟩
 ext
 refine ⟨z,_,rfl,by rw [sizeLine_eq];omega,ht,Nat.le_of_ble_eq_true rfl,?_⟩
 exact .mk hq
def sL (Y N:Addr):aU:=λts S R=>∃ t y q c m x z,ts=[.ref t,.str z]/\S t=some (tyO Y y q c m x)/\z.length<=1000/\PyData.strOk z=true/\x.length<=24/\(sgn z=false\/sgn z=true/\x.length=24)/\R (N,none) S
theorem F0 (F:!"key" "Typist.key" ia) (T:Txt K mg C L R Y D Z) (Lr:!2 f1 Ki ["text"] m6) (Ls:Df K mg "is_sign" f1 Ki ["text"]) :
  FnOk P w K mg base (CX1 P w) 3 f fd dS (az K (sL Y Z.S)):=by
 exists oG
 refine ⟨_,((bd (ai (aH (bx (bj (aJ Lr Ls hr.m (ac (aa 1) af)))) (ai (bN T.x_NoSign T.k_NoSign rfl (by rfl) T.mg_NoSign (ac (bM (b6 (aa 1) (bB bI))) af))) aK)) (aP (ax (bx (bj (aJ Lr Ls hr.m (ac (aa 1) af)))) (am bT) ay) (ai (aH (bo vd (aX (b8 rfl) T.len PySem.boot_len (ac (aL T.gut (aa 0)) af)) (db (n:=24) (by rfl) T.c_MOST_SIGNS)) (ai (bN T.x_NoSign T.k_NoSign rfl (by rfl) T.mg_NoSign (ac aw af))) aK))))),bp λv hu ts S Q h=>?_⟩
 obtain ⟨t,y,q,c,m,x,z,rfl,ht,hz,hok,hx,hs,hq⟩:=h
 unfold tyO at ht
 ac_nf
 rcases hs with hs|⟨hs,hx2⟩
 ·refine bg (bn ?_)
  ext
  refine ⟨z,rfl,hz,?_⟩
  rw [hs]
  ext
  refine ⟨z,rfl,hz,hok,?_⟩
  ext
  exact ⟨Nat.le_of_ble_eq_true rfl,.mk hq⟩
 ·refine bb (aZ ?_)
  ext
  refine ⟨z,rfl,hz,?_⟩
  rw [hs]
  ext
  refine ifB (λhb=>?_) λhb=>?_
  ·ext
   exact ⟨by decide,.mk hq⟩
  ·exact absurd (of_decide_eq_false hb) (by omega)
theorem wg:FnScope vv1 vv1 (aj jY):=⟨rfl,rfl,rfl,by decide +kernel,rfl,by decide +kernel,by decide +kernel⟩
def rp (Y N:Addr):aU:=λts S R=>∃ t y q c m,ts=[.ref t]/\S t=some (tyO Y y q c m "")/\R (N,none) S
theorem CV (F:!"back" "Typist.back" jY) (T:Txt K mg C L R Y D Z):FnOk P w K mg base (CX1 P w) 1 f fd vv1 (az K (rp Y Z.S)):=by
 exists wg
 refine ⟨_,((ai (aH (aq hr (aL T.gut (aa 0)) aw) (ai (bN T.x_NoSign T.k_NoSign rfl (by rfl) T.mg_NoSign (ac aw af))) aK))),bp λv hu ts S Q h=>?_⟩
 obtain ⟨t,y,q,c,m,rfl,ht,hq⟩:=h
 unfold tyO at ht
 ac_nf
 ext
 rw [decide_eq_true rfl,Bool.false_xor]
 ext
 exact ⟨by decide,.mk hq⟩
def rq (Y:Addr):WSp:=λts S Q=>∃ t y q c m x,ts=[.ref t]/\S t=some (tyO Y y q c m x)/\Q (.str x) S
theorem vX:FnScope vv1 vv1 (aj jQ):=⟨rfl,rfl,rfl,by decide +kernel,rfl,by decide +kernel,by decide +kernel⟩
theorem AH (F:!"typed" "Typist.typed" jQ) (T:Txt K mg C L R Y D Z):!1 f fd vv1 (rq Y):=by
 exists vX
 refine ⟨_,((am (aG (aL T.gut (aa 0))))),aD λv hu ts S Q h=>?_⟩
 obtain ⟨t,y,q,c,m,x,rfl,ht,hq⟩:=h
 unfold tyO at ht
 ac_nf
 ext
 exact .mk hq
def sM (Y:Addr):WSp:=λts S Q=>∃ t y q c m x ln,ts=[.ref t]/\S t=some (tyO Y y q c m x)/\S c=some (.lst (List.map T2.T.str ln))/\Q (.lst (ln.map T2.T.str)) S
theorem wj:FnScope vv1 vv1 (aj jZ):=⟨rfl,rfl,rfl,by decide +kernel,rfl,by decide +kernel,by decide +kernel⟩
theorem CW (F:!"line" "Typist.line" jZ) (T:Txt K mg C L R Y D Z):!1 f fd vv1 (sM Y):=by
 exists wj
 refine ⟨_,((am (aG (je (Ei false rfl) (by rfl) T.list PyProof.Rows.boot_list (ac (aL T.guc (aa 0)) af))))),aD λv hu ts S Q h=>?_⟩
 obtain ⟨t,y,q,c,m,x,ln,rfl,ht,hc,hq⟩:=h
 unfold tyO at ht
 ac_nf
 ext
 exact .mk hq
theorem AI {α:Type}(l:List α) (a:α):atI (l++[a]) (-1)=some a:=by
 simp [atI,ixN]
 rw [if_pos (by omega),Option.bind_some,show (-1+((l.length:Int)+1)).toNat=l.length by omega]
 simp
noncomputable def lst (ln:List Str):Str:=ln.getLastD ""
def sN (Y:Addr):WSp:=λts S Q=>∃ t y q c m x ln,ts=[.ref t]/\S t=some (tyO Y y q c m x)/\S c=some (.lst (List.map T2.T.str ln))/\Q (.str (lst ln)) S
theorem vJ:FnScope vv1 vv1 (aj jF):=⟨rfl,rfl,rfl,by decide +kernel,rfl,by decide +kernel,by decide +kernel⟩
theorem CY (F:!"last_chosen" "Typist.last_chosen" jF) (T:Txt K mg C L R Y D Z):!1 f fd vv1 (sN Y):=by
 exists vJ
 refine ⟨_,((am (aG (ja (qe rfl (aL T.guc (aa 0))) (aE (aL T.guc (aa 0)) (dG ae)) aw)))),aD λv hu ts S Q h=>?_⟩
 obtain ⟨t,y,q,c,m,x,ln,rfl,ht,hc,hq⟩:=h
 unfold tyO at ht
 ac_nf
 ext
 rcases List.eq_nil_or_concat ln with rfl|⟨l0,z,rfl⟩
 ·ext
  exact .mk hq
 ·rw [List.concat_eq_append] at *
  rw [show lst (l0++[z])=z by unfold lst;simp] at hq
  rw [show (!(List.map T2.T.str (l0++[z])).isEmpty)=true by simp]
  ext
  refine tR hc (t:=.str z) (by rw [List.map_append];exact AI _ _) ?_
  exact .mk hq
abbrev R4:=Str×Int×Int×Bool
noncomputable def r4 (a:R4):T2.T:=.tup [.str a.1,.int a.2.1,.int a.2.2.1,.bl a.2.2.2]
noncomputable def rk (a:R4):Ky:=.cons (.i (-a.2.1)) (.cons (ky (a.1,a.2.2.1)) .nil)
def k4 (a:R4):Ky:=.cons (.tt (!a.2.2.2)) (.cons (rk a) .nil)
noncomputable def u4:T2.T->Ky
 |.tup [.str z,.int p,.int w,.bl o]=>k4 (z,p,w,o)
 |_=>.nil
theorem F6 {a b:R4}(h:k4 a=k4 b):a=b:=by
 obtain ⟨z,p,w,o⟩:=a
 obtain ⟨z',p',w',o'⟩:=b
 unfold k4 rk ky at h
 simp only [Ky.cons.injEq,Ky.tt.injEq,Ky.i.injEq,Ky.s.injEq,and_true] at h
 obtain ⟨h1,h2,h3,h4⟩:=h
 have:o=o':=by cases o<;>cases o'<;>simp_all
 have:p=p':=by omega
 have:w=w':=by omega
 subst_vars;rfl
def vx:WSp:=λts S Q=>∃ a:R4,ts=[r4 a]/\Q (tre (rk a)) S
theorem wG:FnScope ["one"] ["one"] (aj kc):=⟨rfl,rfl,rfl,by decide +kernel,rfl,by decide +kernel,by decide +kernel⟩
theorem Iy (F:!"ranked_key" kc) (LI:!1 f1 Ki ["pair"] iY) (LJ:Df K mg "rank_key" f1 Ki ["pair"]):!2 f fd ["one"] vx:=by
 exists wG
 refine ⟨_,((am (aG (bX (ac (dG (aE (aa 0) ae)) (ac (aJ LI LJ hr.m (ac (bX (ac (aE (aa 0) ae) (ac (aE (aa 0) ae) af))) af)) af)))))),aD λv hu ts S Q h=>?_⟩
 obtain ⟨a,rfl,hq⟩:=h
 ac_nf
 unfold r4
 ext
 refine sG (a:=(a.1,a.2.2.1)) ?_
 ext
 refine .mk ?_
 rw [mY]
 rw [show tre (rk a)=.tup [.int (-a.2.1),tre (ky (a.1,a.2.2.1))] from rfl,mY] at hq
 exact hq
def vy:WSp:=λts S Q=>∃ a:R4,ts=[r4 a]/\Q (tre (k4 a)) S
theorem xp:FnScope ["one"] ["one"] (aj kE):=⟨rfl,rfl,rfl,by decide +kernel,rfl,by decide +kernel,by decide +kernel⟩
theorem Iz (F:!"told_key" kE) (NS:!2 f1 Ki ["one"] vx) (NT:Df K mg "ranked_key" f1 Ki ["one"]):!3 f fd ["one"] vy:=by
 exists xp
 refine ⟨_,((am (aG (bX (ac (mP (aE (aa 0) ae)) (ac (aJ NS NT hr.m (ac (aa 0) af)) af)))))),aD λv hu ts S Q h=>?_⟩
 obtain ⟨a,rfl,hq⟩:=h
 ac_nf
 unfold r4
 ext
 refine ⟨a,rfl,?_⟩
 ext
 refine .mk ?_
 exact hq
def srt {α:Type}(κ:α->Ky) (l:List α):List α:=Classical.epsilon λm=>m.Perm l/\m.Pairwise λa b=>Ky.lt (κ b) (κ a)=false
theorem yZ {α:Type}{κ:α->Ky}{k0:Ky}(hs:∀ a,Ky.shp k0 (κ a)=true) (hi:∀ a b,κ a=κ b->a=b):∀ {l m:List α},(l.Pairwise λa b=>Ky.lt (κ b) (κ a)=false)->(m.Pairwise λa b=>Ky.lt (κ b) (κ a)=false)->l.Nodup->l.Perm m->l=m:=by
 intro l
 induction l with
 |nil=>intro m _ _ _ p;exact (List.nil_perm.mp p).symm
 |cons a l ih =>
  intro m h1 h2 hn p
  cases m with
  |nil=>exact absurd p.length_eq (by simp)
  |cons b m =>
   rw [List.pairwise_cons] at h1 h2
   rw [List.nodup_cons] at hn
   by_cases e:a=b
   ·subst e
    rw [ih h1.2 h2.2 hn.2 (List.Perm.cons_inv p)]
   ·have ha:a∈m:=(List.mem_cons.mp (p.mem_iff.mp List.mem_cons_self)).resolve_left e
    have hb:b∈l:=(List.mem_cons.mp (p.mem_iff.mpr List.mem_cons_self)).resolve_left (Ne.symm e)
    have q1:=h1.1 b hb
    have q2:=h2.1 a ha
    rcases Ky.tri (Ky.shp_trans (Ky.qa (hs a)) (hs b)) with q|q|q
    ·rw [q] at q2;cases q2
    ·exact absurd (hi _ _ q) e
    ·rw [q] at q1;cases q1
theorem sO {α:Type}{κ:α->Ky}{k0:Ky}(hs:∀ a,Ky.shp k0 (κ a)=true) (hi:∀ a b,κ a=κ b->a=b) {l l':List α}(hn:l.Nodup) (p:l'.Perm l) (h:l'.Pairwise λa b=>Ky.lt (κ b) (κ a)=false):l'=srt κ l:=by
 have z:=Classical.epsilon_spec (p:=λm:List α=>m.Perm l/\m.Pairwise λa b=>Ky.lt (κ b) (κ a)=false) ⟨l',p,h⟩
 exact yZ hs hi h z.2 (p.nodup_iff.mpr hn) (p.trans z.1.symm)
def rows (ps:Pm) (i:Int) (b:Str) (l:List Rw):List R4:=l.map λa=>(a.1,pw ps i b a.1,a.2.1,a.2.2)
def tld (ps:Pm) (i:Int) (b:Str) (l:List Rw) (m:Int):List R4:=(srt k4 (rows ps i b l)).take m.toNat
theorem CZ {ps:Pm}{i:Int}{b:Str}{l:List Rw}(h:l.Nodup):(rows ps i b l).Nodup:=by
 unfold rows
 refine List.Pairwise.map _ (λa c NQ=>?_) h
 intro e
 obtain ⟨z,w,o⟩:=a
 obtain ⟨z',w',o'⟩:=c
 simp only [Prod.mk.injEq] at e
 exact NQ (by obtain ⟨e1,_,e2,e3⟩:=e;rw [e1,e2,e3])
theorem IA {α:Type}{grd:Sto->Prop}{g:WG}{te:WE}{Q:List T2.T->Sto->Prop}(f:α->T2.T) (φ:α->T2.T) (cs:StT){ls:List α}{S:Sto}(hg:grd S) (hz:ls.length<=sizeLine)
  (step:∀ a∈ls,∀ (u v w:Option T2.T) (J9:List T2.T) (N:List T2.T->StT->Sto->Prop),J9.length<sizeLine->(∀ u' v' w',N (J9++[φ a]) (u'::v'::w'::cs) S) ->
   g (f a) (u::v::w::cs) S λKO S2=>jb KO S2 λb S3=>if b=true then te KO S3 λy S4=>J9.length<sizeLine/\N (J9++[y]) KO S4 else N J9 KO S3)
  (done:Q (ls.map φ) S):cS grd g jb te Q (ls.map f) [] (none::none::none::cs) S:=by
 refine ik (λitems J9 J7 S'=>∃ pre M9 u v w,ls=pre++M9/\items=M9.map f/\J9=pre.map φ/\J7=u::v::w::cs/\S'=S) ⟨[],ls,none,none,none,rfl,rfl,rfl,rfl,rfl⟩ ?_ ?_
 ·rintro t ts J9 J7 S' N ⟨pre,M9,u,v,w,e,e2,rfl,rfl,rfl⟩ hN
  cases M9 with
  |nil=>cases e2
  |cons a r =>
   simp only [List.map_cons,List.cons.injEq] at e2
   obtain ⟨rfl,rfl⟩:=e2
   refine ⟨hg,step a (by rw [e];simp) u v w _ N ?_ λu' v' w'=>hN _ _ _ ⟨pre++[a],r,u',v',w',by rw [e];simp,rfl,by simp,rfl,rfl⟩⟩
   have h2:ls.length=pre.length+(r.length+1):=by rw [e];simp
   rw [List.length_map]
   omega
 ·rintro J9 J7 S' ⟨pre,M9,u,v,w,e,e2,rfl,rfl,rfl⟩
  have:M9=[]:=by cases M9 with|nil=>rfl|cons _ _=>cases e2
  subst this
  rw [List.append_nil] at e
  subst e
  exact ⟨hg,done⟩
structure Tp (C L R Y:Addr) (S:Sto) (u y q g c h e p d v:Addr) (m k n i:Int) (hs ms:Ms) (vs:List (Str×Bool)) (ps:Pm) (x:Str) (ln:List Str):Prop where
 ty:S u=some (tyO Y y q c m x)
 ly:Ly C L S y h e p d v k n hs ms vs
 pr:S q=some (prO R g i)
 pd:S g=some (.dT (toT ps))
 li:S c=some (.lst (ln.map T2.T.str))
structure Ok (k n i:Int) (hs ms:Ms) (ps:Pm):Prop where
 h:Mo k hs
 o:Mo n ms
 le:hs.length+ms.length<60
 p:Wf 1000 i ps
theorem IB {S:Sto}{Q:T->Sto->Prop}{y h e p d v:Addr}{k n:Int}{hs ms:Ms}{vs:List (Str×Bool)}{b:Str}(hL:Ly C L S y h e p d v k n hs ms vs) (h1:Mo k hs) (h2:Mo n ms) (q:Q (.lst ((bD hs ms vs k n b).map rw3)) S):nU C L (.ref y::([.str b]++[])) S Q:=⟨y,h,e,p,d,v,k,n,hs,ms,vs,b,rfl,hL,h1,h2,q⟩
theorem rA {k n:Int}{hs ms:Ms}{vs:List (Str×Bool)}{b:Str}:(bD hs ms vs k n b).length<=ms.length+hs.length:=by
 unfold bD wo jB jC
 rw [List.length_append,List.length_map,List.length_map,gA,gA]
 have a1:=List.length_filter_le (λa:Rt=>(look vs a.1).isNone) (rtd ms n b)
 have a2:=iJ ms n b
 have b2:=iJ hs k b
 have b1:=List.length_filter_le (λa:Rt=>(look vs a.1).isNone&&(look ms a.1).isNone) (rtd hs k b)
 omega
theorem F7 {k n:Int}{hs ms:Ms}{vs:List (Str×Bool)}{b:Str}(h1:Mo k hs) (h2:Mo n ms):(bD hs ms vs k n b).Nodup:=by
 unfold bD wo jB jC
 rw [List.nodup_append]
 refine ⟨?_,?_,λx hx y hy e=>?_⟩
 ·refine List.Pairwise.map _ (λa c NQ=>?_) ((eN _).nodup_iff.mpr ((iX h2.nd).filter _))
  intro e
  exact NQ (Prod.ext (congrArg (λz:Rw=>z.1) e) (congrArg (λz:Rw=>z.2.1) e))
 ·refine List.Pairwise.map _ (λa c NQ=>?_) ((eN _).nodup_iff.mpr ((iX h1.nd).filter _))
  intro e
  exact NQ (Prod.ext (congrArg (λz:Rw=>z.1) e) (congrArg (λz:Rw=>z.2.1) e))
 ·obtain ⟨a,_,rfl⟩:=List.mem_map.mp hx
  obtain ⟨c,_,rfl⟩:=List.mem_map.mp hy
  have:=congrArg (λz:Rw=>z.2.2) e
  cases this
def iZ (C L R Y:Addr):WSp:=λts S Q=>∃ u y q g c h e p d v m k n i hs ms vs ps x ln,ts=[.ref u]/\Tp C L R Y S u y q g c h e p d v m k n i hs ms vs ps x ln/\Ok k n i hs ms ps/\0<=m/\((srt k4 (rows ps i (lst ln) (bD hs ms vs k n x))).Perm (rows ps i (lst ln) (bD hs ms vs k n x))->Q (.lst ((tld ps i (lst ln) (bD hs ms vs k n x) m).map r4)) S)
theorem wm:FnScope ["self","before","rows"] vv1 (aj j3):=⟨rfl,rfl,rfl,by decide +kernel,rfl,by decide +kernel,by decide +kernel⟩
theorem C0 (F:!"told" "Typist.told" j3) (T:Txt K mg C L R Y D Z)
  (Lj:!1 f1 Ki vv1 (sN Y)) (Ll:Meth K Y "last_chosen" f1) (Lm:ap K Ki vv1 [])
  (LR:!6 f2 Lw vv9 (nU C L)) (LS:Meth K L "all_told" f2) (LU:ap K Lw vv9 [])
  (L8:!2 f3 OC hZ (om R)) (L9:Meth K R "worth_of" f3) (Ma:ap K OC hZ [])
  (OD:!3 f4 Qj ["one"] vy) (OE:Df K mg "told_key" f4 Qj ["one"]):!7 f fd vv1 (iZ C L R Y):=by
 exists wm
 refine ⟨_,((ak (aI 1 nd (cy (T.gu Ll) Lj Lm hr.m (aa 0))) (ak (k6 false (i:=2) vv18 3 [1,0] rfl nd rfl (Or.inl rfl) (eQ rfl (bP (T.gl LS) LR LU hr.m (aL T.gul (aa 0)) (ac (aL T.gut (aa 0)) af))) (λ_ _ _ _=>(eZ (λh=>eO (n:=3) rfl rfl h) (cr (bq 0 (show List.Nodup (vv18:List Str) from by decide +kernel)) (cr (bq 1 (show List.Nodup (vv18:List Str) from by decide +kernel)) (cr (bq 2 (show List.Nodup (vv18:List Str) from by decide +kernel)) eP (λh1 h2=>cq h1 h2)) (λh1 h2=>cq h1 h2)) (λh1 h2=>cq h1 h2)))) (λ_ _ _ _=>c6) (λ_ _ _ _=>(bX (ac (aa 0) (ac (bP (T.gp L9) L8 Ma hr.m (aL T.gup (aa 4)) (ac (aa 3) (ac (aa 0) af))) (ac (aa 1) (ac (aa 2) af))))))) (am (aG (mf false rfl (qQ false rfl OD OE hr.m (by rfl) T.sorted (by rfl) (ac (aa 2) af)) md (me (aL T.gum (aa 0))))))))),aD λv hu ts S Q hh=>?_⟩
 obtain ⟨u,y,q,g,c,h,e,p,d,v,m,k,n,i,hs,ms,vs,ps,x,ln,rfl,tp,ok,hm,hq⟩:=hh
 have ht:=tp.ty
 have hy:=tp.ly.ins
 have hp:=tp.pr
 unfold tyO at ht
 unfold prO at hp
 ac_nf
 ext
 refine ⟨u,y,q,c,m,x,ln,rfl,tp.ty,tp.li,?_⟩
 ext
 refine IB tp.ly ok.h ok.o ?_
 have KS:=rA (k:=k) (n:=n) (hs:=hs) (ms:=ms) (vs:=vs) (b:=x)
 have hnd:=F7 (vs:=vs) (b:=x) ok.h ok.o
 have h60:=ok.le
 generalize bD hs ms vs k n x=al at KS hnd hq ⊢
 ext
 refine IA (ls:=al) rw3 (λa=>r4 (a.1,pw ps i (lst ln) a.1,a.2.1,a.2.2)) [some (.str (lst ln)),some (.ref u)] trivial (by rw [sizeLine_eq];omega) (λa ha _ _ _ J9 N Lc hN=>?_) ?_
 ·unfold rw3
  ext
  refine JW tp.pr tp.pd ok.p ?_
  ext
  exact ⟨Lc,hN _ _ _⟩
 ·rw [show al.map (λa=>r4 (a.1,pw ps i (lst ln) a.1,a.2.1,a.2.2))=(rows ps i (lst ln) al).map r4 by unfold rows;rw [List.map_map];rfl]
  ext
  refine qR u4 (k4 ("",0,0,true)) rfl (by unfold rows;rw [List.length_map];omega) rfl (by decide) (λa ha=>⟨rfl,rfl,λS' Q' q=>⟨a,rfl,q⟩⟩) λl' p hs=>?_
  have es:=sO (κ:=k4) (k0:=k4 ("",0,0,true)) (λ_=>rfl) (λa b=>F6) (CZ hnd) p hs
  rw [es] at p ⊢
  ext
  rw [qN hm]
  exact .mk (hq p)
theorem di {S:Sto}{a b:Addr}{o u:O}(h1:S a=some o) (h2:S b=some u) (h:o≠u):a≠b:=λe=>by rw [e,h2] at h1;exact h (Option.some.inj h1).symm
theorem cX {S:Sto}{a b:Addr}{o:O}(h1:S a=some o) (h2:S b=none):a≠b:=λe=>by rw [e,h2] at h1;cases h1
structure At (S:Sto) (l:List (Addr×O)):Prop where
 nd:(l.map (·.1)).Nodup
 is:∀ x∈l,S x.1=some x.2
section
variable {S S' S0:Sto}{l l' l0 l1 l2 l3:List (Addr×O)}{a:Addr}{o o':O}
theorem At.get (h:At S l) (i:Nat) (e:l[i]?=some (a,o)):S a=some o:=h.is _ (List.mem_of_getElem? e)
theorem C1 {i:Nat}(e:l[i]?=some (a,o)):(l.set i (a,o')).map (·.1)=l.map (·.1):=by
 rw [List.map_set]
 refine List.ext_getElem? λj=>?_
 rw [List.getElem?_set]
 by_cases h:i=j
 ·subst h;rw [if_pos rfl,if_pos (by rw [List.length_map];exact (List.getElem?_eq_some_iff.mp e).1),List.getElem?_map,e];rfl
 ·rw [if_neg h]
theorem At.put (h:At S l) (i:Nat) (e:l[i]?=some (a,o)):At (T2.put S a o') (l.set i (a,o')):=by
 obtain ⟨hi,e2⟩:=List.getElem?_eq_some_iff.mp e
 refine ⟨C1 e ▸ h.nd,λx hx=>?_⟩
 obtain ⟨j,hj,ej⟩:=List.mem_iff_getElem.mp hx
 rw [List.length_set] at hj
 rw [List.getElem_set] at ej
 split at ej
 ·subst ej;exact aA
 ·rename_i hij
  have NQ:x.1≠a:=λq=>by
   have h1:=(List.getElem_inj (i:=i) (j:=j) (h₀:=by rw [List.length_map];exact hi) (h₁:=by rw [List.length_map];exact hj) h.nd).mp (by rw [List.getElem_map,List.getElem_map,e2,ej,q])
   exact hij h1
  rw [av NQ]
  exact h.is x (by rw [<- ej];exact List.getElem_mem hj)
theorem At.keep (h:At S l) (k:∀ a u,S a=some u->S' a=some u):At S' l:=⟨h.nd,λx hx=>k _ _ (h.is x hx)⟩
theorem At.left (h:At S (l1++l2)):At S l1:=⟨by have n:=h.nd;rw [List.map_append] at n;exact (List.nodup_append.mp n).1,λx hx=>h.is x (List.mem_append_left _ hx)⟩
structure Up (S0:Sto) (l0:List (Addr×O)) (S:Sto) (l:List (Addr×O)):Prop where
 at_:At S l
 ks:l.map (·.1)=l0.map (·.1)
 fr:∀ a,a∉l0.map (·.1)->S a=S0 a
end
section
variable {C:Addr}{S S':Sto}{l l':List (Addr×O)}{a b y p d v h:Addr}{o u:O}
theorem At.ne (h:At S l) (i j:Nat) (hij:i≠j) (ei:l[i]?=some (a,o)) (ej:l[j]?=some (b,u)):a≠b:=λq=>by
 obtain ⟨hi,e2⟩:=List.getElem?_eq_some_iff.mp ei
 obtain ⟨hj,e3⟩:=List.getElem?_eq_some_iff.mp ej
 exact hij ((List.getElem_inj (i:=i) (j:=j) (h₀:=by rw [List.length_map];exact hi) (h₁:=by rw [List.length_map];exact hj) h.nd).mp (by rw [List.getElem_map,List.getElem_map,e2,e3];exact q))
theorem At.pick (h:At S l) (is:List Nat) (hn:is.Nodup) (e:is.map (l[·]?)=l'.map some):At S l':=by
 induction is generalizing l' with
 |nil=>cases l' with
  |nil=>exact ⟨List.nodup_nil,λx hx=>nomatch hx⟩
  |cons _ _=>cases e
 |cons i is ih =>
  cases l' with
  |nil=>cases e
  |cons x r =>
   rw [List.map_cons,List.map_cons,List.cons.injEq] at e
   have q:=ih (List.nodup_cons.mp hn).2 e.2
   refine ⟨List.nodup_cons.mpr ⟨λhm=>?_,q.nd⟩,λz hz=>?_⟩
   ·obtain ⟨z,hz,hzx⟩:=List.mem_map.mp hm
    have hz2:some z∈is.map (l[·]?):=by rw [e.2];exact List.mem_map_of_mem hz
    obtain ⟨j,hj,ej⟩:=List.mem_map.mp hz2
    exact h.ne i j (λq=>(List.nodup_cons.mp hn).1 (by rw [q];exact hj)) (a:=x.1) (o:=x.2) (b:=z.1) (u:=z.2) e.1 ej hzx.symm
   ·rcases List.mem_cons.mp hz with rfl|hz
    ·exact h.is _ (List.mem_of_getElem? e.1)
    ·exact q.is z hz
theorem At.cons (h:At S l) (ha:S a=none):At (T2.put S a o) ((a,o)::l):=by
 refine ⟨List.nodup_cons.mpr ⟨λhm=>?_,h.nd⟩,λx hx=>?_⟩
 ·obtain ⟨x,hx,e⟩:=List.mem_map.mp hm
  exact cX (h.is x hx) ha e
 ·rcases List.mem_cons.mp hx with rfl|hx
  ·exact aA
  ·exact (av (cX (h.is x hx) ha)).trans (h.is x hx)
end
theorem lY {α:Type}(l:List α) (k:Nat):atI l (k:Int)=l[k]?:=by
 by_cases h:k<l.length
 ·simp [atI,ixN,h]
 ·simp [atI,ixN,h]
structure Ad where
 (h e y p d v u q g c:Addr)
structure Ab where
 (k n i:Int) (hs ms:Ms) (vs:List (Str×Bool)) (ps:Pm) (x:Str) (ln:List Str)
def woO (C d:Addr) (n:Int):O:=.ins C [("marks",.ref d),("now",.int n)]
noncomputable def lyO (L h p v:Addr):O:=.ins L [("house",.ref h),("own",.ref p),("veiled",.ref v)]
structure Cs where
 (C L R Y:Addr)
def lay (D:Cs) (A:Ad) (m:Int) (a:Ab):List (Addr×O) :=
 [(A.h,woO D.C A.e a.k),(A.e,.dK (kt mkT a.hs)),(A.y,lyO D.L A.h A.p A.v),(A.p,woO D.C A.d a.n),(A.d,.dK (kt mkT a.ms)),(A.v,.dK (kt T2.T.bl a.vs)),(A.u,tyO D.Y A.y A.q A.c m a.x),(A.q,prO D.R A.g a.i),(A.g,.dT (toT a.ps)),(A.c,.lst (a.ln.map T2.T.str))]
section
variable {D:Cs}{A:Ad}{m:Int}{a:Ab}{S S0:Sto}{l0:List (Addr×O)}
theorem At.wh (h:At S (lay D A m a)):Wo D.C S A.h A.e a.k a.hs:=⟨h.get 0 rfl,h.get 1 rfl⟩
theorem At.wo (h:At S (lay D A m a)):Wo D.C S A.p A.d a.n a.ms:=⟨h.get 3 rfl,h.get 4 rfl⟩
theorem At.ly (h:At S (lay D A m a)):Ly D.C D.L S A.y A.h A.e A.p A.d A.v a.k a.n a.hs a.ms a.vs:=⟨h.get 2 rfl,h.wh,h.wo,h.get 5 rfl⟩
theorem At.tp (h:At S (lay D A m a)):Tp D.C D.L D.R D.Y S A.u A.y A.q A.g A.c A.h A.e A.p A.d A.v m a.k a.n a.i a.hs a.ms a.vs a.ps a.x a.ln:=⟨h.get 6 rfl,h.ly,h.get 7 rfl,h.get 8 rfl,h.get 9 rfl⟩
end
structure Okk (a:Ab):Prop where
 ok:Ok a.k a.n a.i a.hs a.ms a.ps
 vl:a.vs.length<60
 xl:a.x.length<=24
 ll:a.ln.length<=2000
def Ab.told (a:Ab) (m:Int):List R4:=tld a.ps a.i (lst a.ln) (bD a.hs a.ms a.vs a.k a.n a.x) m
def usd (ms:Ms) (n:Int) (z:Str) (c:Int):Ms:=match look ms z with
 |some m=>pu ms z (wrt m n+c,n)
 |none=>ms
def Ab.use (a:Ab) (z:Str) (c:Int):Ab:=if (look a.ms z).isSome then { a with ms:=usd a.ms a.n z c } else { a with hs:=usd a.hs a.k z c }
def Can (a:Ab) (z:Str):Prop:=look a.vs z=none/\((∃ m,look a.ms z=some m)\/look a.ms z=none/\∃ m,look a.hs z=some m)
theorem qk {ms:Ms}{n:Int}{b:Str}{r:Rt}(h:r∈rtd ms n b):∃ m,look ms r.1=some m:=by
 unfold rtd fO at h
 obtain ⟨x,hx,rfl⟩:=List.mem_map.mp h
 have hm:x.1∈ms.map (·.1):=List.mem_map_of_mem (List.mem_filter.mp hx).1
 cases q:look ms x.1 with
 |none=>exact absurd hm (As.cF.mp q)
 |some m=>exact ⟨m,rfl⟩
theorem C2 {a:Ab}{b:Str}{r:Rw}(h:r∈bD a.hs a.ms a.vs a.k a.n b):Can a r.1:=by
 unfold bD wo at h
 rcases List.mem_append.mp h with h|h
 ·obtain ⟨s,hs,rfl⟩:=List.mem_map.mp h
  have hs:=(eN _).mem_iff.mp hs
  unfold jB at hs
  obtain ⟨h1,h2⟩:=List.mem_filter.mp hs
  exact ⟨Option.isNone_iff_eq_none.mp h2,.inl (qk h1)⟩
 ·obtain ⟨s,hs,rfl⟩:=List.mem_map.mp h
  have hs:=(eN _).mem_iff.mp hs
  unfold jC at hs
  obtain ⟨h1,h2⟩:=List.mem_filter.mp hs
  simp only [Bool.and_eq_true,Option.isNone_iff_eq_none] at h2
  exact ⟨h2.1,.inr ⟨h2.2,qk h1⟩⟩
theorem AJ {a:Ab}{m:Int}{r:R4}(p:(srt k4 (rows a.ps a.i (lst a.ln) (bD a.hs a.ms a.vs a.k a.n a.x))).Perm (rows a.ps a.i (lst a.ln) (bD a.hs a.ms a.vs a.k a.n a.x))) (h:r∈a.told m):Can a r.1:=by
 unfold Ab.told tld at h
 have h:=p.mem_iff.mp (List.mem_of_mem_take h)
 unfold rows at h
 obtain ⟨s,hs,rfl⟩:=List.mem_map.mp h
 exact C2 hs
theorem wq:FnScope ["self","number","told","word"] ["self","number"] (aj j4):=⟨rfl,rfl,rfl,by decide +kernel,rfl,by decide +kernel,by decide +kernel⟩
def rB (D:Cs) (X:Addr):aU:=λts S R=>∃ A m a i,ts=[.ref A.u,.int i]/\At S (lay D A m a)/\Okk a/\0<=m/\i.natAbs.log2<1920/\(i<0\/((a.told m).length:Int)<=i)/\R (X,none) S
theorem AK (F:!"take" "Typist.take" j4) (T:Txt K mg C L R Y D Z)
  (Kl:!7 f1 Ki vv1 (iZ C L R Y)) (Km:Meth K Y "told" f1) (Kn:ap K Ki vv1 []):FnOk P w K mg base (CX1 P w) 8 f fd ["self","number"] (az K (rB ⟨C,L,R,Y⟩ Z.H)):=by
 exists wq
 refine ⟨_,((aP (aI 2 nd (cy (T.gu Km) Kl Kn hr.m (aa 0))) (ai (aH (bx (io bL vb ae (aa 1) (aX (b8 rfl) T.len PySem.boot_len (ac (aa 2) af)))) (ai (bN T.x_NoChoice T.k_NoChoice rfl (by rfl) T.mg_NoChoice (ac (bM (dX (aa 1) (bB bI))) af))) aK)))),bp λv hu ts S Q h=>?_⟩
 obtain ⟨A,m,a,i,rfl,hA,ok,hm,hi,hr4,hq⟩:=h
 have tp:=hA.tp
 have ht:=tp.ty
 unfold tyO at ht
 ac_nf
 ext
 refine ⟨_,_,_,_,_,_,_,_,_,_,_,_,_,_,_,_,_,_,_,_,rfl,tp,ok.ok,hm,λp=>?_⟩
 change wgN _ (.lst ((a.told m).map r4)) _ _ _
 generalize a.told m=tl at hr4 ⊢
 ext
 by_cases h0:0<=i
 ·rw [decide_eq_true h0]
  ext
  rw [decide_eq_false (show ¬ i<(tl.length:Int) by omega)]
  ext
  refine ⟨_,.inl ⟨i,rfl,hi,rfl⟩,?_⟩
  ext
  exact ⟨Nat.le_of_ble_eq_true rfl,.mk hq⟩
 ·rw [decide_eq_false h0]
  ext
  refine ⟨_,.inl ⟨i,rfl,hi,rfl⟩,?_⟩
  ext
  exact ⟨Nat.le_of_ble_eq_true rfl,.mk hq⟩
def isF (c:Nat):Bool:=decide (48<=c)&&decide (c<=57)
theorem F8 (c:Nat):(!T2.ltS ⟨#[c]⟩ "0" && !T2.ltS "9" ⟨#[c]⟩)=isF c:=by
 have e1:T2.ltS ⟨#[c]⟩ (Str.ofString "0")=decide (c<48):=Wm.iU c 48
 have e2:T2.ltS (Str.ofString "9") ⟨#[c]⟩=decide (57<c):=Wm.iU 57 c
 rw [e1,e2]
 unfold isF
 rw [Bool.eq_iff_iff]
 simp only [Bool.and_eq_true,Bool.not_eq_true',decide_eq_false_iff_not,decide_eq_true_eq]
 omega
noncomputable def nbB (g:Nat) (x:Str):Bool:=decide (1<=x.length)&&decide (x.length<=g)&&(Tm.tl x).all isF&&(decide (x="0") || !decide ((Tm.tl x)[0]?=some 48))
noncomputable def vl (x:Str):Int:=(NumText.digitsVal (Tm.tl x):Nat)
theorem AL {g:Nat}{x:Str}(hg:g<=15) (h:nbB g x=true):PySem.intText? x=some (vl x):=by
 unfold nbB at h
 simp only [Bool.and_eq_true,decide_eq_true_eq,List.all_eq_true] at h
 obtain ⟨⟨⟨h1,h2⟩,h3⟩,_⟩:=h
 refine PySem.intText_digits (x:=x) (λc hc=>?_) (λe=>?_) (by omega)
 ·have:=h3 c hc
  unfold isF at this
  simp only [Bool.and_eq_true,decide_eq_true_eq] at this
  exact this
 ·rw [<- Tm.len] at h1
  rw [show Tm.tl x=[] from e] at h1
  simp at h1
noncomputable def oc (x:Str):List Nat:=Builtin.Str.occurrences x " " 0 x.length 1
def bef (x:Str) (i:Nat):Str:=Txt.slice x none (some (i:Int))
def aft (x:Str) (i:Nat):Str:=Txt.slice x (some ((i+1:Nat):Int)) none
theorem ji {x:Str}(h:oc x=[]):Txt.partition x " "=(x,Str.empty,Str.empty):=by
 unfold Txt.partition;rw [show Builtin.Str.occurrences x " " 0 x.length 1=[] from h]
theorem gX {x:Str}{i:Nat}{l:List Nat}(h:oc x=i::l):Txt.partition x " "=(bef x i,(Str.ofString " "),aft x i):=by
 unfold Txt.partition;rw [show Builtin.Str.occurrences x " " 0 x.length 1=i::l from h]
 have e1:Builtin.Str.strSub x 0 i=bef x i:=Tm.ext (by
  unfold bef
  rw [Tm.eM]
  have:=StrLaws.strSub_toList x 0 i
  simpa [Tm.tl] using this)
 have e2:Builtin.Str.strSub x (i+(Str.ofString " ").length) x.length=aft x i:=Tm.ext (by
  unfold aft
  rw [Tm.pe]
  have:=StrLaws.strSub_toList x (i+1) x.length
  have el:x.length=x.cps.toList.length:=(Tm.len x).symm
  rw [show i+(Str.ofString " ").length=i+1 from rfl]
  show (Builtin.Str.strSub x (i+1) x.length).cps.toList=x.cps.toList.drop (i+1)
  rw [this,el]
  exact List.take_of_length_le (by rw [List.length_drop];exact Nat.le_refl _))
 show (Builtin.Str.strSub x 0 i,(Str.ofString " "),Builtin.Str.strSub x (i+(Str.ofString " ").length) x.length)=_
 rw [e1,e2]
theorem rD (x:Str) (i:Nat):(bef x i).length<=x.length:=by
 unfold bef;rw [<- Tm.len,<- Tm.len,Tm.eM,List.length_take];omega
theorem rE (x:Str) (i:Nat):(aft x i).length<=x.length:=by
 unfold aft;rw [<- Tm.len,<- Tm.len,Tm.pe,List.length_drop];omega
def Tx (z:Str):Prop:=z.length<=1000/\PyData.strOk z=true
theorem uj (z:Str):PyData.strOk z=(Tm.tl z).all λc=>decide (c<1114112):=by unfold PyData.strOk Tm.tl;rw [Array.all_toList]
theorem i3 {x y:Str}(h1:PyData.strOk x=true) (h2:PyData.strOk y=true):PyData.strOk (x++y)=true:=by rw [uj] at *;rw [Tm.bE,List.all_append,h1,h2];rfl
theorem qm {x:Str}{lo hi:Option Int}(h:PyData.strOk x=true):PyData.strOk (PySem.Txt.slice x lo hi)=true:=by
 rw [uj,List.all_eq_true] at *
 intro c hc
 rw [Tm.lF] at hc
 exact h c (List.mem_of_mem_drop (List.mem_of_mem_take hc))
theorem gB (x y:Str):(x++y).length=x.length+y.length:=by rw [<- Tm.len,Tm.bE,List.length_append,Tm.len,Tm.len]
theorem aM {p A C:Prop}[Decidable p] (e:¬p) (h:C):if (false ^^ decide p)=true then A else C:=by rw [decide_eq_false e];exact ifF h
theorem a8 {p A C:Prop}[Decidable p] (e:p) (h:A):if (false ^^ decide p)=true then A else C:=by rw [decide_eq_true e];exact ifT h
theorem JU {U:StT}{S:Sto}{wa:WE}{R:Src->Sto->Prop}(h:wa U S λx S1=>∃ ts,aS S1 x=some ts/\R ⟨dg ts,c8 x ts⟩ S1):wiE wa U S R:=h
def lQ:WSp:=λts S Q=>∃ c:Nat,ts=[.str ⟨#[c]⟩]/\Q (.bl (isF c)) S
theorem AM {S:Sto}{Q:T->Sto->Prop}{c:Nat}(h:Q (.bl (isF c)) S):lQ ([.str ⟨#[c]⟩]++[]) S Q:=⟨c,rfl,h⟩
theorem wO:FnScope ["sign"] ["sign"] (aj km):=⟨rfl,rfl,rfl,by decide +kernel,rfl,by decide +kernel,by decide +kernel⟩
theorem y1 (F:!"is_figure" km):!1 f fd ["sign"] lQ:=by
 exists wO
 refine ⟨_,((am (aG (l7 bL bL aw (aa 0) aw)))),aD λv hu ts S Q h=>?_⟩
 obtain ⟨c,rfl,hq⟩:=h
 rw [<- F8] at hq
 ac_nf
 ext
 refine ifB (λhb=>?_) λhb=>?_
 ·ext
  rw [hb,Bool.true_and] at hq
  exact .mk hq
 ·rw [hb,Bool.false_and] at hq
  exact .mk hq
def nbT (g:Nat) (x:Str):T2.T:=if nbB g x then .int (vl x) else .non
def iA:WSp:=λts S Q=>∃ (x:Str) (g:Nat),ts=[.str x,.int g]/\g<=15/\x.length<=1000/\Q (nbT g x) S
theorem qo {S:Sto}{Q:T->Sto->Prop}{x:Str}(g:Nat) (hg:g<=15) (h0:x.length<=1000) (h:Q (nbT g x) S):iA ([.str x,.int g]++[]) S Q:=⟨x,g,rfl,hg,h0,h⟩
theorem wP:FnScope eE eE (aj kn):=⟨rfl,rfl,rfl,by decide +kernel,rfl,by decide +kernel,by decide +kernel⟩
theorem y3 (F:!"number_of" kn) (T:Txt K mg C L R Y D Z) (Om:!1 f1 Ki ["sign"] lQ) (Oo:Df K mg "is_figure" f1 Ki ["sign"]) :
  !2 f fd eE iA:=by
 exists wP
 refine ⟨_,((ak (ax (bY (d9 (bx (io bL bL ae (aX (b8 rfl) T.len PySem.boot_len (ac (aa 0) af)) (aa 1))) (d4 (bx (bj (aX (nE rfl rfl) T.all PyProof.Rows.boot_all (ac (c9 false ["sign"] 1 [] rfl (rV (aa 0)) (λ_ _ _ _=>(bq 0 (show List.Nodup (["sign"]:List Str) from by decide +kernel))) (λ_ _ _ _=>c6) (λ_ _ _ _=>(aJ Om Oo hr.m (ac (aa 0) af)))) af))))))) (am (aG dZ)) ay) (ak (ax (bY (dE (aq hr (aE (aa 0) ae) aw) (dD (bo (n6 rfl hr.units) (aa 0) aw)))) (am (aG dZ)) ay) (am (aG (je Fw (by rfl) T.int PyProof.Rows.boot_int (ac (aa 0) af))))))),aD λv hu ts S Q h=>?_⟩
 obtain ⟨x,g,rfl,hg,hx,hq⟩:=h
 have bad:nbB g x=false->Q .non S:=λe=>by unfold nbT at hq;rw [e] at hq;exact hq
 ac_nf
 refine dI (λJ7 S'=>J7=[some (.str x),some (.int g)]/\S'=S/\1<=x.length/\x.length<=g/\(Tm.tl x).all isF=true) ?_ ?_
 ·intro X hX
  ext
  by_cases h1:(1:Int)<=x.length
  ·rw [decide_eq_true h1]
   ext
   by_cases h2:(x.length:Int)<=g
   ·rw [decide_eq_true h2]
    ext
    refine eJ (ls:=Tm.tl x) (λc=>T2.T.str ⟨#[c]⟩) (λc=>some (.bl (isF c))) [] ?_ ?_ (λc hc u J9 N Lc hN=>?_) ?_
    ·trivial
    ·rw [Tm.len,sizeLine_eq];omega
    ·ext
     refine AM ?_
     exact ⟨Lc,hN _⟩
    ·ext
     refine mR (bs:=(Tm.tl x).map isF) (by rw [<- Wm.all_map,List.map_map,Wm.mw];rfl) ?_
     rw [List.all_map,show (id ∘ isF)=isF from rfl]
     cases hf:(Tm.tl x).all isF with
     |true =>
      ext
      exact hX _ _ ⟨rfl,rfl,by omega,by omega,hf⟩
     |false =>
      ext
      exact .mk (bad (by unfold nbB;rw [hf,Bool.and_false,Bool.false_and]))
   ·rw [decide_eq_false h2]
    ext
    exact .mk (bad (by unfold nbB;rw [decide_eq_false (p:=x.length<=g) (by omega),Bool.and_false,Bool.false_and,Bool.false_and]))
  ·rw [decide_eq_false h1]
   ext
   exact .mk (bad (by unfold nbB;rw [decide_eq_false (p:=1<=x.length) (by omega),Bool.false_and,Bool.false_and,Bool.false_and]))
 rintro J7 S' ⟨rfl,rfl,hl1,hl10,hf⟩
 have nbe:nbB g x=(decide (x="0") || !decide ((Tm.tl x)[0]?=some 48)):=by
  unfold nbB;rw [decide_eq_true hl1,decide_eq_true hl10,hf,Bool.true_and,Bool.true_and,Bool.true_and]
 refine dI (λJ7 S2=>J7=[some (.str x),some (.int g)]/\S2=S'/\nbB g x=true) ?_ ?_
 ·intro X hX
  ext
  have Rc:(Tm.tl x)[0]?=some d:=by
   have Rc:atI (Tm.tl x) 0=some d:=ed
   cases q:Tm.tl x with
   |nil=>rw [q] at Rc;simp [atI,ixN] at Rc
   |cons c r=>rw [q] at Rc;simpa [atI,ixN] using Rc
  refine ifB (λhb=>?_) λhb=>?_
  ·have Qh:(⟨#[d]⟩:Str)="0":=by simpa using hb
   have Rf:d=48:=by
    have:=congrArg Tm.tl Qh
    have:[d]=[48]:=this
    simpa using this
   subst Rf
   ext
   by_cases hx0:x="0"
   ·rw [decide_eq_true hx0]
    ext
    exact hX _ _ ⟨rfl,rfl,by rw [nbe,decide_eq_true hx0,Bool.true_or]⟩
   ·rw [decide_eq_false hx0]
    ext
    exact .mk (bad (by rw [nbe,decide_eq_false hx0,decide_eq_true Rc];rfl))
  ·ext
   have Rf:d≠48:=λe=>by
    subst e
    have:(⟨#[48]⟩:Str)="0":=by decide +kernel
    simp [this] at hb
   exact hX _ _ ⟨rfl,rfl,by rw [nbe,decide_eq_false (p:=(Tm.tl x)[0]?=some 48) (λz=>Rf (by rw [Rc] at z;exact Option.some.inj z)),Bool.not_false,Bool.or_true]⟩
 rintro J7 S2 ⟨rfl,rfl,hnb⟩
 ext
 refine Fy (AL hg hnb) (by omega) ?_
 unfold nbT at hq
 rw [hnb] at hq
 exact .mk hq
noncomputable def nin (x:Str) (lo hi:Int):Bool:=nbB 10 x&&(decide (lo<=vl x)&&decide (vl x<=hi))
theorem vQ:FnScope ["text","least","most","number"] fN (aj jO):=⟨rfl,rfl,rfl,by decide +kernel,rfl,by decide +kernel,by decide +kernel⟩
def k9 (X:Addr):aU:=λts S R=>∃ (x:Str) (lo hi:Int),ts=[.str x,.int lo,.int hi]/\x.length<=1000/\PyData.strOk x=true/\nin x lo hi=false/\R (X,none) S
theorem y4 (F:!"number_within" jO) (T:Txt K mg C L R Y D Z) (Ln:!2 f1 Ki eE iA) (Lo:Df K mg "number_of" f1 Ki eE) :
  FnOk P w K mg base (CX1 P w) 3 f fd fN (az K (k9 Z.W)):=by
 exists vQ
 refine ⟨_,((aP (aI 3 nd (aJ Ln Lo hr.m (ac (aa 0) (ac (db (n:=10) (by rfl) T.c_ROW_FIGURES) af)))) (ai (aH (bY (d9 (bo jt (aa 3) dZ) (d4 (bx (io bL bL (aa 1) (aa 3) (aa 2)))))) (ai (bN T.x_NoRow T.k_NoRow rfl (by rfl) T.mg_NoRow (ac (bM (b6 (aa 0) (bB bI))) af))) aK)))),bp λv hu ts S Q h=>?_⟩
 obtain ⟨x,lo,hi,rfl,hx,hxo,hn,hq⟩:=h
 ac_nf
 ext
 refine qo 10 (by decide) hx ?_
 unfold nin at hn
 unfold nbT
 cases hb:nbB 10 x with
 |false =>
  rw [if_neg (by decide)]
  ext
  refine ifT (ifT ?_)
  ext
  refine ⟨x,rfl,hx,hxo,?_⟩
  ext
  exact ⟨Nat.le_of_ble_eq_true rfl,.mk hq⟩
 |true =>
  rw [hb,Bool.true_and] at hn
  rw [if_pos rfl]
  ext
  refine ifF ?_
  ext
  cases h1:decide (lo<=vl x) with
  |false =>
   ext
   refine ⟨x,rfl,hx,hxo,?_⟩
   ext
   exact ⟨Nat.le_of_ble_eq_true rfl,.mk hq⟩
  |true =>
   rw [h1,Bool.true_and] at hn
   ext
   rw [hn]
   ext
   refine ⟨x,rfl,hx,hxo,?_⟩
   ext
   exact ⟨Nat.le_of_ble_eq_true rfl,.mk hq⟩
def caw (x:Str):Option (Int×Str):=match oc x with
 |[]=>none
 |i::_=>if nin (bef x i) 0 1000000000 then some (vl (bef x i),aft x i) else none
theorem JX {x:Str}(h:oc x=[]):caw x=none:=by unfold caw;rw [h]
theorem vA {x:Str}{i:Nat}{l:List Nat}(h:oc x=i::l):caw x=if nin (bef x i) 0 1000000000 then some (vl (bef x i),aft x i) else none:=by unfold caw;rw [h]
theorem vN:FnScope ["text","sides"] ["text"] (aj jJ):=⟨rfl,rfl,rfl,by decide +kernel,rfl,by decide +kernel,by decide +kernel⟩
def sP (X:Addr):aU:=λts S R=>∃ x,ts=[.str x]/\x.length<=1000/\PyData.strOk x=true/\caw x=none/\R (X,none) S
theorem F9 (F:!"count_and_word" jJ) (T:Txt K mg C L R Y D Z) (KP:FnOk P w K mg base (CX1 P w) 3 f1 Ki fN (az K (k9 Z.W))) (KQ:Df K mg "number_within" f1 Ki fN) :
  FnOk P w K mg base (CX1 P w) 4 f fd ["text"] (az K (sP Z.W)):=by
 exists vN
 refine ⟨_,((aP (aI 1 nd (c5 PySem.F.plainAttrs_str PySem.F.slot_str_partition PySem.F.type_str_partition iS (aa 0) (ac aw af))) (bd (ai (aH (aq hr (aE (aa 1) ae) aw) (ai (bN T.x_NoRow T.k_NoRow rfl (by rfl) T.mg_NoRow (ac (bM (bB (b6 (aa 0) bI))) af))) aK)) (aP (ax (aq hr (aE (aa 1) ae) aw) (am bT) ay) (ai (mU (FJ (lJ (bU KP KQ hr.m (by rfl) (ac (aE (aa 1) ae) (ac ae (ac (db (n:=1000000000) (by rfl) T.c_MOST_COUNT) af)))))))))))),bp λv hu ts S Q h=>?_⟩
 obtain ⟨x,rfl,hx,hxo,hc,hq⟩:=h
 ac_nf
 ext
 refine iT (by decide) hx ?_
 cases ho:oc x with
 |nil =>
  rw [ji ho]
  refine bg (bn ?_)
  ext
  refine a8 rfl ?_
  ext
  refine ⟨x,rfl,hx,hxo,?_⟩
  ext
  exact ⟨Nat.le_of_ble_eq_true rfl,.mk hq⟩
 |cons i l =>
  have hb:=rD x i
  rw [vA ho] at hc
  cases hn:nin (bef x i) 0 1000000000 with
  |true=>rw [hn] at hc;cases hc
  |false =>
   rw [gX ho]
   dsimp only
   refine bb (aZ ?_)
   ext
   refine aM (by decide) ?_
   ext
   exact ⟨_,_,_,rfl,by omega,qm hxo,hn,.mk hq⟩
def wl (ms:Ms) (n:Int):List Rt:=(srt Ky.s (ms.map (·.1))).map λz=>(z,wrt ((look ms z).getD (0,0)) n)
theorem IC {l l':List Str}(hn:l.Nodup) (p:l'.Perm l) (h:l'.Pairwise λa b=>Ky.lt (.s b) (.s a)=false):l'=srt Ky.s l:=sO (k0:=.s "") (λ_=>rfl) (λa b h=>by cases h;rfl) hn p h
theorem ul {ms:Ms}{n:Int}{l:List Rt}(nd:(ms.map (·.1)).Nodup) (p:l.Perm (ms.map λa=>(a.1,wrt a.2 n))) (r:jA l):l=wl ms n:=by
 have e:l.map (·.1)=srt Ky.s (ms.map (·.1)):=IC nd (by have:=p.map (·.1);rw [List.map_map] at this;exact this) r
 unfold wl
 rw [<- e,List.map_map]
 refine (List.map_id l).symm.trans (List.map_congr_left λa ha=>?_)
 obtain ⟨x,hx,rfl⟩:=List.mem_map.mp (p.mem_iff.mp ha)
 show (x.1,wrt x.2 n)=(x.1,wrt ((look ms x.1).getD (0,0)) n)
 rw [Cy nd hx]
 rfl
noncomputable def lis (zs:List Str):Str:=if zs.isEmpty then "none" else PySem.Txt.join ", " zs
def lU:WSp:=λts S Q=>∃ zs:List Str,ts=[.lst (zs.map T2.T.str)]/\JoinOk ", " zs=true/\Q (.str (lis zs)) S
theorem qp {S:Sto}{Q:T->Sto->Prop}{zs:List Str}(h0:JoinOk ", " zs=true) (h:Q (.str (lis zs)) S):lU ([.lst (zs.map T2.T.str)]++[]) S Q:=⟨zs,rfl,h0,h⟩
theorem y6:FnScope ["texts"] ["texts"] (aj lf):=⟨rfl,rfl,rfl,by decide +kernel,rfl,by decide +kernel,by decide +kernel⟩
theorem y7 (F:!"listed" lf) (T:Txt K mg C L R Y D Z):!1 f fd ["texts"] lU:=by
 exists y6
 refine ⟨_,((am (aG (ja (qe rfl (aa 0)) (c5 PySem.F.plainAttrs_str PySem.F.slot_str_join PySem.F.type_str_join (rY rfl) aw (ac (aa 0) af)) aw)))),aD λv hu ts S Q h=>?_⟩
 obtain ⟨zs,rfl,hj,hq⟩:=h
 ac_nf
 ext
 cases zs with
 |nil =>
  ext
  exact .mk hq
 |cons z zs =>
  ext
  refine ifT ?_
  ext
  refine qM (Tm.qd _) hj ?_
  exact .mk hq
def ttx (n:Int) (z:Str) (b:Bool):Str:=Str.empty++Str.ofString (toString n)++Str.ofString " " ++ z++Str.ofString " " ++ (if b then Str.ofString "own" else Str.ofString "house")
def vB:WSp:=λts S Q=>∃ (n:Int) (z:Str) (b:Bool),ts=[.int n,.str z,.bl b]/\n.natAbs.log2<1920/\z.length<=1000/\Q (.str (ttx n z b)) S
theorem wQ:FnScope ["number","word","own","layer"] jz (aj kq):=⟨rfl,rfl,rfl,by decide +kernel,rfl,by decide +kernel,by decide +kernel⟩
theorem ID (F:!"told_text" kq) (T:Txt K mg C L R Y D Z):!1 f fd jz vB:=by
 exists wQ
 refine ⟨_,((ak (aI 3 nd (ja (bj (aa 2)) aw aw)) (am (aG (bM (dX (aa 0) (bB (dX (aa 1) (bB (dX (aa 3) bI)))))))))),aD λv hu ts S Q h=>?_⟩
 obtain ⟨n,z,b,rfl,hn,hz,hq⟩:=h
 unfold ttx at hq
 ac_nf
 cases b<;>(
  ext
  refine ⟨_,.inl ⟨n,rfl,hn,rfl⟩,?_⟩
  ext
  refine ⟨_,.inr ⟨rfl,hz⟩,?_⟩
  ext
  refine ⟨_,.inr ⟨rfl,by decide⟩,?_⟩
  ext
  exact .mk hq)
theorem on {z:Str}(h:Wm.Wd z=true):z.length<=1000:=by have:=of_decide_eq_true (Bool.and_eq_true_iff.mp h).1;omega
theorem lg {i:Int}(h0:0<=i) (h:i<=10 ^ 12):i.natAbs.log2<1920:=by
 by_cases e:i.natAbs=0
 ·rw [e];decide
 ·exact (Nat.log2_lt e).mpr (Nat.lt_of_le_of_lt (show i.natAbs<=10 ^ 12 by omega) (by decide +kernel))
theorem F' {m:Int×Int}{n:Int}(h0:0<=m.1) (h:m.1<=10 ^ 11):(wrt m n).natAbs.log2<1920:=by
 have h1:0<=wrt m n:=Int.ediv_nonneg h0 (Int.le_of_lt (Int.pow_pos (by decide)))
 have h2:wrt m n<=m.1:=Int.ediv_le_self _ h0
 exact lg h1 (by omega)
def wtx (a:Rt):Str:=Str.empty++Str.ofString (toString a.2)++Str.ofString " " ++ a.1
def vC (C:Addr):WSp:=λts S Q=>∃ p d n ms,ts=[.ref p]/\Wo C S p d n ms/\Mo n ms/\(∀ a∈ms,0<=a.2.1/\a.2.1<=10 ^ 11)/\((wl ms n).Perm (ms.map λa=>(a.1,wrt a.2 n))->Q (.lst (((wl ms n).map wtx).map T2.T.str)) S)
theorem wH:FnScope ["wood"] ["wood"] (aj kh):=⟨rfl,rfl,rfl,by decide +kernel,rfl,by decide +kernel,by decide +kernel⟩
theorem IE (F:!"wood_texts" kh) (T:Txt K mg C L R Y D Z)
  (Kq:!4 f1 Ki vv1 (iz C)) (Kr:Meth K C "words" f1) (Ks:ap K Ki vv1 []):!5 f fd ["wood"] (vC C):=by
 exists wH
 refine ⟨_,((am (aG (c9 false ["word","worth"] 2 [] rfl (eQ rfl (cy (T.gf Kr) Kq Ks hr.m (aa 0))) (λ_ _ _ _=>(eZ (λh=>eO (n:=2) rfl rfl h) (cr (bq 0 (show List.Nodup (["word","worth"]:List Str) from by decide +kernel)) (cr (bq 1 (show List.Nodup (["word","worth"]:List Str) from by decide +kernel)) eP (λh1 h2=>cq h1 h2)) (λh1 h2=>cq h1 h2)))) (λ_ _ _ _=>c6) (λ_ _ _ _=>(bM (dX (aa 1) (bB (dX (aa 0) bI))))))))),aD λv hu ts S Q h=>?_⟩
 obtain ⟨p,d,n,ms,rfl,W,hm,hb,hq⟩:=h
 have hw:=W.ins
 ac_nf
 ext
 refine ⟨p,d,n,ms,rfl,W,hm.len,hm.old,hm.nd,hm.wd,λl hl LZ=>?_⟩
 have el:=ul hm.nd hl LZ
 ext
 dsimp only
 refine kO (ls:=l) rt (λa=>some (.str (wtx a))) [] ?_ (by rw [sizeLine_eq];have h1:=hl.length_eq;have:=hm.len;rw [List.length_map] at h1;omega) (λa ha u v J9 N Lc hN=>?_) ?_
 ·trivial
 ·obtain ⟨x,hx,rfl⟩:=List.mem_map.mp (hl.mem_iff.mp ha)
  unfold rt
  ext
  refine ⟨_,.inl ⟨_,rfl,F' (hb x hx).1 (hb x hx).2,rfl⟩,?_⟩
  ext
  refine ⟨_,.inr ⟨rfl,on (hm.wd x hx)⟩,?_⟩
  ext
  exact ⟨Lc,hN _ _⟩
 ·rw [el] at hl
  rw [el,show (wl ms n).filterMap (λa=>some (T2.T.str (wtx a)))=((wl ms n).map wtx).map T2.T.str by rw [List.map_map,<- List.filterMap_eq_map];rfl]
  ext
  exact .mk (hq hl)
def dkO (D h y u:Addr):O:=.ins D [("house",.ref h),("layers",.ref y),("typist",.ref u)]
abbrev dl (D:Addr) (B:Cs) (A:Ad) (k:Addr) (m:Int) (a:Ab):List (Addr×O):=lay B A m a++[(k,dkO D A.h A.y A.u)]
theorem At.dk {D k:Addr}{B:Cs}{A:Ad}{m:Int}{a:Ab}{S:Sto}(h:At S (dl D B A k m a)):S k=some (dkO D A.h A.y A.u):=h.get 10 rfl
abbrev ab0:Ab:=⟨0,0,0,[],[],[],[],"",[]⟩
theorem mo0:Mo 0 []:=⟨Nat.zero_le _,(λ_ h=>nomatch h),List.nodup_nil,(λ_ h=>nomatch h)⟩
theorem ok0:Ok 0 0 0 [] [] []:=⟨mo0,mo0,Nat.le_of_ble_eq_true rfl,⟨Nat.zero_le _,λ_ h=>nomatch h⟩⟩
theorem nV {z:Str}(h:Wm.Wd z=true):z.length<=24:=of_decide_eq_true (Bool.and_eq_true_iff.mp h).1
theorem ifN {p A C:Prop}[Decidable p] (hT:p->A) (hF:¬p->C):if (false ^^ decide p)=true then A else C:=by
 by_cases h:p
 ·exact a8 h (hT h)
 ·exact aM h (hF h)
theorem vO:FnScope vv6 vv6 (aj jK):=⟨rfl,rfl,rfl,by decide +kernel,rfl,by decide +kernel,by decide +kernel⟩
def vD (D:Addr) (B:Cs):WSp:=λts S Q=>∃ A k r,ts=[.ref k,.str r]/\At S (dl D B A k 3 ab0)/\(r="told" \/ r="house")/\Q (.str "none") S
theorem IF (F:!"say_alone" "Desk.say_alone" jK) (T:Txt K mg C L R Y D Z)
  (Kl:!7 f1 Ki vv1 (iZ C L R Y)) (Km:Meth K Y "told" f1) (Kn:ap K Ki vv1 [])
  (Op:!1 f6 Qk ["texts"] lU) (Oq:Df K mg "listed" f6 Qk ["texts"])
  (Ot:!1 f7 Ql jz vB) (Ou:Df K mg "told_text" f7 Ql jz)
  (NU:!5 f8 Rg ["wood"] (vC C)) (NV:Df K mg "wood_texts" f8 Rg ["wood"]):!8 f fd vv6 (vD D ⟨C,L,R,Y⟩):=by
 exists vO
 refine ⟨_,((ak (ax (aq hr (aa 1) aw) (am (aG (aJ Op Oq hr.m (ac (c9 false ["number","one"] 2 [] rfl (qY rfl (by rfl) T.enumerate (cy (T.gu Km) Kl Kn hr.m (aL T.gdt (aa 0)))) (λ_ _ _ _=>(eZ (λh=>eO (n:=2) rfl rfl h) (cr (bq 0 (show List.Nodup (["number","one"]:List Str) from by decide +kernel)) (cr (bq 1 (show List.Nodup (["number","one"]:List Str) from by decide +kernel)) eP (λh1 h2=>cq h1 h2)) (λh1 h2=>cq h1 h2)))) (λ_ _ _ _=>c6) (λ_ _ _ _=>(aJ Ot Ou hr.m (ac (aa 0) (ac (aE (aa 1) ae) (ac (aE (aa 1) ae) af)))))) af)))) ay) (ak (ax (aq hr (aa 1) aw) (am bT) ay) (ak (ax (aq hr (aa 1) aw) (am (aG (aJ Op Oq hr.m (ac (aJ NU NV hr.m (ac (aL T.gdh (aa 0)) af)) af)))) ay) (ak bT (am bT)))))),aD λv hu ts S Q h=>?_⟩
 obtain ⟨A,k,r,rfl,hA,hr1,hq⟩:=h
 have hk:=hA.dk
 unfold dkO at hk
 have hL:=hA.left
 have iu:=hL.tp.ty
 unfold tyO at iu
 ac_nf
 ext
 rcases hr1 with rfl|rfl
 ·refine a8 rfl ?_
  ext
  refine ⟨_,_,_,_,_,_,_,_,_,_,_,_,_,_,_,_,_,_,_,_,rfl,hL.tp,ok0,by decide,λp=>?_⟩
  have e:tld (ab0.ps) 0 (lst ab0.ln) (bD ab0.hs ab0.ms ab0.vs 0 0 ab0.x) 3=[]:=by
   unfold tld
   rw [List.perm_nil.mp p];rfl
  rw [show tld ab0.ps ab0.i (lst ab0.ln) (bD ab0.hs ab0.ms ab0.vs ab0.k ab0.n ab0.x) 3=[] from e]
  refine ⟨[],rfl,trivial,?_⟩
  ext
  refine qp (zs:=[]) rfl ?_
  exact .mk hq
 ·refine aM (by decide) ?_
  ext
  refine aM (by decide) ?_
  ext
  refine a8 rfl ?_
  ext
  refine ⟨_,_,_,_,rfl,hL.wh,mo0,(λ_ h=>nomatch h),λp=>?_⟩
  rw [List.perm_nil.mp p]
  ext
  refine qp (zs:=[]) rfl ?_
  exact .mk hq
theorem oZ:FnScope ["self","row","sides"] vv6 (aj ii):=⟨rfl,rfl,rfl,by decide +kernel,rfl,by decide +kernel,by decide +kernel⟩
def uo (D:Addr) (B:Cs):WSp:=λts S Q=>∃ A k r,ts=[.ref k,.str r]/\At S (dl D B A k 3 ab0)/\(r="told" \/ r="house")/\Q (.str "none") S
theorem Ga (F:!"say" "Desk.say" ii) (T:Txt K mg C L R Y D Z)
  (Mb:!8 f1 Ki vv6 (vD D ⟨C,L,R,Y⟩)) (Mc:Meth K D "say_alone" f1) (Me:ap K Ki vv6 []):!9 f fd vv6 (uo D ⟨C,L,R,Y⟩):=by
 exists oZ
 refine ⟨_,((ak (aI 2 nd (c5 PySem.F.plainAttrs_str PySem.F.slot_str_partition PySem.F.type_str_partition iS (aa 1) (ac aw af))) (ak (ax (aq hr (aE (aa 2) ae) aw) (am (aG (bP (T.gd Mc) Mb Me hr.m (aa 0) (ac (aa 1) af)))) ay) (am bT)))),aD λv hu ts S Q h=>?_⟩
 obtain ⟨A,k,r,rfl,hA,hr1,hq⟩:=h
 have hk:=hA.dk
 unfold dkO at hk
 have hl:r.length<=1000:=by rcases hr1 with rfl|rfl<;>decide
 have ho:oc r=[]:=by rcases hr1 with rfl|rfl<;>decide +kernel
 ac_nf
 ext
 refine iT (by decide) hl ?_
 rw [ji ho]
 ext
 refine a8 rfl ?_
 ext
 exact ⟨A,k,r,rfl,hA,hr1,.mk hq⟩
theorem wt:FnScope ["self","name","rest","counted"] dA (aj j9):=⟨rfl,rfl,rfl,by decide +kernel,rfl,by decide +kernel,by decide +kernel⟩
def sQ (W:Addr):aU:=λts S R=>∃ k r,ts=[.ref k,.str "put",.str r]/\r.length<=1000/\PyData.strOk r=true/\caw r=none/\R (W,none) S
theorem Gc (F:!"change" "Desk.change" j9) (T:Txt K mg C L R Y D Z)
  (La:FnOk P w K mg base (CX1 P w) 4 f9 fd9 ["text"] (az K (sP Z.W))) (Lb:Df K mg "count_and_word" f9 fd9 ["text"]):FnOk P w K mg base (CX1 P w) 5 f fd dA (az K (sQ Z.W)):=by
 exists wt
 refine ⟨_,((ai (aH (aq hr (aa 1) aw) (ai (mV (bU La Lb hr.m (by rfl) (ac (aa 2) af)))) (ai (aH (aq hr (aa 1) aw) (ai (mV (bU La Lb hr.m (by rfl) (ac (aa 2) af)))) (ai (aH (aq hr (aa 1) aw) aK (ai (aH (aq hr (aa 1) aw) aK (ai (aH (aq hr (aa 1) aw) aK (ai (aH (aq hr (aa 1) aw) aK (ai (aH (aq hr (aa 1) aw) aK (ai (aH (aq hr (aa 1) aw) aK (ai (bN T.x_NoRow T.k_NoRow rfl (by rfl) T.mg_NoRow (ac (bM (b6 (aa 1) (bB bI))) af)))))))))))))))))))),bp λv hu ts S Q h=>?_⟩
 obtain ⟨k,r,rfl,hr1,LZ,hc,hq⟩:=h
 ac_nf
 ext
 refine a8 rfl ?_
 ext
 exact ⟨r,rfl,hr1,LZ,hc,.mk hq⟩
theorem vR:FnScope dA dA (aj jP):=⟨rfl,rfl,rfl,by decide +kernel,rfl,by decide +kernel,by decide +kernel⟩
def Nr (n r:Str):Prop:=n="take" /\ nin r 0 9999999999=false\/n="put" /\ caw r=none
def sR (D W:Addr) (B:Cs):aU:=λts S R=>∃ A k n r,ts=[.ref k,.str n,.str r]/\At S (dl D B A k 3 ab0)/\Tx r/\Nr n r/\R (W,none) S
theorem Gd (F:!"say_with" "Desk.say_with" jP) (T:Txt K mg C L R Y D Z)
  (KN:Meth K Y "take" f3)
  (Ni:FnOk P w K mg base (CX1 P w) 5 f4 Qj dA (az K (sQ Z.W))) (Nj:Meth K D "change" f4) (Nk:ap K Qj dA [])
  (KP:FnOk P w K mg base (CX1 P w) 3 f5 Rh fN (az K (k9 Z.W))) (KQ:Df K mg "number_within" f5 Rh fN):FnOk P w K mg base (CX1 P w) 6 f fd dA (az K (sR D Z.W ⟨C,L,R,Y⟩)):=by
 exists vR
 refine ⟨_,((aP (ax (aq hr (aa 1) aw) aO ay) (bd (ai (aH (aq hr (aa 1) aw) (ai (mU (Ax (T.gu KN) (aL T.gdt (aa 0)) (lJ (bU KP KQ hr.m (by rfl) (ac (aa 2) (ac ae (ac (db (n:=9999999999) (by rfl) T.c_MOST_NUMBER) af)))))))) aK)) (aP (ax (aq hr (aa 1) aw) aO ay) (ai (aY (bA (T.gd Nj) Ni Nk hr.m (aa 0) (ac (aa 1) (ac (aa 2) af))))))))),bp λv hu ts S Q h=>?_⟩
 obtain ⟨A,k,n,r,rfl,hA,⟨hr1,LZ⟩,he,hq⟩:=h
 have hk:=hA.dk
 unfold dkO at hk
 have iu:=hA.left.tp.ty
 unfold tyO at iu
 ac_nf
 rcases he with ⟨rfl,hn⟩|⟨rfl,hn⟩
 ·ext
  refine aM (by decide) ?_
  ext
  refine bg (bn ?_)
  ext
  refine a8 rfl ?_
  ext
  exact ⟨r,_,_,rfl,hr1,LZ,hn,.mk hq⟩
 ·ext
  refine aM (by decide) ?_
  ext
  refine bb (aZ ?_)
  ext
  refine aM (by decide) ?_
  ext
  exact ⟨k,r,rfl,hr1,LZ,hn,.mk hq⟩
def sS (D W:Addr) (B:Cs):aU:=λts S R=>∃ A k r i l,ts=[.ref k,.str r]/\At S (dl D B A k 3 ab0)/\Tx r/\oc r=i::l/\Nr (bef r i) (aft r i)/\R (W,none) S
theorem Ge (F:!"say" "Desk.say" ii) (T:Txt K mg C L R Y D Z)
  (Ml:FnOk P w K mg base (CX1 P w) 6 f2 Lw dA (az K (sR D Z.W ⟨C,L,R,Y⟩))) (Mm:Meth K D "say_with" f2) (Mp:ap K Lw dA []):FnOk P w K mg base (CX1 P w) 7 f fd vv6 (az K (sS D Z.W ⟨C,L,R,Y⟩)):=by
 exists oZ
 refine ⟨_,((aP (aI 2 nd (c5 PySem.F.plainAttrs_str PySem.F.slot_str_partition PySem.F.type_str_partition iS (aa 1) (ac aw af))) (aP (ax (aq hr (aE (aa 2) ae) aw) aO ay) (ai (mU (bA (T.gd Mm) Ml Mp hr.m (aa 0) (ac (aE (aa 2) ae) (ac (aE (aa 2) ae) af)))))))),bp λv hu ts S Q h=>?_⟩
 obtain ⟨A,k,r,i,l,rfl,hA,⟨hr1,LZ⟩,ho,he,hq⟩:=h
 have hk:=hA.dk
 unfold dkO at hk
 ac_nf
 ext
 refine iT (by decide) hr1 ?_
 rw [gX ho]
 ext
 refine aM (by decide) ?_
 ext
 exact ⟨A,k,_,_,rfl,hA,⟨Nat.le_trans (rE r i) hr1,qm LZ⟩,he,.mk hq⟩
section
variable {C:Addr}{S S':Sto}{l l' nw:List (Addr×O)}{p d v y t q g c:Addr}{o u:O}
theorem At.grow (h:At S l) (nd:(nw.map (·.1)).Nodup) (hn:∀ x∈nw,S x.1=none) (hv:∀ x∈nw,S' x.1=some x.2) (k:∀ a o,S a=some o->S' a=some o):At S' (nw++l):=by
 refine ⟨List.map_append ▸ List.nodup_append.mpr ⟨nd,h.nd,λa ha b hb e=>?_⟩,λx hx=>?_⟩
 ·obtain ⟨x,hx,rfl⟩:=List.mem_map.mp ha
  obtain ⟨y,hy,rfl⟩:=List.mem_map.mp hb
  exact cX (h.is y hy) (hn x hx) e.symm
 ·rcases List.mem_append.mp hx with q|q
  ·exact hv x q
  ·exact k _ _ (h.is x q)
theorem At.four {a b c e:Addr}{oa ob oc oe:O}(h:At S l) (ha:S a=none) (ga:S' a=some oa) (gb:S' b=some ob) (gc:S' c=some oc) (ge:S' e=some oe) (nb:T2.put S a u b=none) (nc:T2.put S a u c=none) (ne:T2.put S a u e=none) (bc:b≠c) (be:b≠e) (ce:c≠e)
  (k:∀ x o,T2.put S a u x=some o->x≠a->S' x=some o):At S' ([(a,oa),(b,ob),(c,oc),(e,oe)]++l):=by
 obtain ⟨b1,b2⟩:=bS nb
 obtain ⟨c1,c2⟩:=bS nc
 obtain ⟨e1,e2⟩:=bS ne
 refine h.grow ?_ ?_ ?_ λx o hx=>k x o ((av (cX hx ha)).trans hx) (cX hx ha)
 ·simp only [List.map_cons,List.map_nil,List.nodup_cons,List.mem_cons,List.not_mem_nil,or_false,not_or]
  exact ⟨⟨Ne.symm b1,Ne.symm c1,Ne.symm e1⟩,⟨bc,be⟩,ce,not_false,List.nodup_nil⟩
 ·intro x hx
  simp only [List.mem_cons,List.not_mem_nil,or_false] at hx
  rcases hx with rfl|rfl|rfl|rfl<;>assumption
 ·intro x hx
  simp only [List.mem_cons,List.not_mem_nil,or_false] at hx
  rcases hx with rfl|rfl|rfl|rfl<;>assumption
theorem At.wood (hA:At S l) (h1:S p=none) (h2:T2.put S p (.ins C []) d=none):At (T2.put (T2.put (T2.put S p (.ins C [])) d (.dK [])) p o) ((d,.dK [])::(p,o)::l):=((hA.cons h1).cons h2).put 1 rfl
end
def Kp (S:Sto) (k:Addr) (S':Sto):Prop:=∀ b o,S b=some o->b≠k->S' b=some o
theorem Kp.at_ {S S':Sto}{k:Addr}{o:O}(h:Kp S k S'):Kp S k (T2.put S' k o):=λb u e n=>(av n).trans (h b u e n)
theorem Kp.new {S S':Sto}{k p:Addr}{o:O}(h:Kp S k S') (h1:S' p=none):Kp S k (T2.put S' p o):=λb u e n=>(av (cX (h b u e n) h1)).trans (h b u e n)
theorem Kp.again {S S':Sto}{k p:Addr}{o o2:O}(h:Kp S k S') (h1:S' p=none) (S2:Sto) (h2:Kp (T2.put S' p o) k S2):Kp S k (T2.put S2 p o2):=λb u e n=>by
 have nb:=cX (h b u e n) h1
 rw [av nb]
 exact h2 b u ((av nb).trans (h b u e n)) n
theorem Kp.of {S S' S2:Sto}{k y:Addr}{o:O}(h:Kp S k S') (h1:S' y=none) (h2:∀ b u,T2.put S' y o b=some u->b≠y->S2 b=some u):Kp S k S2:=λb u e n=>by
 have nb:=cX (h b u e n) h1
 exact h2 b u ((av nb).trans (h b u e n)) nb
def rF (D:Addr) (B:Cs):WSp:=λts S Q=>∃ k m,ts=[.ref k,.int m]/\S k=some (.ins D [])/\∀ S' A,At S' (dl D B A k m ab0)->Kp S k S'->Q .non S'
theorem wR:FnScope ["self","many"] ["self","many"] (aj kr):=⟨rfl,rfl,rfl,by decide +kernel,rfl,by decide +kernel,by decide +kernel⟩
theorem AN (F:!"__init__" "Desk.__init__" kr) (T:Txt K mg C L R Y D Z)
  (Ke:!1 f1 Ki vv1 (gL C)) (LK:Mk K C f1) (Kf:ap K Ki vv1 [])
  (Kt:!3 f2 Lw eF (mF C L)) (MP:Mk K L f2) (Ku:ap K Lw eF [])
  (Kv:!3 f3 OC eD (mG Y R)) (MQ:Mk K Y f3) (Kw:ap K OC eD []):!5 f fd ["self","many"] (rF D ⟨C,L,R,Y⟩):=by
 exists wR
 refine ⟨_,((ak (bV rfl T.gdh (aa 0) (gz LK Ke Kf hr.m (by rfl) T.mg_Wood)) (ak (bV rfl T.gdl (aa 0) (gH MP Kt Ku hr.m (by rfl) T.mg_Layers (ac (aL T.gdh (aa 0)) af))) (am (bV rfl T.gdt (aa 0) (gH MQ Kv Kw hr.m (by rfl) T.mg_Typist (ac (aL T.gdl (aa 0)) (ac (aa 1) af)))))))),aD λv hu ts S Q h=>?_⟩
 obtain ⟨k,m,rfl,hk,hq⟩:=h
 have hA:At S [(k,.ins D [])]:=⟨by simp,by simpa using hk⟩
 have hF:Kp S k S:=λ_ _ h _=>h
 ac_nf
 ext
 intro h0 hh0
 refine ⟨h0,rfl,aA,λe0 he0=>?_⟩
 have hA:=hA.wood (o:=woO C e0 0) hh0 he0
 have hF:=hF.again (o2:=woO C e0 0) hh0 _ (Kp.new (o:=.dK []) (λ_ _ h _=>h) he0)
 unfold woO at hA hF
 generalize put (put (put S h0 _) e0 _) h0 _=S1 at hA hF ⊢
 clear hh0 he0
 refine ⟨rfl,?_⟩
 have g:=hA.get 2 rfl
 ext
 have hA:=hA.put (o':=.ins D (bR (Str.ofString "house") (.ref h0) [])) 2 rfl
 have hF:=hF.at_ (o:=.ins D (bR (Str.ofString "house") (.ref h0) []))
 generalize put S1 k _=S2 at hA hF ⊢
 clear g
 intro y0 hy0
 refine ⟨y0,h0,rfl,aA,λS3 p0 d0 v0 gy gp gv dv np nd1 nv kp=>⟨rfl,?_⟩⟩
 have hA:=hA.four hy0 gy gp.ins gp.dct gv np nd1 nv gp.ne (di gp.ins gv (by simp)) dv kp
 have hF:=hF.of hy0 kp
 clear hy0 gy gp gv dv np nd1 nv kp
 have g:S3 k=some (.ins D [("house",.ref h0)]):=hA.get 6 rfl
 ext
 have hA:=hA.put (o':=.ins D (bR (Str.ofString "layers") (.ref y0) [("house",.ref h0)])) 6 rfl
 have hF:=hF.at_ (o:=.ins D (bR (Str.ofString "layers") (.ref y0) [("house",.ref h0)]))
 generalize put S3 k _=S4 at hA hF ⊢
 clear g
 intro t0 ht0
 refine ⟨t0,y0,m,rfl,aA,λS5 q0 g0 c0 gt gq gg gc kp nq ng nc=>⟨rfl,?_⟩⟩
 have hA:=hA.four ht0 gt gq gg gc nq ng nc (di gq gg (by unfold prO;simp)) (di gq gc (by unfold prO;simp)) (di gg gc (by simp)) kp
 have hF:=hF.of ht0 kp
 clear ht0 gt gq gg gc kp nq ng nc
 have g:S5 k=some (.ins D [("house",.ref h0),("layers",.ref y0)]):=hA.get 10 rfl
 ext
 have hA:=hA.put (o':=dkO D h0 y0 t0) 10 rfl
 have hF:=hF.at_ (o:=dkO D h0 y0 t0)
 refine .mk (hq _ ⟨h0,e0,y0,p0,d0,v0,t0,q0,g0,c0⟩ (hA.pick [9,8,4,5,6,7,0,1,2,3,10] (by decide) rfl) hF)
def uq (C:Addr):WSp:=λts S Q=>∃ p d n,ts=[.ref p]/\S p=some (.ins C [("marks",.ref d),("now",.int n)])/\Q (.int n) S
theorem xq:FnScope vv1 vv1 (aj kG):=⟨rfl,rfl,rfl,by decide +kernel,rfl,by decide +kernel,by decide +kernel⟩
theorem Gf (F:!"era" "Wood.era" kG) (T:Txt K mg C L R Y D Z):!1 f fd vv1 (uq C):=by
 exists xq
 refine ⟨_,((am (aG (aL T.gn (aa 0))))),aD λv hu ts S Q h=>?_⟩
 obtain ⟨p,d,n,rfl,hw,hq⟩:=h
 ac_nf
 ext
 exact .mk hq
def ur (C L:Addr):WSp:=λts S Q=>∃ y h e p d v k n hs ms vs,ts=[.ref y]/\Ly C L S y h e p d v k n hs ms vs/\Mo n ms/\∀ l:List Rt,l.Perm (ms.map λa=>(a.1,wrt a.2 n))->jA l->Q (.lst (l.map rt)) S
theorem vK:FnScope vv1 vv1 (aj jG):=⟨rfl,rfl,rfl,by decide +kernel,rfl,by decide +kernel,by decide +kernel⟩
theorem Gg (F:!"own_words" "Layers.own_words" jG) (T:Txt K mg C L R Y D Z)
  (Kq:!4 f1 Ki vv1 (iz C)) (Kr:Meth K C "words" f1) (Ks:ap K Ki vv1 []):!5 f fd vv1 (ur C L):=by
 exists vK
 refine ⟨_,((am (aG (cy (T.gf Kr) Kq Ks hr.m (aL T.go (aa 0)))))),aD λv hu ts S Q hh=>?_⟩
 obtain ⟨y,h,e,p,d,v,k,n,hs,ms,vs,rfl,hL,hM,hq⟩:=hh
 have hy:=hL.ins
 have hp:=hL.wp.ins
 ac_nf
 ext
 refine ⟨p,d,n,ms,rfl,hL.wp,hM.len,hM.old,hM.nd,hM.wd,λl hlp hlr=>?_⟩
 ext
 exact .mk (hq l hlp hlr)
def qq (C L:Addr):WSp:=λts S Q=>∃ y h e p d v k n hs ms vs,ts=[.ref y]/\Ly C L S y h e p d v k n hs ms vs/\vs.length<64/\∀ zs:List Str,zs.Perm (vs.map (·.1))->zs.Pairwise (λx y=>Ky.lt (.s y) (.s x)=false)->Q (.lst (zs.map T2.T.str)) S
theorem vS:FnScope vv1 vv1 (aj jM):=⟨rfl,rfl,rfl,by decide +kernel,rfl,by decide +kernel,by decide +kernel⟩
theorem y8 (F:!"hidden" "Layers.hidden" jM) (T:Txt K mg C L R Y D Z):!4 f fd vv1 (qq C L):=by
 exists vS
 refine ⟨_,((am (aG (aX (B6 w false rfl rfl rfl hr.m) T.sorted PyProof.Rows.boot_sorted (ac (aL T.gv (aa 0)) af))))),aD λv hu ts S Q hh=>?_⟩
 obtain ⟨y,h,e,p,d,v,k,n,hs,ms,vs,rfl,hL,hl,hq⟩:=hh
 have hy:=hL.ins
 ac_nf
 ext
 refine z5 (ns:=vs.map (·.1)) (.inl hL.ve) (by rw [sE];exact hl) (by unfold kt;rw [List.map_map,List.map_map];rfl) λzs hp hs=>?_
 exact .mk (hq zs hp hs)
def ro (x:Str):Option Rt:=match oc x with
 |[]=>none
 |i::_=>if nbB 15 (bef x i)&&Wm.Wd (aft x i) then some (aft x i,vl (bef x i)) else none
theorem ro0 {x:Str}(h:oc x=[]):ro x=none:=by unfold ro;rw [h]
theorem ro1 {x:Str}{i:Nat}{l:List Nat}(h:oc x=i::l):ro x=if nbB 15 (bef x i)&&Wm.Wd (aft x i) then some (aft x i,vl (bef x i)) else none:=by unfold ro;rw [h]
def roT (x:Str):T2.T:=match ro x with
 |none=>.non
 |some p=>rt p
theorem oo {x:Str}(h:ro x=none):roT x=.non:=by unfold roT;rw [h]
theorem oq {x:Str}{p:Rt}(h:ro x=some p):roT x=rt p:=by unfold roT;rw [h]
def lb:WSp:=λts S Q=>∃ x:Str,ts=[.str x]/\x.length<=1000/\Q (roT x) S
theorem pW {S:Sto}{Q:T->Sto->Prop}{x:Str}(h0:x.length<=1000) (h:Q (roT x) S):lb ([.str x]++[]) S Q:=⟨x,rfl,h0,h⟩
theorem xt:FnScope ["text","sides","count"] ["text"] (aj kJ):=⟨rfl,rfl,rfl,by decide +kernel,rfl,by decide +kernel,by decide +kernel⟩
theorem xW (F:!"rated_of" kJ) (T:Txt K mg C L R Y D Z) (Ln:!2 f1 Ki eE iA) (Lo:Df K mg "number_of" f1 Ki eE)
  (Kj:!3 f2 Lw ["thing"] fZ) (Kk:Df K mg "is_word" f2 Lw ["thing"]):!4 f fd ["text"] lb:=by
 exists xt
 refine ⟨_,((ak (aI 1 nd (c5 PySem.F.plainAttrs_str PySem.F.slot_str_partition PySem.F.type_str_partition iS (aa 0) (ac aw af))) (ak (aI 2 nd (aJ Ln Lo hr.m (ac (aE (aa 1) ae) (ac (db (n:=15) (by rfl) T.c_MOST_FIGURES) af)))) (ak (ax (bY (d9 (bo jt (aa 2) dZ) (d4 (bx (bj (aJ Kj Kk hr.m (ac (aE (aa 1) ae) af))))))) (am (aG dZ)) ay) (am (aG (bX (ac (aE (aa 1) ae) (ac (aa 2) af))))))))),aD λv hu ts S Q h=>?_⟩
 obtain ⟨x,rfl,hx,hq⟩:=h
 ac_nf
 ext
 have L5:∃ a m b,Txt.partition x " "=(a,m,b)/\a.length<=1000/\b.length<=1000/\roT x=if nbB 15 a&&Wm.Wd b then rt (b,vl a) else .non:=by
  cases q:oc x with
  |nil=>exact ⟨_,_,_,ji q,hx,by decide,by rw [oo (ro0 q),show Wm.Wd Str.empty=false by decide +kernel,Bool.and_false];rfl⟩
  |cons i l =>
   refine ⟨_,_,_,gX q,Nat.le_trans (rD x i) hx,Nat.le_trans (rE x i) hx,?_⟩
   cases hc:nbB 15 (bef x i)&&Wm.Wd (aft x i) with
   |true=>rw [oq (p:=(aft x i,vl (bef x i))) (by rw [ro1 q,hc];rfl)];rfl
   |false=>rw [oo (by rw [ro1 q,hc];rfl)];rfl
 obtain ⟨a,m,b,e,ha,O2,er⟩:=L5
 rw [er] at hq
 refine iT (by decide) hx ?_
 rw [e]
 dsimp only
 ext
 refine qo 15 (by decide) ha ?_
 unfold nbT
 cases hnb:nbB 15 a with
 |false =>
  rw [hnb] at hq
  ext
  exact .mk hq
 |true =>
  rw [hnb] at hq
  ext
  refine ifF ?_
  ext
  refine ⟨b,rfl,O2,?_⟩
  cases hw:Wm.Wd b with
  |true =>
   rw [hw] at hq
   ext
   exact .mk hq
  |false =>
   rw [hw] at hq
   ext
   exact .mk hq
def rG (XT:Addr):WSp:=λts S Q=>∃ a n,ts=[.ref a,.int n]/\S a=some (.exc XT [])/\0<=n/\n<10 ^ 60+1/\Q .non (put S a (.exc XT [("row",.int n)]))
theorem Gh {n:Int}(h0:0<=n) (h1:n<10 ^ 60+1):n.natAbs.log2<1920:=by
 have:n.natAbs<10 ^ 60+1:=by omega
 by_cases hz:n.natAbs=0
 ·rw [hz];decide
 ·exact (Nat.log2_lt hz).mpr (Nat.lt_of_lt_of_le this (by decide))
theorem wu:FnScope vv6 vv6 (aj jW):=⟨rfl,rfl,rfl,by decide +kernel,rfl,by decide +kernel,by decide +kernel⟩
theorem AO (F:!"__init__" "NoText.__init__" jW) (T:Txt K mg C L R Y D Z):!1 f fd vv6 (rG Z.X):=by
 exists wu
 refine ⟨_,((ak (eY (Ce rfl (by rfl) T.mg_AheadError T.sp T.rd T.fc (ac (aa 0) (ac (bM (bB (dX (aa 1) (bB bI)))) af)))) (am (Fe rfl T.gr (aa 0) (aa 1))))),aD λv hu ts S Q h=>?_⟩
 obtain ⟨a,n,rfl,ha,h0,h1,hq⟩:=h
 ac_nf
 ext
 refine ⟨_,.inl ⟨n,rfl,Gh h0 h1,rfl⟩,?_⟩
 ext
 refine Ch ha T.ex ?_
 ext
 refine Fh ha rfl ?_
 exact .mk hq
theorem sT {S S':Sto}{e:Addr}{o o2:O}(h:Le S S') (he:S' e=none):Le S (dw (put (put S' e o) e o2) e):=λb u q=>by
 have hb:b≠e:=λz=>by rw [z] at q;rw [h e u q] at he;cases he
 rw [mv hb,av hb,av hb];exact h b u q
theorem wS:FnScope ["texts","wood","last","row","text","pair"] ["texts"] (aj ko):=⟨rfl,rfl,rfl,by decide +kernel,rfl,by decide +kernel,by decide +kernel⟩
def rH (X:Addr):aU:=λts S R=>∃ x y p,ts=[.lst [.str x,.str y]]/\x.length<=1000/\y.length<=1000/\ro x=some p/\Wm.Wd p.1=true/\T2.ltS "" p.1=true/\(ro y=none\/∃ q,ro y=some q/\T2.ltS p.1 q.1=false)/\R (X,some 1) S
theorem C3 (F:!"read_wood" ko) (T:Txt K mg C L R Y D Z)
  (MR:!4 f1 Ki ["text"] lb) (MS:Df K mg "rated_of" f1 Ki ["text"])
  (Ke:!1 f6 Qk vv1 (gL C)) (LK:L2.Mk K C f6) (Kf:ap K Qk vv1 [])
  (LL:!4 f7 Ql vv7 (nQ C)) (KI:Meth K C "put" f7) (KJ:ap K Ql vv7 [])
  (LV:!1 Z.I Rg vv6 (rG Z.X)) (LW:ap K Rg vv6 []) :
  FnOk P w K mg base (CX1 P w) 5 f fd ["texts"] (az K (rH Z.X)):=by
 exists wS
 refine ⟨_,((aP (aI 1 nd (gz LK Ke Kf hr.m (by rfl) T.mg_Wood)) (aP (aI 2 nd aw) (ai (Fc ⟨rfl,rfl⟩ rfl (qY rfl (by rfl) T.enumerate (aa 0)) (eZ (λh=>eO (n:=2) rfl rfl h) (cr (bq 3 nd) (cr (bq 4 nd) eP (λh1 h2=>cq h1 h2)) (λh1 h2=>cq h1 h2))) (ak (aI 5 nd (aJ MR MS hr.m (ac (aa 4) af))) (ak (ax (bY (d9 (bo jt (aa 5) dZ) (d4 (bo bL (aE (aa 5) ae) (aa 2))))) (am bT) ay) (ak (aI 2 nd (aE (aa 5) ae)) (am (eY (bP (T.gf KI) LL KJ hr.m (aa 1) (ac (aa 2) (ac (aE (aa 5) ae) af)))))))) (aP (aI 5 nd (aJ MR MS hr.m (ac (aa 4) af))) (ai (aH (bY (d9 (bo jt (aa 5) dZ) (d4 (bo bL (aE (aa 5) ae) (aa 2))))) (ai (yM T.ex T.k_NoText T.fn LV hr.m LW rfl (by rfl) T.mg_NoText (ac (aa 3) af))) aK)))))))),bp λv hu ts S Q h=>?_⟩
 obtain ⟨x,y,pr,rfl,hx,hy,hr1,hwd,P9,LZ,hq⟩:=h
 ac_nf
 ext
 intro p hp0
 refine ⟨p,rfl,aA,λd Qh=>⟨rfl,?_⟩⟩
 obtain ⟨hdp,hd1⟩:=bS Qh
 generalize P1:put (put (put S p (.ins C [])) d (.dK [])) p (.ins C [("marks",.ref d),("now",.int 0)])=S1
 have hp1:S1 p=some (.ins C [("marks",.ref d),("now",.int 0)]):=by rw [<- P1];exact aA
 have hd2:S1 d=some (.dK []):=by rw [<- P1,av hdp];exact aA
 have le1:Le S S1:=by rw [<- P1];exact (Le.refl.chg hp0).chg hd1 |>.chg hp0
 clear P1 Qh
 have hpd:p≠d:=Ne.symm hdp
 ext
 refine ⟨trivial,?_⟩
 ext
 refine .inr ?_
 ext
 refine pW hx ?_
 rw [oq hr1]
 ext
 refine ifF ?_
 ext
 rw [P9]
 ext
 refine ⟨p,d,0,[],pr.1,pr.2,rfl,⟨hp1,hd2⟩,by decide,hwd,rfl,?_⟩
 refine ⟨trivial,?_⟩
 ext
 refine .inl ?_
 ext
 refine pW hy ?_
 have leA:Le S (T2.put S1 d (.dK (kt mkT ([]++[(pr.1,pr.2,0)])))):=le1.chg hd1
 rcases LZ with LZ|⟨q,LZ,hl2⟩
 ·rw [oo LZ]
  ext
  refine ifT ?_
  ext
  exact ⟨(by show 1<=2;decide),λe he=>⟨e,_,rfl,aA,by decide,by decide,rfl,_,aA,.le (sT leA he) hq⟩⟩
 ·rw [oq LZ]
  ext
  refine ifF ?_
  ext
  rw [hl2]
  ext
  exact ⟨(by show 1<=2;decide),λe he=>⟨e,_,rfl,aA,by decide,by decide,rfl,_,aA,.le (sT leA he) hq⟩⟩
theorem vY:FnScope eC eC (aj jT):=⟨rfl,rfl,rfl,by decide +kernel,rfl,by decide +kernel,by decide +kernel⟩
def lc (C XA XB:Addr):aU:=λts S R=>∃ p d n ms b z,ts=[.ref p,.str b,.str z]/\Wo C S p d n ms/\z.length<=1000/\PyData.strOk z=true/\b.length<=1000/\PyData.strOk b=true/\(look ms z=none/\R (XA,none) S\/(∃ m,look ms z=some m)/\PySem.Txt.startswith z b=false/\R (XB,none) S)
theorem y9 (F:!"rated_around" jT) (T:Txt K mg C L R Y D Z)
  (KD:!1 f1 Ki vv0 (jh C)) (KG:Meth K C "has" f1) (KH:ap K Ki vv0 []) :
  FnOk P w K mg base (CX1 P w) 2 f fd eC (az K (lc C Z.A Z.B)):=by
 exists vY
 refine ⟨_,((bd (ai (aH (bx (bj (bP (T.gf KG) KD KH hr.m (aa 0) (ac (aa 2) af)))) (ai (bN T.x_Absent T.k_Absent rfl (by rfl) T.mg_Absent (ac (bM (b6 (aa 2) (bB bI))) af))) aK)) (aP (ax (bx (bj (bP (T.gf KG) KD KH hr.m (aa 0) (ac (aa 2) af)))) (am bT) ay) (ai (aH (bx (bj (c5 PySem.F.plainAttrs_str PySem.F.slot_str_startswith PySem.F.type_str_startswith p9 (aa 2) (ac (aa 1) af)))) (ai (bN T.x_Beside T.k_Beside rfl (by rfl) T.mg_Beside (ac (bM (b6 (aa 2) (bB (b6 (aa 1) bI)))) af))) aK))))),bp λv hu ts S Q h=>?_⟩
 obtain ⟨p,d,n,ms,b,z,rfl,W,hz,Mj,hb,hbo,h⟩:=h
 have hw:=W.ins
 ac_nf
 rcases h with ⟨hm,hq⟩|⟨⟨m,hm⟩,hs,hq⟩
 ·refine bg (bn ?_)
  ext
  refine ⟨p,d,n,ms,z,rfl,W,?_⟩
  rw [hm,Option.isSome_none]
  ext
  refine ⟨z,rfl,hz,Mj,?_⟩
  ext
  exact ⟨Nat.le_of_ble_eq_true rfl,.mk hq⟩
 ·refine bb (aZ ?_)
  ext
  refine ⟨p,d,n,ms,z,rfl,W,?_⟩
  rw [hm,Option.isSome_some]
  ext
  rw [hs]
  ext
  refine ⟨z,rfl,hz,Mj,?_⟩
  ext
  refine ⟨b,rfl,hb,hbo,?_⟩
  ext
  exact ⟨Nat.le_of_ble_eq_true rfl,.mk hq⟩
theorem ww:FnScope ["wood","beginning","word","many","others","best"] vv5 (aj j'):=⟨rfl,rfl,rfl,by decide +kernel,rfl,by decide +kernel,by decide +kernel⟩
def iK (C XA XB:Addr):aU:=λts S R=>∃ p d n ms b z m,ts=[.ref p,.str b,.str z,.int m]/\Wo C S p d n ms/\z.length<=1000/\PyData.strOk z=true/\b.length<=1000/\PyData.strOk b=true/\(look ms z=none/\R (XA,none) S\/(∃ m,look ms z=some m)/\PySem.Txt.startswith z b=false/\R (XB,none) S)
theorem C4 (F:!"uses_needed" j') (T:Txt K mg C L R Y D Z)
  (K3:FnOk P w K mg base (CX1 P w) 2 f1 Ki eC (az K (lc C Z.A Z.B))) (K4:Df K mg "rated_around" f1 Ki eC) :
  FnOk P w K mg base (CX1 P w) 3 f fd vv5 (az K (iK C Z.A Z.B)):=by
 exists ww
 refine ⟨_,((ai (Cb (bU K3 K4 hr.m (by rfl) (ac (aa 0) (ac (aa 1) (ac (aa 2) af))))))),bp λv hu ts S Q h=>?_⟩
 obtain ⟨p,d,n,ms,b,z,m,rfl,W,hz,Mj,hb,hbo,h⟩:=h
 ac_nf
 ext
 refine ⟨p,d,n,ms,b,z,rfl,W,hz,Mj,hb,hbo,?_⟩
 exact h.imp (λzz139=>by obtain ⟨h1,h2⟩:=zz139;exact ⟨h1,.mk h2⟩) λzz138=>by obtain ⟨h1,h2,h3⟩:=zz138;exact ⟨h1,h2,.mk h3⟩
theorem vZ:FnScope ["wood","beginning","word","many","rated","eras"] vv5 (aj jU):=⟨rfl,rfl,rfl,by decide +kernel,rfl,by decide +kernel,by decide +kernel⟩
theorem AQ (F:!"fades_needed" jU) (T:Txt K mg C L R Y D Z)
  (K3:FnOk P w K mg base (CX1 P w) 2 f1 Ki eC (az K (lc C Z.A Z.B))) (K4:Df K mg "rated_around" f1 Ki eC) :
  FnOk P w K mg base (CX1 P w) 3 f fd vv5 (az K (iK C Z.A Z.B)):=by
 exists vZ
 refine ⟨_,((ai (mV (bU K3 K4 hr.m (by rfl) (ac (aa 0) (ac (aa 1) (ac (aa 2) af))))))),bp λv hu ts S Q h=>?_⟩
 obtain ⟨p,d,n,ms,b,z,m,rfl,W,hz,Mj,hb,hbo,h⟩:=h
 ac_nf
 ext
 refine ⟨p,d,n,ms,b,z,rfl,W,hz,Mj,hb,hbo,?_⟩
 exact h.imp (λzz141=>by obtain ⟨h1,h2⟩:=zz141;exact ⟨h1,.mk h2⟩) λzz140=>by obtain ⟨h1,h2,h3⟩:=zz140;exact ⟨h1,h2,.mk h3⟩
theorem qr {a:List Nat}{c z n:Nat}(e:Sc.aT (a++[c]) 0 1=some (z,n)):if c=32 then z=0 else 0<z:=by
 rw [Wm.fY] at e
 cases q:Sc.aT a 0 1 with
 |none=>rw [q] at e;cases e
 |some p =>
  rw [q] at e
  simp only [Option.bind_some,Sc.aT] at e
  by_cases hc:c=32
  ·rw [if_pos hc] at e ⊢
   split at e
   ·cases e
   ·simp only [Option.some.injEq,Prod.mk.injEq] at e;exact e.1.symm
  ·rw [if_neg hc] at e ⊢
   split at e
   ·split at e
    ·cases e
    ·simp only [Option.some.injEq,Prod.mk.injEq] at e;omega
   ·cases e
theorem sU {x:Str}{l r:List Nat}(h:Wm.Wd x=true) (e:Tm.tl x=l++r):∃ z n,Sc.aT l 0 1=some (z,n)/\n<5:=by
 unfold Wm.Wd at h
 rw [e,Wm.fY] at h
 simp only [Bool.and_eq_true] at h
 cases q:Sc.aT l 0 1 with
 |none=>rw [q] at h;cases h.2
 |some p =>
  obtain ⟨z,n⟩:=p
  rw [q] at h
  refine ⟨z,n,rfl,?_⟩
  cases q2:Sc.aT r z n with
  |none=>have h:=h.2;simp only [Option.bind_some,q2] at h;cases h
  |some p2 =>
   have:=Wm.mB r z n q2
   have h:=h.2
   simp only [Option.bind_some,q2,Sc.fin,Bool.and_eq_true,decide_eq_true_eq] at h
   omega
theorem AR {x:Str}(h:Wm.Wd x=true) (k:Nat) (hk:1<=k) (h20:k<=20):∃ a c,Tm.tl (PySem.Txt.slice x none (some (k:Int)))=a++[c]/\a.length<20 /\
  if c=32 then Wm.Wd (PySem.Txt.slice x none (some (k:Int)) ++ "a")=true else Wm.Wd (PySem.Txt.slice x none (some (k:Int)))=true:=by
 have e:Tm.tl (PySem.Txt.slice x none (some (k:Int)))=(Tm.tl x).take k:=Tm.eM x k
 have hl:((Tm.tl x).take k).length<=20:=by rw [List.length_take];omega
 have NQ:(Tm.tl x).take k≠[]:=λq=>by
  have:=congrArg List.length q
  rw [List.length_take,Tm.len] at this
  have:=(Wm.iV h).1
  simp at *
  omega
 obtain ⟨z,n,q,hn⟩:=sU h (List.take_append_drop k (Tm.tl x)).symm
 rcases List.eq_nil_or_concat ((Tm.tl x).take k) with q2|⟨a,c,q2⟩
 ·exact (NQ q2).elim
 rw [List.concat_eq_append] at q2
 have el:a.length<20:=by rw [q2,List.length_append,List.length_singleton] at hl;omega
 refine ⟨a,c,by rw [e,q2],el,?_⟩
 have q3:=q
 rw [q2] at q3
 have hz:=qr q3
 by_cases hc:c=32
 ·rw [if_pos hc] at hz ⊢
  unfold Wm.Wd
  have e2:Tm.tl (PySem.Txt.slice x none (some (k:Int)) ++ "a")=(Tm.tl x).take k++[97]:=by rw [Tm.bE,e];rfl
  rw [<- Tm.len,e2,Wm.fY,q,Option.bind_some,List.length_append]
  subst hz
  show (decide _&&Sc.fin (some (1,n)))=true
  simp only [Sc.fin,Bool.and_eq_true,decide_eq_true_eq,List.length_singleton]
  omega
 ·rw [if_neg hc] at hz ⊢
  unfold Wm.Wd
  rw [<- Tm.len,e,q]
  simp only [Sc.fin,Bool.and_eq_true,decide_eq_true_eq]
  omega
theorem AS {x:Str}(h:Wm.Wd x=true):Wm.Wd (x ++ " ")=false:=by
 unfold Wm.Wd
 rw [Tm.bE,show Tm.tl " "=[32] from rfl]
 cases q:Sc.aT (Tm.tl x++[32]) 0 1 with
 |none=>simp [Sc.fin]
 |some p =>
  obtain ⟨z,n⟩:=p
  have:=qr q
  rw [if_pos rfl] at this
  subst this
  simp [Sc.fin]
theorem nW {x:Str}(h:Wm.Wd x=true):∃ c r,Tm.tl x=c::r/\Sc.isL c=true:=by
 cases q:Tm.tl x with
 |nil=>have:=(Wm.iV h).1;rw [<- Tm.len,q] at this;simp at this
 |cons c r =>
  refine ⟨c,r,rfl,?_⟩
  rcases Wm.qj h c (by rw [q];exact List.mem_cons_self) with e|e
  ·obtain ⟨z,n,q2,_⟩:=sU (l:=[c]) (r:=r) h (by rw [q];rfl)
   rw [e] at q2;cases q2
  ·exact e
theorem IG {c:Nat}(h:Sc.isL c=true):isF c=false:=by
 unfold Sc.isL at h;unfold isF
 simp only [Bool.and_eq_true,decide_eq_true_eq] at h
 rw [decide_eq_false (p:=c<=57) (by omega),Bool.and_false]
theorem sV {g:Nat}{x:Str}{c:Nat}(hc:c∈Tm.tl x) (h:Sc.isL c=true):nbB g x=false:=by
 unfold nbB
 have:(Tm.tl x).all isF=false:=by
  rw [List.all_eq_false]
  exact ⟨c,hc,by rw [IG h];decide⟩
 rw [this,Bool.and_false,Bool.false_and]
theorem sW {x:Str}{i:Nat}{l:List Nat}(h:oc x=i::l):Tm.tl x=Tm.tl (bef x i)++32::Tm.tl (aft x i):=by
 have s:=StrLaws.partition_sum x " "
 rw [gX h] at s
 have s:=congrArg Tm.tl s
 rw [Tm.bE,Tm.bE,show Tm.tl (Str.ofString " ")=[32] from rfl,List.append_assoc] at s
 exact s.symm
theorem ut {x p y:Str}(h:32∉Tm.tl p) (e:Tm.tl x=Tm.tl p++32::Tm.tl y):∃ i l,oc x=i::l/\bef x i=p/\aft x i=y:=by
 have q:=Nm.part h e
 cases ho:oc x with
 |nil=>rw [ji ho] at q;exact absurd (show Str.empty=Str.ofString " " from congrArg (·.2.1) q) (by decide)
 |cons i l =>
  rw [gX ho] at q
  exact ⟨i,l,rfl,congrArg (·.1) q,congrArg (·.2.2) q⟩
theorem lV {z:Str}(h:Wm.Wd z=true):ro ("3 " ++ z)=some (z,3):=by
 obtain ⟨i,l,h1,h2,h3⟩:=ut (x:="3 " ++ z) (p:="3") (y:=z) (by decide) (by rw [Tm.bE];rfl)
 rw [ro1 h1,h2,h3,h,show nbB 15 "3"=true by decide +kernel,show vl "3"=3 by decide +kernel]
 rfl
theorem C5 {z:Str}(h:Wm.Wd z=true):ro z=none:=by
 cases ho:oc z with
 |nil=>exact ro0 ho
 |cons i l =>
  obtain ⟨c,r,e,hc⟩:=nW h
  have s:=sW ho
  rw [e] at s
  rw [ro1 ho]
  cases q:Tm.tl (bef z i) with
  |nil=>rw [q] at s;cases (List.cons.inj s).1;cases hc
  |cons a b =>
   rw [q] at s
   cases (List.cons.inj s).1
   rw [sV (x:=bef z i) (c:=c) (by rw [q];exact List.mem_cons_self) hc];rfl
theorem y' {z:Str}(h:Wm.Wd z=true):caw ("3" ++ z)=none:=by
 cases ho:oc ("3" ++ z) with
 |nil=>exact JX ho
 |cons i l =>
  obtain ⟨c,r,e,hc⟩:=nW h
  have s:=sW ho
  rw [Tm.bE,e,show Tm.tl "3"=[51] from rfl] at s
  rw [vA ho]
  unfold nin
  cases q:Tm.tl (bef ("3" ++ z) i) with
  |nil=>rw [q] at s;exact absurd (List.cons.inj s).1 (by decide)
  |cons a b =>
   rw [q] at s
   have s:=(List.cons.inj s).2
   cases b with
   |nil=>cases (List.cons.inj s).1;cases hc
   |cons a2 b =>
    cases (List.cons.inj s).1
    rw [sV (x:=bef ("3" ++ z) i) (c:=c) (by rw [q];simp) hc,Bool.false_and];rfl
theorem C6:oc "take -1"=[4]:=by decide +kernel
theorem C7:Nr (bef "take -1" 4) (aft "take -1" 4):=.inl ⟨by decide +kernel,by decide +kernel⟩
theorem Gi {z:Str}(h:Wm.Wd z=true):∃ i l,oc ("put 3" ++ z)=i::l/\Nr (bef ("put 3" ++ z) i) (aft ("put 3" ++ z) i):=by
 obtain ⟨i,l,h1,h2,h3⟩:=ut (x:="put 3" ++ z) (p:="put") (y:="3" ++ z) (by decide) (by rw [Tm.bE,Tm.bE];rfl)
 exact ⟨i,l,h1,.inr ⟨h2,by rw [h3];exact y' h⟩⟩
def tb:Nat->Nat
 |0|1|2=>0
 |3|4=>1
 |5=>2
 |6|7=>3
 |8|9|10|11|13=>4
 |12|14=>5
 |15|16=>6
 |_=>7
abbrev cz (Z:Zs) (k:Nat):Addr:=Z.n (tb k)
abbrev ab1 (z:Str) (c:Int) (x:Str):Ab:=⟨0,0,0,[(z,c,0)],[],[],[],x,[]⟩
theorem mo1 {z:Str}{c:Int}(h:Wm.Wd z=true):Mo 0 [(z,c,0)]:=⟨Nat.le_of_ble_eq_true rfl,by simp,by simp,by simpa using h⟩
theorem ou {z x:Str}{c:Int}(h:Wm.Wd z=true) (hx:x.length<=24):Okk (ab1 z c x):=⟨⟨mo1 h,mo0,Nat.le_of_ble_eq_true rfl,⟨Nat.zero_le _,λ_ h=>nomatch h⟩⟩,Nat.le_of_ble_eq_true rfl,hx,Nat.zero_le _⟩
theorem IH (z x:Str) (c m:Int):((ab1 z c x).told m).length<=1:=by
 unfold Ab.told tld
 rw [List.length_take]
 have hl:(rows (ab1 z c x).ps (ab1 z c x).i (lst (ab1 z c x).ln) (bD (ab1 z c x).hs (ab1 z c x).ms (ab1 z c x).vs (ab1 z c x).k (ab1 z c x).n (ab1 z c x).x)).length<=1:=by
  unfold rows
  rw [List.length_map]
  exact rA
 generalize rows (ab1 z c x).ps (ab1 z c x).i (lst (ab1 z c x).ln) (bD (ab1 z c x).hs (ab1 z c x).ms (ab1 z c x).vs (ab1 z c x).k (ab1 z c x).n (ab1 z c x).x)=l at hl ⊢
 have hs:∃ m:List R4,m.Perm l/\m.Pairwise λa b=>Ky.lt (k4 b) (k4 a)=false:=by
  refine ⟨l,.refl l,?_⟩
  match l,hl with
  |[],_=>exact .nil
  |[a],_=>exact List.pairwise_singleton _ _
 have hp:=(Classical.epsilon_spec hs).1
 have:=hp.length_eq
 unfold srt
 omega
theorem JY (z:Str):z ++ "z" ≠ z:=λe=>by
 have:=congrArg (λx=>(Tm.tl x).length) e
 simp only [Tm.bE,List.length_append] at this
 have h2:(Tm.tl "z").length=1:=rfl
 omega
theorem vE (z:Str):PySem.Txt.startswith z (z ++ "z")=false:=by
 cases h:PySem.Txt.startswith z (z ++ "z") with
 |false=>rfl
 |true =>
  rw [Tm.sk] at h
  have:=congrArg List.length (of_decide_eq_true h)
  rw [List.length_take,Tm.bE,List.length_append,show (Tm.tl "z").length=1 from rfl] at this
  omega
theorem oH:FnScope vv4 vv4 (aj ib):=⟨rfl,rfl,rfl,by decide +kernel,rfl,by decide +kernel,by decide +kernel⟩
def uu:WSp:=λts S Q=>∃ u k b,ts=[.ref u,.int k,.bl b]/\5<=k/\Q .non S
theorem Gj (F:!"_law_typing" ib) (T:Txt K mg C L R Y D Z):!1 f fd vv4 uu:=by
 exists oH
 refine ⟨_,((ak (ax (aq hr (aa 1) ae) aO ay) (ak (ax (aq hr (aa 1) ae) aO ay) (ak (ax (bY (dE (aq hr (aa 1) ae) (dD (bj (aa 2))))) aO ay) (ak (ax (bY (dE (aq hr (aa 1) ae) (dD (bx (bj (aa 2)))))) aO ay) (ak (ax (aq hr (aa 1) ae) aO ay) (am (ax (aq hr (aa 1) ae) aO ay)))))))),aD λv hu ts S Q h=>?_⟩
 obtain ⟨u,k,b,rfl,hk,hq⟩:=h
 ac_nf
 ext
 refine aM (by omega) ?_
 ext
 refine aM (by omega) ?_
 ext
 refine aM (by omega) ?_
 ext
 refine aM (by omega) ?_
 ext
 refine aM (by omega) ?_
 ext
 refine aM (by omega) ?_
 ext
 exact .mk hq
def uv (Z:Zs) (B:Cs):aU:=λts S R=>∃ A m z c x b,∃ k:Nat,ts=[.ref A.u,.int k,.bl b]/\At S (lay B A m (ab1 z c x))/\Wm.Wd z=true/\x.length<=24/\0<=m/\(if b=true then x.length=24 else x="")/\k<5/\R (cz Z k,none) S
theorem II (F:!"_law_typing" ib) (T:Txt K mg C L R Y D Z)
  (Ld:FnOk P w K mg base (CX1 P w) 3 f1 Ki dS (az K (sL Y Z.S))) (Kx:Meth K Y "key" f1) (Kz:ap K Ki dS [])
  (Nl:FnOk P w K mg base (CX1 P w) 1 f2 Lw vv1 (az K (rp Y Z.S))) (Nn:Meth K Y "back" f2) (Np:ap K Lw vv1 [])
  (Lx:FnOk P w K mg base (CX1 P w) 8 f3 OC ["self","number"] (az K (rB ⟨C,L,R,Y⟩ Z.H))) (KN:Meth K Y "take" f3) (Lz:ap K OC ["self","number"] []):FnOk P w K mg base (CX1 P w) 9 f fd vv4 (az K (uv Z ⟨C,L,R,Y⟩)):=by
 exists oH
 refine ⟨_,((bd (ai (aH (aq hr (aa 1) ae) (ai (aY (bA (T.gu Kx) Ld Kz hr.m (aa 0) (ac (aE (cA (ac aw (ac aw af))) (je tO (by rfl) T.int PyProof.Rows.boot_int (ac (mP (aa 2)) af))) af)))) aK)) (aP (ax (aq hr (aa 1) ae) aO ay) (bd (ai (aH (aq hr (aa 1) ae) (ai (aY (bA (T.gu Kx) Ld Kz hr.m (aa 0) (ac aw af)))) aK)) (aP (ax (aq hr (aa 1) ae) aO ay) (bd (ai (aH (bY (dE (aq hr (aa 1) ae) (dD (bj (aa 2))))) (ai (aY (bA (T.gu Kx) Ld Kz hr.m (aa 0) (ac aw af)))) aK)) (aP (ax (bY (dE (aq hr (aa 1) ae) (dD (bj (aa 2))))) aO ay) (bd (ai (aH (bY (dE (aq hr (aa 1) ae) (dD (bx (bj (aa 2)))))) (ai (aY (Ah (T.gu Nn) Nl Np hr.m (aa 0)))) aK)) (aP (ax (bY (dE (aq hr (aa 1) ae) (dD (bx (bj (aa 2)))))) aO ay) (bd (ai (aH (aq hr (aa 1) ae) (ai (aY (bA (T.gu KN) Lx Lz hr.m (aa 0) (ac ae af)))) aK)) (aP (ax (aq hr (aa 1) ae) aO ay) (ai (aH (aq hr (aa 1) ae) (ai (aY (bA (T.gu KN) Lx Lz hr.m (aa 0) (ac (dG ae) af)))) aK))))))))))))),bp λv hu ts S Q h=>?_⟩
 obtain ⟨A,m,z,c,x,b,k,rfl,hA,hz,hx,hm,hb,hk,hq⟩:=h
 have iu:=hA.tp.ty
 have iu2:=iu
 unfold tyO at iu2
 ac_nf
 by_cases e:k=0
 ·subst e
  refine bg (bn ?_)
  ext
  refine a8 rfl ?_
  ext
  cases b with
  |true =>
   ext
   exact ⟨A.u,_,_,_,_,_,_,rfl,iu,by decide,by decide +kernel,hx,.inr ⟨by decide +kernel,hb⟩,.mk hq⟩
  |false =>
   ext
   exact ⟨A.u,_,_,_,_,_,_,rfl,iu,by decide,by decide +kernel,hx,.inl (by decide +kernel),.mk hq⟩
 refine bb (aZ ?_)
 ext
 refine aM (by omega) ?_
 ext
 by_cases e:k=1
 ·subst e
  refine bg (bn ?_)
  ext
  refine a8 rfl ?_
  ext
  exact ⟨A.u,_,_,_,_,_,_,rfl,iu,by decide,by decide +kernel,hx,.inl (by decide +kernel),.mk hq⟩
 refine bb (aZ ?_)
 ext
 refine aM (by omega) ?_
 ext
 by_cases e:k=2
 ·subst e
  cases b with
  |true =>
   refine bg (bn ?_)
   ext
   refine a8 rfl ?_
   ext
   exact ⟨A.u,_,_,_,_,_,_,rfl,iu,by decide,by decide +kernel,hx,.inr ⟨by decide +kernel,hb⟩,.mk hq⟩
  |false =>
   refine bb (aZ ?_)
   ext
   refine a8 rfl ?_
   ext
   refine bg (bn ?_)
   ext
   refine a8 rfl ?_
   ext
   have hb:x="":=hb
   subst hb
   exact ⟨A.u,_,_,_,_,rfl,iu,.mk hq⟩
 refine bb (aZ ?_)
 ext
 refine aM (by omega) ?_
 ext
 refine bb (aZ ?_)
 ext
 refine aM (by omega) ?_
 ext
 by_cases e:k=3
 ·subst e
  refine bg (bn ?_)
  ext
  refine a8 rfl ?_
  ext
  exact ⟨A,m,_,1,rfl,hA,ou hz hx,hm,by decide,.inr (by have:=IH z x c m;omega),.mk hq⟩
 refine bb (aZ ?_)
 ext
 refine aM (by omega) ?_
 ext
 by_cases e:k=4
 ·subst e
  refine a8 rfl ?_
  ext
  exact ⟨A,m,_,-1,rfl,hA,ou hz hx,hm,by decide,.inl (by decide),.mk hq⟩
 omega
theorem oQ:FnScope vv2 vv2 (aj ie):=⟨rfl,rfl,rfl,by decide +kernel,rfl,by decide +kernel,by decide +kernel⟩
def uw:WSp:=λts S Q=>∃ u y k z,ts=[.ref u,.ref y,.int k,.str z]/\15<=k/\Q .non S
theorem Gk (F:!"_law_words" ie) (T:Txt K mg C L R Y D Z):!1 f fd vv2 uw:=by
 exists oQ
 refine ⟨_,((ak (ax (aq hr (aa 2) ae) aO ay) (ak (ax (aq hr (aa 2) ae) aO ay) (ak (ax (aq hr (aa 2) ae) aO ay) (ak (ax (aq hr (aa 2) ae) aO ay) (ak (ax (aq hr (aa 2) ae) aO ay) (ak (ax (aq hr (aa 2) ae) aO ay) (ak (ax (aq hr (aa 2) ae) aO ay) (ak (ax (aq hr (aa 2) ae) aO ay) (ak (ax (aq hr (aa 2) ae) aO ay) (am (ax (aq hr (aa 2) ae) aO ay)))))))))))),aD λv hu ts S Q h=>?_⟩
 obtain ⟨u,y,k,z,rfl,hk,hq⟩:=h
 ac_nf
 ext
 refine aM (by omega) ?_
 ext
 refine aM (by omega) ?_
 ext
 refine aM (by omega) ?_
 ext
 refine aM (by omega) ?_
 ext
 refine aM (by omega) ?_
 ext
 refine aM (by omega) ?_
 ext
 refine aM (by omega) ?_
 ext
 refine aM (by omega) ?_
 ext
 refine aM (by omega) ?_
 ext
 refine aM (by omega) ?_
 ext
 exact .mk hq
theorem IJ {z:Str}(h:Wm.Wd z=true):(z ++ "z").length<=1000/\PyData.strOk (z ++ "z")=true:=⟨by rw [gB];have:=nV h;have:("z":Str).length=1:=rfl;omega,i3 (Wm.fz h) (by decide +kernel)⟩
theorem nX {z:Str}{c:Int}:look [(z,c,(0:Int))] z=some (c,0):=by simp [look]
theorem sX {z:Str}{c:Int}:look [(z,c,(0:Int))] (z ++ "z")=none:=by
 rw [As.cF]
 simpa using JY z
def uA (Z:Zs) (B:Cs):aU:=λts S R=>∃ A m z c x,∃ k:Nat,ts=[.ref A.h,.ref A.y,.int k,.str z]/\At S (lay B A m (ab1 z c x))/\Wm.Wd z=true/\5<=k/\k<15/\R (cz Z k,none) S
theorem IK (F:!"_law_words" ie) (T:Txt K mg C L R Y D Z)
  (MT:FnOk P w K mg base (CX1 P w) 4 f1 Ki vv7 (az K (sI C Z.N Z.T))) (KI:Meth K C "put" f1) (KJ:ap K Ki vv7 [])
  (Nq:FnOk P w K mg base (CX1 P w) 4 f2 Lw vv0 (az K (rg C L Z))) (Nt:Meth K L "hide" f2) (Nu:ap K Lw vv0 [])
  (Nv:FnOk P w K mg base (CX1 P w) 1 f3 OC vv0 (az K (rh C L Z))) (Nw:Meth K L "show" f3) (Nx:ap K OC vv0 [])
  (NW:FnOk P w K mg base (CX1 P w) 4 f4 Qj vv8 (az K (rj C L Z))) (NX:Meth K L "use" f4){tk:Tok}(Ny:ap K Qj vv8 [.int 1 tk])
  (Mq:FnOk P w K mg base (CX1 P w) 4 f5 Rh vv0 (az K (pf C L Z))) (Mr:Meth K L "strike" f5) (Mt:ap K Rh vv0 [])
  (LA:FnOk P w K mg base (CX1 P w) 3 f6 Qk vv5 (az K (iK C Z.A Z.B))) (LB:Df K mg "uses_needed" f6 Qk vv5)
  (Lp:FnOk P w K mg base (CX1 P w) 3 f7 Ql vv5 (az K (iK C Z.A Z.B))) (Lq:Df K mg "fades_needed" f7 Ql vv5):FnOk P w K mg base (CX1 P w) 5 f fd vv2 (az K (uA Z ⟨C,L,R,Y⟩)):=by
 exists oQ
 refine ⟨_,((bd (ai (aH (aq hr (aa 2) ae) (ai (aY (bA (T.gf KI) MT KJ hr.m (aa 0) (ac (aa 3) (ac ae af))))) aK)) (aP (ax (aq hr (aa 2) ae) aO ay) (bd (ai (aH (aq hr (aa 2) ae) (ai (aY (bA (T.gf KI) MT KJ hr.m (aa 0) (ac (aB (bf false) (aa 3) aw) (ac ae af))))) aK)) (aP (ax (aq hr (aa 2) ae) aO ay) (bd (ai (aH (aq hr (aa 2) ae) (ai (aY (bA (T.gl Nt) Nq Nu hr.m (aa 1) (ac aw af)))) aK)) (aP (ax (aq hr (aa 2) ae) aO ay) (bd (ai (aH (aq hr (aa 2) ae) (ai (aY (bA (T.gl Nw) Nv Nx hr.m (aa 1) (ac (aa 3) af)))) aK)) (aP (ax (aq hr (aa 2) ae) aO ay) (bd (ai (aH (aq hr (aa 2) ae) (ai (aY (Ao (T.gl NX) NW Ny hr.m (aa 1) (ac (aB (bf false) (aa 3) aw) af)))) aK)) (aP (ax (aq hr (aa 2) ae) aO ay) (bd (ai (aH (aq hr (aa 2) ae) (ai (aY (bA (T.gl Mr) Mq Mt hr.m (aa 1) (ac (aa 3) af)))) aK)) (aP (ax (aq hr (aa 2) ae) aO ay) (bd (ai (aH (aq hr (aa 2) ae) (ai (aY (bU LA LB hr.m (by rfl) (ac (aa 0) (ac aw (ac (aB (bf false) (aa 3) aw) (ac ae af))))))) aK)) (aP (ax (aq hr (aa 2) ae) aO ay) (bd (ai (aH (aq hr (aa 2) ae) (ai (aY (bU LA LB hr.m (by rfl) (ac (aa 0) (ac (aB (bf false) (aa 3) aw) (ac (aa 3) (ac ae af))))))) aK)) (aP (ax (aq hr (aa 2) ae) aO ay) (bd (ai (aH (aq hr (aa 2) ae) (ai (aY (bU Lp Lq hr.m (by rfl) (ac (aa 0) (ac (aa 3) (ac aw (ac ae af))))))) aK)) (aP (ax (aq hr (aa 2) ae) aO ay) (ai (aH (aq hr (aa 2) ae) (ai (aY (bU Lp Lq hr.m (by rfl) (ac (aa 0) (ac (aB (bf false) (aa 3) aw) (ac (aa 3) (ac ae af))))))) aK))))))))))))))))))))),bp λv hu ts S Q h=>?_⟩
 obtain ⟨A,m,z,c,x,k,rfl,hA,hz,hk,hk2,hq⟩:=h
 have ih:=hA.wh.ins
 have iy:=hA.ly.ins
 have hl:=on hz
 have ho:=Wm.fz hz
 have QD:=IJ hz
 have l1:(Str.ofString "z").length=1:=rfl
 ac_nf
 by_cases e:k=5
 ·subst e
  refine bg (bn ?_)
  ext
  refine a8 rfl ?_
  ext
  exact ⟨_,_,_,_,z,3,rfl,hA.wh,hl,ho,.inr ⟨hz,⟨_,nX⟩,.mk hq⟩⟩
 refine bb (aZ ?_)
 ext
 refine aM (by omega) ?_
 ext
 by_cases e:k=6
 ·subst e
  refine bg (bn ?_)
  ext
  refine a8 rfl ?_
  ext
  exact ⟨_,_,_,_,z ++ " ",3,rfl,hA.wh,by rw [gB];have:=nV hz;have:(" ":Str).length=1:=rfl;omega,i3 ho (by decide +kernel),.inl ⟨AS hz,.mk hq⟩⟩
 refine bb (aZ ?_)
 ext
 refine aM (by omega) ?_
 ext
 by_cases e:k=7
 ·subst e
  refine bg (bn ?_)
  ext
  refine a8 rfl ?_
  ext
  exact ⟨A.y,_,_,_,_,_,_,_,_,_,_,"A",rfl,hA.ly,by decide,by decide +kernel,.inl ⟨by decide +kernel,.mk hq⟩⟩
 refine bb (aZ ?_)
 ext
 refine aM (by omega) ?_
 ext
 by_cases e:k=8
 ·subst e
  refine bg (bn ?_)
  ext
  refine a8 rfl ?_
  ext
  exact ⟨A.y,_,_,_,_,_,_,_,_,_,_,z,rfl,hA.ly,hl,ho,rfl,.mk hq⟩
 refine bb (aZ ?_)
 ext
 refine aM (by omega) ?_
 ext
 by_cases e:k=9
 ·subst e
  refine bg (bn ?_)
  ext
  refine a8 rfl ?_
  ext
  exact ⟨A.y,_,_,_,_,_,_,_,_,_,_,z ++ "z",1,rfl,hA.ly,QD.1,QD.2,.inr ⟨rfl,rfl,sX⟩,.mk hq⟩
 refine bb (aZ ?_)
 ext
 refine aM (by omega) ?_
 ext
 by_cases e:k=10
 ·subst e
  refine bg (bn ?_)
  ext
  refine a8 rfl ?_
  ext
  exact ⟨A.y,_,_,_,_,_,_,_,_,_,_,z,rfl,hA.ly,hl,ho,rfl,.mk hq⟩
 refine bb (aZ ?_)
 ext
 refine aM (by omega) ?_
 ext
 by_cases e:k=11
 ·subst e
  refine bg (bn ?_)
  ext
  refine a8 rfl ?_
  ext
  exact ⟨_,_,_,_,"zzz",z ++ "z",1,rfl,hA.wh,QD.1,QD.2,by decide,by decide +kernel,.inl ⟨sX,.mk hq⟩⟩
 refine bb (aZ ?_)
 ext
 refine aM (by omega) ?_
 ext
 by_cases e:k=12
 ·subst e
  refine bg (bn ?_)
  ext
  refine a8 rfl ?_
  ext
  exact ⟨_,_,_,_,z ++ "z",z,1,rfl,hA.wh,hl,ho,QD.1,QD.2,.inr ⟨⟨_,nX⟩,vE z,.mk hq⟩⟩
 refine bb (aZ ?_)
 ext
 refine aM (by omega) ?_
 ext
 by_cases e:k=13
 ·subst e
  refine bg (bn ?_)
  ext
  refine a8 rfl ?_
  ext
  refine ⟨_,_,_,_,z,"",1,rfl,hA.wh,by decide,by decide +kernel,hl,ho,.inl ⟨?_,.mk hq⟩⟩
  rw [As.cF]
  have:=(Wm.iV hz).1
  intro q
  rw [List.map_cons,List.map_nil,List.mem_singleton] at q
  rw [<- (show ""=z from q)] at this
  exact absurd this (by decide)
 refine bb (aZ ?_)
 ext
 refine aM (by omega) ?_
 ext
 by_cases e:k=14
 ·subst e
  refine a8 rfl ?_
  ext
  exact ⟨_,_,_,_,z ++ "z",z,1,rfl,hA.wh,hl,ho,QD.1,QD.2,.inr ⟨⟨_,nX⟩,vE z,.mk hq⟩⟩
 omega
theorem wT:FnScope hW hW (aj kx):=⟨rfl,rfl,rfl,by decide +kernel,rfl,by decide +kernel,by decide +kernel⟩
def uB (D:Addr) (Z:Zs) (B:Cs):aU:=λts S R=>∃ A dk z,∃ k:Nat,ts=[.ref dk,.int k,.str z]/\At S (dl D B A dk 3 ab0)/\Wm.Wd z=true/\15<=k/\k<19/\R (cz Z k,if k<17 then some 1 else none) S
theorem IL (F:!"_law_texts" kx) (T:Txt K mg C L R Y D Z)
  (Mf:FnOk P w K mg base (CX1 P w) 5 f1 Ki ["texts"] (az K (rH Z.X))) (Mg:Df K mg "read_wood" f1 Ki ["texts"])
  (MU:FnOk P w K mg base (CX1 P w) 7 f2 Lw vv6 (az K (sS D Z.W ⟨C,L,R,Y⟩))) (K5:Meth K D "say" f2) (K6:ap K Lw vv6 []):FnOk P w K mg base (CX1 P w) 8 f fd hW (az K (uB D Z ⟨C,L,R,Y⟩)):=by
 exists wT
 refine ⟨_,((bd (ai (aH (aq hr (aa 1) ae) (ai (aY (bU Mf Mg hr.m (by rfl) (ac (cA (ac (aB (bf false) aw (aa 2)) (ac (aB (bf false) aw (aa 2)) af))) af)))) aK)) (aP (ax (aq hr (aa 1) ae) aO ay) (bd (ai (aH (aq hr (aa 1) ae) (ai (aY (bU Mf Mg hr.m (by rfl) (ac (cA (ac (aB (bf false) aw (aa 2)) (ac (aa 2) af))) af)))) aK)) (aP (ax (aq hr (aa 1) ae) aO ay) (bd (ai (aH (aq hr (aa 1) ae) (ai (aY (bA (T.gd K5) MU K6 hr.m (aa 0) (ac aw af)))) aK)) (aP (ax (aq hr (aa 1) ae) aO ay) (ai (aH (aq hr (aa 1) ae) (ai (aY (bA (T.gd K5) MU K6 hr.m (aa 0) (ac (aB (bf false) aw (aa 2)) af)))) aK))))))))),bp λv hu ts S Q h=>?_⟩
 obtain ⟨A,dk,z,k,rfl,hA,hz,hk,hk2,hq⟩:=h
 have hd:=hA.dk
 unfold dkO at hd
 have hl:=nV hz
 have ho:=Wm.fz hz
 have h3:("3 " ++ z).length<=1000:=by rw [gB];have:("3 ":Str).length=2:=rfl;omega
 have h0:T2.ltS "" z=true:=by
  obtain ⟨c,r,e,_⟩:=nW hz
  unfold T2.ltS
  refine decide_eq_true ?_
  rw [show z.cps.toList=c::r from e]
  exact List.nil_lt_cons _ _
 have l2:(Str.ofString "3 ").length=2:=rfl
 have l5:(Str.ofString "put 3").length=5:=rfl
 ac_nf
 by_cases e:k=15
 ·subst e
  refine bg (bn ?_)
  ext
  refine a8 rfl ?_
  ext
  exact ⟨_,_,(z,3),rfl,h3,h3,lV hz,hz,h0,.inr ⟨_,lV hz,Ky.irr (.s z)⟩,.mk hq⟩
 refine bb (aZ ?_)
 ext
 refine aM (by omega) ?_
 ext
 by_cases e:k=16
 ·subst e
  refine bg (bn ?_)
  ext
  refine a8 rfl ?_
  ext
  exact ⟨_,_,(z,3),rfl,h3,by omega,lV hz,hz,h0,.inl (C5 hz),.mk hq⟩
 refine bb (aZ ?_)
 ext
 refine aM (by omega) ?_
 ext
 by_cases e:k=17
 ·subst e
  refine bg (bn ?_)
  ext
  refine a8 rfl ?_
  ext
  exact ⟨A,dk,_,_,_,rfl,hA,⟨by decide,by decide +kernel⟩,C6,C7,.mk hq⟩
 refine bb (aZ ?_)
 ext
 refine aM (by omega) ?_
 ext
 by_cases e:k=18
 ·subst e
  refine a8 rfl ?_
  ext
  obtain ⟨i,l,h1,h2⟩:=Gi hz
  exact ⟨A,dk,_,i,l,rfl,hA,⟨by rw [gB];have:("put 3":Str).length=5:=rfl;omega,i3 (by decide +kernel) ho⟩,h1,h2,.mk hq⟩
 omega
theorem C8 {wn:WS}{wr:WR}{wh:WHd}{De:EndsT}{U:StT}{S:Sto}(c:XA) (h1:wh c De U S) (h2:∀ Rr:WX,Rr c U S->wr U S Rr):uc wn wr wh De U S:=.inr (h2 _ h1)
theorem uC {i:Nat}{De:EndsT}{U:StT}{S:Sto}(h:De.nx (U.set i none) S):(asE i De).nx U S:=h
theorem uD (k:Nat):tb k<8:=by unfold tb;split<;>decide
def kdT (k:Nat):T2.T:=.tup [.lst [.bl (tb k==0),.bl (tb k==1),.bl (tb k==2),.bl (tb k==3),.bl (tb k==4),.bl (tb k==5),.bl (tb k==6),.bl (tb k==7),.bl true],.int (if tb k==6 then 1 else -1)]
theorem wU:FnScope ["_law_house","_law_layers","_law_typist","_law_desk","_law_kind","_law_word_here","_law_full","_law_kinds_here","_law_place","e"] vv3 (aj kA):=⟨rfl,rfl,rfl,by decide +kernel,rfl,by decide +kernel,by decide +kernel⟩
def vF (D:Addr) (B:Cs):WSp:=λts S Q=>∃ A m z c x b A2 dk,∃ k:Nat,ts=[.ref A.h,.ref A.y,.ref A.u,.ref dk,.int k,.str z,.bl b]/\At S (lay B A m (ab1 z c x))/\At S (dl D B A2 dk 3 ab0)/\Wm.Wd z=true/\x.length<=24/\0<=m/\(if b=true then x.length=24 else x="")/\k<19/\Q (kdT k) S
theorem IM (F:!"_law_kinds" kA) (T:Txt K mg C L R Y D Z)
  (Nz:!1 f1 Ki vv4 uu) (LC:Df K mg "_law_typing" f1 Ki vv4)
  (NA:FnOk P w K mg base (CX1 P w) 9 f1 Ki vv4 (az K (uv Z ⟨C,L,R,Y⟩)))
  (NY:!1 f2 Lw vv2 uw) (LX:Df K mg "_law_words" f2 Lw vv2)
  (NZ:FnOk P w K mg base (CX1 P w) 5 f2 Lw vv2 (az K (uA Z ⟨C,L,R,Y⟩)))
  (N0:FnOk P w K mg base (CX1 P w) 8 f3 OC hW (az K (uB D Z ⟨C,L,R,Y⟩))) (N1:Df K mg "_law_texts" f3 OC hW):!10 f fd vv3 (vF D ⟨C,L,R,Y⟩):=by
 exists wU
 refine ⟨_,((ak (aI 7 nd (cA af)) (ak (aI 8 nd (dG ae)) (ak (Fk ⟨rfl,rfl⟩ aO (bd (ai (aY (bU NA LC hr.m (by rfl) (ac (aa 2) (ac (aa 4) (ac (aa 6) af)))))) (aP (eY (aJ Nz LC hr.m (ac (aa 2) (ac (aa 4) (ac (aa 6) af))))) (bd (ai (aY (bU NZ LX hr.m (by rfl) (ac (aa 0) (ac (aa 1) (ac (aa 4) (ac (aa 5) af))))))) (aP (eY (aJ NY LX hr.m (ac (aa 0) (ac (aa 1) (ac (aa 4) (ac (aa 5) af)))))) (ai (aY (bU N0 N1 hr.m (by rfl) (ac (aa 3) (ac (aa 4) (ac (aa 5) af)))))))))) (Fj (i:=9) rfl nd rfl rfl (by rfl) T.mg_AheadError (λ_=>(ak (aI 7 nd (cA (ac (aX (cV rfl T.gx) T.isinstance PyProof.Rows.boot_isinstance (ac (aa 9) (ac (df (by rfl) T.mg_NoSign) af))) (ac (aX (cV rfl T.gx) T.isinstance PyProof.Rows.boot_isinstance (ac (aa 9) (ac (df (by rfl) T.mg_NoChoice) af))) (ac (aX (cV rfl T.gx) T.isinstance PyProof.Rows.boot_isinstance (ac (aa 9) (ac (df (by rfl) T.mg_Twice) af))) (ac (aX (cV rfl T.gx) T.isinstance PyProof.Rows.boot_isinstance (ac (aa 9) (ac (df (by rfl) T.mg_NoWord) af))) af)))))) (ak (aI 7 nd (aB (bf false) (aa 7) (cA (ac (aX (cV rfl T.gx) T.isinstance PyProof.Rows.boot_isinstance (ac (aa 9) (ac (df (by rfl) T.mg_Absent) af))) (ac (aX (cV rfl T.gx) T.isinstance PyProof.Rows.boot_isinstance (ac (aa 9) (ac (df (by rfl) T.mg_Beside) af))) (ac (aX (cV rfl T.gx) T.isinstance PyProof.Rows.boot_isinstance (ac (aa 9) (ac (df (by rfl) T.mg_NoText) af))) (ac (aX (cV rfl T.gx) T.isinstance PyProof.Rows.boot_isinstance (ac (aa 9) (ac (df (by rfl) T.mg_NoRow) af))) af))))))) (ak (aI 7 nd (aB (bf false) (aa 7) (cA (ac (aX (cV rfl T.gx) T.isinstance PyProof.Rows.boot_isinstance (ac (aa 9) (ac (vm (n:="ValueError") (by rfl) T.ValueError (by rfl)) af))) af)))) (am (ax (bj (aX (cV rfl T.gx) T.isinstance PyProof.Rows.boot_isinstance (ac (aa 9) (ac (df (by rfl) T.mg_NoText) af)))) (am (aI 8 nd (Fm rfl T.gr (aa 9)))) ay)))))))) (am (aG (bX (ac (aa 7) (ac (aa 8) af))))))))),aD λv hu ts S Q h=>?_⟩
 obtain ⟨A,m,z,c,x,b,A2,dk,k,rfl,hA,hD,hz,hx,hm,hb,hk,hq⟩:=h
 ac_nf
 ext
 refine C8 (Z.n (tb k),if tb k==6 then some 1 else none) ?_ λRr hR=>?_
 ·unfold kdT at hq
  have hi:=uD k
  obtain ⟨x1,x2,x3,x4⟩:=T.xm hi
  generalize hti:tb k=i at hq hi x1 x2 x3 x4 ⊢
  refine Fl x2 λa ha=>?_
  have Oj:put S a (.exg (Z.n i) (if i==6 then some 1 else none)) a=some _:=aA
  have le:Le S (put S a (.exg (Z.n i) (if i==6 then some 1 else none))):=Le.refl.chg ha
  dsimp only at Oj le ⊢
  generalize put S a _=S2 at Oj le ⊢
  ext
  refine cW Oj ⟨i,hi,rfl⟩ rfl (x4 0 (by decide)) ?_
  ext
  refine cW Oj ⟨i,hi,rfl⟩ rfl (x4 1 (by decide)) ?_
  ext
  refine cW Oj ⟨i,hi,rfl⟩ rfl (x4 2 (by decide)) ?_
  ext
  refine cW Oj ⟨i,hi,rfl⟩ rfl (x4 3 (by decide)) ?_
  ext
  refine cW Oj ⟨i,hi,rfl⟩ rfl (x4 4 (by decide)) ?_
  ext
  refine cW Oj ⟨i,hi,rfl⟩ rfl (x4 5 (by decide)) ?_
  ext
  refine cW Oj ⟨i,hi,rfl⟩ rfl (x4 6 (by decide)) ?_
  ext
  refine cW Oj ⟨i,hi,rfl⟩ rfl (x4 7 (by decide)) ?_
  ext
  refine iP rfl rfl (by rw [sizeLine_eq];exact Nat.le_of_ble_eq_true rfl) ?_
  ext
  refine cW Oj ⟨i,hi,rfl⟩ rfl x3 ?_
  ext
  refine iP rfl rfl (by rw [sizeLine_eq];exact Nat.le_of_ble_eq_true rfl) ?_
  ext
  refine cW Oj ⟨i,hi,rfl⟩ rfl (x4 6 (by decide)) ?_
  cases h6:i==6 with
  |true =>
   obtain rfl:i=6:=by simpa using h6
   rw [h6] at hq
   ext
   refine ⟨a,_,1,rfl,Oj,rfl,?_⟩
   ext
   refine uC ?_
   ext
   exact .le le hq
  |false =>
   rw [h6] at hq
   ext
   refine uC ?_
   ext
   exact .le le hq
 ·by_cases h5:k<5
  ·refine bg ?_
   ext
   refine ⟨A,m,z,c,x,b,k,rfl,hA,hz,hx,hm,hb,h5,?_⟩
   rw [show (tb k==6)=false by match k,h5 with|0,_=>rfl|1,_=>rfl|2,_=>rfl|3,_=>rfl|4,_=>rfl] at hR
   exact hR
  refine bb (aZ ?_)
  ext
  refine ⟨A.u,k,b,rfl,by omega,?_⟩
  ext
  by_cases h15:k<15
  ·refine bg ?_
   ext
   refine ⟨A,m,z,c,x,k,rfl,hA,hz,by omega,h15,?_⟩
   rw [show (tb k==6)=false by
    have hn:15=k\/k<15:=.inr h15
    match k,h5,h15 with|5,_,_=>rfl|6,_,_=>rfl|7,_,_=>rfl|8,_,_=>rfl|9,_,_=>rfl|10,_,_=>rfl|11,_,_=>rfl|12,_,_=>rfl|13,_,_=>rfl|14,_,_=>rfl] at hR
   exact hR
  refine bb (aZ ?_)
  ext
  refine ⟨A.h,A.y,k,z,rfl,by omega,?_⟩
  ext
  refine ⟨A2,dk,z,k,rfl,hD,hz,by omega,hk,?_⟩
  obtain rfl|rfl|rfl|rfl:k=15\/k=16\/k=17\/k=18:=by omega
  all_goals exact hR
def Dg (n:Nat) (t:T2.T):Prop:=∃ d,cN t=some d/\d.canLay0=true/\d.depth<=n
theorem h8 {n:Nat}(i:Int):Dg n (.int i):=⟨.int i,rfl,rfl,Nat.zero_le n⟩
theorem vG {n:Nat}(b:Bool):Dg n (.bl b):=⟨.bool b,rfl,rfl,Nat.zero_le n⟩
theorem h9 {n:Nat}{z:Str}(h:PyData.strOk z=true):Dg n (.str z):=⟨.str z,rfl,h,Nat.zero_le n⟩
theorem uE {n:Nat}{ts:List T2.T}(h:∀ t∈ts,Dg n t):∃ ds,bF ts=some ds/\PyData.canLayAll0 ds=true/\PyData.depthAll ds<=n:=by
 induction ts with
 |nil=>exact ⟨[],rfl,rfl,Nat.zero_le n⟩
 |cons t ts ih =>
  obtain ⟨d,e,c,k⟩:=h t List.mem_cons_self
  obtain ⟨ds,e2,c2,k2⟩:=ih λu hu=>h u (List.mem_cons_of_mem _ hu)
  refine ⟨d::ds,l9 e e2,by simp only [PyData.canLayAll0,c,c2,Bool.and_self],?_⟩
  simp only [PyData.depthAll]
  omega
theorem jD {n:Nat}{ts:List T2.T}(h:∀ t∈ts,Dg n t):Dg (n+1) (.tup ts):=by
 obtain ⟨ds,e,c,k⟩:=uE h
 refine ⟨.tuple ds,by rw [lv,e];rfl,by simp only [PyData.canLay0];exact c,?_⟩
 simp only [PyData.depth]
 omega
theorem fP {n:Nat}{ts:List T2.T}(h:∀ t∈ts,Dg n t):Dg (n+1) (.lst ts):=by
 obtain ⟨ds,e,c,k⟩:=uE h
 refine ⟨.list ds,by show (bF ts).map PyData.list=_;rw [e];rfl,by simp only [PyData.canLay0];exact c,?_⟩
 simp only [PyData.depth]
 omega
theorem sY {S:Sto}{Q:T2.T->Sto->Prop}{ts:List T2.T}(n:Nat) (hn:n<=64) (h:Dg n (.tup ts)) (q:Q (.bl false) S):gEq true (.tup ts) (.tup ts) S Q:=by
 obtain ⟨d,e,c,k⟩:=h
 have e2:dq S (.tup ts)=some d:=e
 refine ⟨_,_,e2,e2,c,c,by omega,?_⟩
 rw [SeqAt.eqv_refl _ c];exact q
theorem fQ {n:Nat}:∀ t∈([]:List T2.T),Dg n t:=λ_ h=>nomatch h
theorem bZ {n:Nat}{t:T2.T}{ts:List T2.T}(h:Dg n t) (h2:∀ t∈ts,Dg n t):∀ u∈t::ts,Dg n u:=List.forall_mem_cons.mpr ⟨h,h2⟩
def alT (z:Str) (c:Int) (x:Str) (m:Int):T2.T:=.tup [.lst (((ab1 z c x).told m).map r4),.str x,.lst [],.lst ((wl [(z,c,0)] 0).map rt),.int 0,.lst [],.lst [],.str "none",.str "none"]
theorem xX:FnScope ["_law_house","_law_layers","_law_typist","_law_desk","_law_told"] jy (aj kU):=⟨rfl,rfl,rfl,by decide +kernel,rfl,by decide +kernel,by decide +kernel⟩
def vH (D:Addr) (B:Cs):WSp:=λts S Q=>∃ A m z c x A2 dk,ts=[.ref A.h,.ref A.y,.ref A.u,.ref dk]/\At S (lay B A m (ab1 z c x))/\At S (dl D B A2 dk 3 ab0)/\Wm.Wd z=true/\x.length<=24/\PyData.strOk x=true/\0<=m/\(Dg 3 (alT z c x m)->Q (alT z c x m) S)
theorem IN (F:!"_law_all" kU) (T:Txt K mg C L R Y D Z)
  (Kl:!7 f1 Ki vv1 (iZ C L R Y)) (Km:Meth K Y "told" f1) (Kn:ap K Ki vv1 [])
  (MV:!1 f2 Lw vv1 (rq Y)) (MW:Meth K Y "typed" f2) (MX:ap K Lw vv1 [])
  (NB:!1 f3 OC vv1 (sM Y)) (NC:Meth K Y "line" f3) (ND:ap K OC vv1 [])
  (Kq:!4 f4 Qj vv1 (iz C)) (Kr:Meth K C "words" f4) (Ks:ap K Qj vv1 [])
  (OF:!1 f5 Rh vv1 (uq C)) (OG:Meth K C "era" f5) (OH:ap K Rh vv1 [])
  (LM:!5 f6 Qk vv1 (ur C L)) (LN:Meth K L "own_words" f6) (LO:ap K Qk vv1 [])
  (Mu:!4 f7 Ql vv1 (qq C L)) (Mv:Meth K L "hidden" f7) (Mw:ap K Ql vv1 [])
  (MY:!9 f8 Rg vv6 (uo D ⟨C,L,R,Y⟩)) (K5:Meth K D "say" f8) (K6:ap K Rg vv6 []):!10 f fd jy (vH D ⟨C,L,R,Y⟩):=by
 exists xX
 refine ⟨_,((ak (aI 4 nd (bX (ac (cy (T.gu Km) Kl Kn hr.m (aa 2)) (ac (cy (T.gu MW) MV MX hr.m (aa 2)) (ac (cy (T.gu NC) NB ND hr.m (aa 2)) (ac (cy (T.gf Kr) Kq Ks hr.m (aa 0)) (ac (cy (T.gf OG) OF OH hr.m (aa 0)) af))))))) (am (aG (aB FK (aa 4) (bX (ac (cy (T.gl LN) LM LO hr.m (aa 1)) (ac (cy (T.gl Mv) Mu Mw hr.m (aa 1)) (ac (bP (T.gd K5) MY K6 hr.m (aa 3) (ac aw af)) (ac (bP (T.gd K5) MY K6 hr.m (aa 3) (ac aw af)) af)))))))))),aD λv hu ts S Q h=>?_⟩
 obtain ⟨A,m,z,c,x,A2,dk,rfl,hA,hD,hz,hx,xo,hm,hq⟩:=h
 have iu:=hA.tp.ty
 have iu2:=iu
 unfold tyO at iu2
 have ih:=hA.wh.ins
 have iy:=hA.ly.ins
 have hd:=hD.dk
 unfold dkO at hd
 have ok:=ou (c:=c) hz hx
 have hM:=mo1 (c:=c) hz
 unfold alT at hq
 ac_nf
 ext
 refine ⟨A.u,_,_,_,_,_,_,_,_,_,m,_,_,_,_,_,_,_,x,_,rfl,hA.tp,ok.ok,hm,λpt=>?_⟩
 ext
 refine ⟨A.u,_,_,_,_,_,rfl,iu,?_⟩
 ext
 refine ⟨A.u,_,_,_,_,_,[],rfl,iu,hA.tp.li,?_⟩
 ext
 refine ⟨A.h,_,_,_,rfl,hA.wh,hM.len,hM.old,hM.nd,hM.wd,λlw hlw LZ=>?_⟩
 have el:=ul hM.nd hlw LZ
 rw [el] at hlw ⊢
 ext
 refine ⟨A.h,_,0,rfl,ih,?_⟩
 ext
 refine ⟨A.y,_,_,_,_,_,_,_,_,_,_,rfl,hA.ly,mo0,λl hl _=>?_⟩
 rw [List.perm_nil.mp hl]
 ext
 refine ⟨A.y,_,_,_,_,_,_,_,_,_,_,rfl,hA.ly,Nat.le_of_ble_eq_true rfl,λl hl _=>?_⟩
 rw [List.perm_nil.mp hl]
 ext
 refine ⟨A2,dk,_,rfl,hD,.inr rfl,?_⟩
 ext
 refine ⟨A2,dk,_,rfl,hD,.inl rfl,?_⟩
 ext
 refine FL (by rw [sizeLine_eq];exact Nat.le_of_ble_eq_true rfl) ?_
 refine .mk (hq ?_)
 refine jD (bZ (fP λt ht=>?_) (bZ (h9 xo) (bZ (fP fQ) (bZ (fP λt ht=>?_) (bZ (h8 _) (bZ (fP fQ) (bZ (fP fQ) (bZ (h9 (by decide +kernel)) (bZ (h9 (by decide +kernel)) fQ)))))))))
 ·obtain ⟨r,LZ,rfl⟩:=List.mem_map.mp ht
  have cn:=AJ (a:=ab1 z c x) pt LZ
  have ez:r.1=z:=by
   rcases cn.2 with ⟨_,h⟩|⟨_,_,h⟩
   ·cases h
   ·have h:=As.Aw h
    rw [List.mem_singleton] at h
    exact congrArg (·.1) h
  exact jD (bZ (h9 (by rw [ez];exact Wm.fz hz)) (bZ (h8 _) (bZ (h8 _) (bZ (vG _) fQ))))
 ·obtain ⟨r,LZ,rfl⟩:=List.mem_map.mp ht
  have:r=(z,wrt (c,0) 0):=by simpa using hlw.mem_iff.mp LZ
  exact jD (bZ (h9 (by rw [this];exact Wm.fz hz)) (bZ (h8 _) fQ))
theorem At.other {S:Sto}{l:List (Addr×O)}{a:Addr}{o o':O}(h:At S l) (e:S a=some o) (hn:∀ x∈l,x.2≠o):At (T2.put S a o') l:=⟨h.nd,λx hx=>(av (di (h.is x hx) e (hn x hx))).trans (h.is x hx)⟩
theorem Gm {B:Cs}{A:Ad}{k q:Addr}{m:Int}{a:Ab}{o o':O}{S:Sto}(h:At S (dl D B A k m ab0)) (hb:cb o) (e:S q=some o):At (T2.put S q o') (dl D B A k m ab0):=by
 obtain ⟨a,b,c,d,rfl⟩:=hb
 refine h.other e λx hx=>?_
 simp only [dl,lay,List.cons_append,List.nil_append,List.mem_cons,List.not_mem_nil,or_false] at hx
 rcases hx with rfl|rfl|rfl|rfl|rfl|rfl|rfl|rfl|rfl|rfl|rfl<;>(intro z;cases z)
def atL:List T2.T:=[.int 0,.int 0,.int 0,.int 1,.int 1,.int 2,.int 3,.int 3,.int 4,.int 4,.int 4,.int 4,.int 5,.int 4,.int 5,.int 6,.int 6,.int 7,.int 7]
theorem sZ {n:Nat}(h:n<19):atI atL (n:Int)=some (.int (tb n:Int)):=by
 rw [lY]
 match n,h with
 |0,_=>rfl
 |1,_=>rfl
 |2,_=>rfl
 |3,_=>rfl
 |4,_=>rfl
 |5,_=>rfl
 |6,_=>rfl
 |7,_=>rfl
 |8,_=>rfl
 |9,_=>rfl
 |10,_=>rfl
 |11,_=>rfl
 |12,_=>rfl
 |13,_=>rfl
 |14,_=>rfl
 |15,_=>rfl
 |16,_=>rfl
 |17,_=>rfl
 |18,_=>rfl
 |n+19,h=>exact absurd h (by omega)
theorem uF {c:Nat}:(⟨#[c]⟩:Str)=Str.ofString " " ↔ c=32:=⟨λh=>by have:=congrArg Tm.tl h;have:[c]=[32]:=this;simpa using this,λh=>by rw [h];rfl⟩
theorem Gn (l:List Nat) (c:Nat):atI (l++[c]) (-1)=some c:=by
 unfold atI ixN
 rw [if_neg (by decide),if_pos (by rw [List.length_append];have:[c].length=1:=rfl;omega),Option.bind_some]
 rw [show (-1+((l++[c]).length:Int)).toNat=l.length by rw [List.length_append];have:[c].length=1:=rfl;omega]
 simp
theorem Go {t:Nat}(h:t<8):(List.range 8).filterMap (λj:Nat=>some (T2.T.bl (false ^^ decide (0+(j:Int)=(t:Int)))))=[.bl (t==0),.bl (t==1),.bl (t==2),.bl (t==3),.bl (t==4),.bl (t==5),.bl (t==6),.bl (t==7)]:=by
 match t,h with
 |0,_=>rfl
 |1,_=>rfl
 |2,_=>rfl
 |3,_=>rfl
 |4,_=>rfl
 |5,_=>rfl
 |6,_=>rfl
 |7,_=>rfl
 |n+8,h=>exact absurd h (by omega)
def gY:WSp:=λts S Q=>∃ ns:List Int,ts=[.scr ns]/\ns.length<=63/\∀ S',Q (.bl true) S'
theorem Gp:FnScope ["_law_script","_law_box_here","_law_word_here","_law_house","_law_layers","_law_typist","_law_full","_law_k","_law_desk","_law_ahead","_law_at","_law_start","_law_kind","_law_due","_law_found"] ["_law_script"] (aj e9):=⟨rfl,rfl,rfl,by decide +kernel,rfl,by decide +kernel,by decide +kernel⟩
theorem Gq (F:!"law" e9) (T:Txt K mg C L R Y D Z)
  (Ke:!1 f1 Ki vv1 (gL C)) (LK:Mk K C f1) (Kf:ap K Ki vv1 [])
  (Kt:!3 f2 Lw eF (mF C L)) (MP:Mk K L f2) (Ku:ap K Lw eF [])
  (Kv:!3 f3 OC eD (mG Y R)) (MQ:Mk K Y f3) (Kw:ap K OC eD [])
  (Mx:!5 f4 Qj ["self","many"] (rF D ⟨C,L,R,Y⟩)) (Ri:Mk K D f4) (Mz:ap K Qj ["self","many"] [])
  (OI:!2 f5 Rh dR i7) (OJ:Df K mg "_law_box" f5 Rh dR)
  (Kg:!1 f6 Qk fM eV) (Kh:Df K mg "_law_take" f6 Qk fM)
  (Ov:!2 f7 Ql ["_law_box_here"] sH) (Ow:Df K mg "_law_word" f7 Ql ["_law_box_here"])
  (LL:!4 f8 Rg vv7 (nQ C)) (KI:Meth K C "put" f8) (KJ:ap K Rg vv7 [])
  (N3:!3 f9 fd9 dS (ui Y)) (Kx:Meth K Y "key" f9) (Kz:ap K fd9 dS [])
  (MZ:!10 f10 fd10 jy (vH D ⟨C,L,R,Y⟩)) (M0:Df K mg "_law_all" f10 fd10 jy)
  (N4:!10 f11 fd11 vv3 (vF D ⟨C,L,R,Y⟩)) (N5:Df K mg "_law_kinds" f11 fd11 vv3):!11 f fd ["_law_script"] gY:=by
 exists Gp
 refine ⟨_,((ak (aI 1 nd (aJ OI OJ hr.m (ac (aa 0) (ac ae af)))) (ak (aI 2 nd (mf false rfl (aJ Ov Ow hr.m (ac (aa 1) af)) md (me ae))) (ak (ax (aq hr (aE (aa 2) (dG ae)) aw) (am (aI 2 nd (aB (bf false) (aa 2) aw))) ay) (ak (aI 3 nd (gz LK Ke Kf hr.m (by rfl) T.mg_Wood)) (ak (eY (bP (T.gf KI) LL KJ hr.m (aa 3) (ac (aa 2) (ac (aJ Kg Kh hr.m (ac (aa 1) (ac ae af))) af)))) (ak (aI 4 nd (gH MP Kt Ku hr.m (by rfl) T.mg_Layers (ac (aa 3) af))) (ak (aI 5 nd (gH MQ Kv Kw hr.m (by rfl) T.mg_Typist (ac (aa 4) (ac (aB (bf false) ae (aJ Kg Kh hr.m (ac (aa 1) (ac ae af)))) af)))) (ak (aI 6 nd (d3 (g6 rfl hr.units) (aJ Kg Kh hr.m (ac (aa 1) (ac ae af))) ae)) (ak (nD PassesOwn.never rfl (fT (by rfl) T.range (aB (dF false) ae (je tO (by rfl) T.int PyProof.Rows.boot_int (ac (aa 6) af)))) (bq 7 nd) (am (eY (bP (T.gu Kx) N3 Kz hr.m (aa 5) (ac aw af))))) (ak (aI 8 nd (gH Ri Mx Mz hr.m (by rfl) T.mg_Desk (ac ae af))) (ak (aI 9 nd (aJ MZ M0 hr.m (ac (aa 3) (ac (aa 4) (ac (aa 5) (ac (aa 8) af)))))) (ak (aI 10 nd (cA (ac ae (ac ae (ac ae (ac ae (ac ae (ac ae (ac ae (ac ae (ac ae (ac ae (ac ae (ac ae (ac ae (ac ae (ac ae (ac ae (ac ae (ac ae (ac ae af))))))))))))))))))))) (ak (aI 11 nd (aJ Kg Kh hr.m (ac (aa 1) (ac ae af)))) (ak (nD PassesOwn.never rfl (fT (by rfl) T.range ae) (bq 7 nd) (ak (aI 12 nd (aB cQ (aB (bf false) (aa 11) (aB (dF false) ae (aa 7))) ae)) (ak (aI 13 nd (aB (bf false) (c9 false ["_law_place","_law_at","_law_kind"] 1 [10,12] rfl (fT (by rfl) T.range ae) (λ_ _ _ _=>(bq 0 (show List.Nodup (["_law_place","_law_at","_law_kind"]:List Str) from by decide +kernel))) (λ_ _ _ _=>c6) (λ_ _ _ _=>(d3 (g6 rfl hr.units) (aa 0) (aE (aa 1) (aa 2))))) (cA (ac fH af)))) (ak (aI 14 nd (aJ N4 N5 hr.m (ac (aa 3) (ac (aa 4) (ac (aa 5) (ac (aa 8) (ac (aa 12) (ac (aa 2) (ac (aa 6) af))))))))) (am (ax (bY (d9 (bo (n6 rfl hr.units) (aa 14) (bX (ac (aa 13) (ac (ja (aq hr (aE (aa 10) (aa 12)) ae) ae (dG ae)) af)))) (d4 (bo (n6 rfl hr.units) (aJ MZ M0 hr.m (ac (aa 3) (ac (aa 4) (ac (aa 5) (ac (aa 8) af))))) (aa 9))))) (am (aG fH)) ay)))))) (am (aG fH))))))))))))))))),aD λv hu ts S Q h=>?_⟩
 obtain ⟨ns,rfl,OB,hq⟩:=h
 ac_nf
 ext
 refine ⟨q,ob,rfl,aA,hbx,λz0 o1 hz0 hb1=>?_⟩
 rw [dB]
 clear hbx
 ext
 dsimp only
 have hl0:=on hz0
 refine tT (by rw [sizeLine_eq];omega) ?_
 obtain ⟨xa,xc,ex,hxl,hw⟩:=AR hz0 20 (by decide) (by decide)
 rw [show ((20:Nat):Int)=20 from rfl] at ex hw
 generalize PySem.Txt.slice z0 none (some 20)=x at ex hw ⊢
 have la:(Str.ofString "a").length=1:=rfl
 have hxn:x.length=xa.length+1:=by rw [<- Tm.len,ex,List.length_append];rfl
 refine T2.tQ rfl ?_
 refine dI (λJ7 S'=>∃ z,Wm.Wd z=true/\S'=put S q o1/\J7=[some (.scr ns),some (.ref q),some (.str z),none,none,none,none,none,none,none,none,none,none,none,none]) ?_ ?_
 ·intro X hX
  ext
  dsimp only
  refine tS (d:=xc) (by rw [sizeLine_eq];omega) (by rw [show x.cps.toList=xa++[xc] from ex];exact Gn xa xc) ?_
  ext
  refine ifN (λe=>?_) λe=>?_
  ·rw [if_pos (uF.mp e)] at hw
   ext
   exact hX _ _ ⟨_,hw,rfl,rfl⟩
  ·rw [if_neg λq=>e (uF.mpr q)] at hw
   ext
   exact hX _ _ ⟨_,hw,rfl,rfl⟩
 rintro J7 S' ⟨z,hz,rfl,rfl⟩
 have hA:At (T2.put S q o1) [(q,o1)]:=⟨by simp,λx hx=>by rw [List.mem_singleton.mp hx];exact aA⟩
 clear hw hxn ex hxl hl0 hz0 hq0
 generalize T2.put S q o1=S1 at hA ⊢
 ext
 intro h0 hh0
 refine ⟨h0,rfl,aA,λe0 he0=>⟨rfl,?_⟩⟩
 have hA:=hA.wood (o:=woO C e0 0) hh0 he0
 unfold woO at hA
 generalize T2.put (T2.put (T2.put S1 h0 _) e0 _) h0 _=S2 at hA ⊢
 clear hh0 he0
 have gh:=hA.get 1 rfl
 ext
 refine gK (by decide) (by decide) (hA.get 2 rfl) hb1 λc o2 c0 c1 O2=>?_
 have hA:=hA.put (o':=o2) 2 rfl
 generalize T2.put S2 q _=S3 at hA ⊢
 ext
 refine ⟨h0,e0,0,[],z,c,rfl,⟨hA.get 1 rfl,hA.get 0 rfl⟩,Nat.zero_le _,hz,rfl,?_⟩
 have hA:=hA.put (o':=.dK (kt mkT ([]++[(z,c,0)]))) 0 rfl
 generalize T2.put S3 e0 _=S4 at hA ⊢
 ext
 intro y0 hy0
 refine ⟨y0,h0,rfl,aA,λS5 p0 d0 v0 gy gp gv dv np nd1 nv kp=>⟨rfl,?_⟩⟩
 have hA:=hA.four hy0 gy gp.ins gp.dct gv np nd1 nv gp.ne (di gp.ins gv (by simp)) dv kp
 clear hy0 gy gp gv dv np nd1 nv kp gh
 ext
 refine gK (by decide) (by decide) (hA.get 6 rfl) O2 λm1 o3 m0 m2 hb3=>?_
 have hA:=hA.put (o':=o3) 6 rfl
 generalize T2.put S5 q _=S6 at hA ⊢
 ext
 intro t0 ht0
 obtain ⟨m,hm⟩:∃ m,m=1+m1:=⟨_,rfl⟩
 rw [<- hm]
 have hm0:0<=m:=by omega
 refine ⟨t0,y0,m,rfl,aA,λS7 q0 g0 c0 gt gq gg gc kp nq ng nc=>⟨rfl,?_⟩⟩
 have hA:=hA.four ht0 gt gq gg gc nq ng nc (di gq gg (by unfold prO;simp)) (di gq gc (by unfold prO;simp)) (di gg gc (by simp)) kp
 clear ht0 gt gq gg gc kp nq ng nc
 ext
 refine gK (by decide) (by decide) (hA.get 10 rfl) hb3 λr2 o4 r20 r21 Ra=>?_
 have hA:=hA.put (o':=o4) 10 rfl
 generalize T2.put S7 q _=S8 at hA ⊢
 have hA:At S8 (lay ⟨C,L,R,Y⟩ ⟨h0,e0,y0,p0,d0,v0,t0,q0,g0,c0⟩ m (ab1 z c "")++[(q,o4)]):=hA.pick [9,8,4,5,6,7,0,1,2,3,10] (by decide) rfl
 ext
 dsimp only
 generalize (false ^^ decide (r2=0))=b
 have hn24:(24 * if b=true then 1 else 0:Int).toNat=if b=true then 24 else 0:=by cases b<;>rfl
 rw [hn24]
 refine kM (λi J7 S'=>∃ x u7,J7=[some (.scr ns),some (.ref q),some (.str z),some (.ref h0),some (.ref y0),some (.ref t0),some (.bl b),u7,none,none,none,none,none,none,none]/\At S' (lay ⟨C,L,R,Y⟩ ⟨h0,e0,y0,p0,d0,v0,t0,q0,g0,c0⟩ m (ab1 z c x)++[(q,o4)])/\PyData.strOk x=true/\x.length=i) ⟨"",none,rfl,hA,by decide +kernel,rfl⟩ ?_ ?_
 ·clear hA
  rintro i J7 S' N hi ⟨x,u7,rfl,hA,xo,hx⟩ hN
  refine ⟨trivial,?_⟩
  have ty:=hA.left.tp.ty
  have gt:=ty
  unfold tyO at gt
  have Ps:x.length<24:=by rw [hx];cases b<;>simp at hi;omega
  ext
  refine ⟨t0,_,_,_,_,x,"a",rfl,ty,by decide,by decide +kernel,Ps,?_⟩
  refine hN _ _ ⟨x ++ "a",_,rfl,hA.put 6 rfl,i3 xo (by decide +kernel),by rw [gB,hx];rfl⟩
 clear hA
 rintro J7 S' ⟨x,u7,rfl,hA,xo,hx⟩
 refine ⟨trivial,?_⟩
 have hb:if b=true then x.length=24 else x="":=by
  cases b with
  |true=>exact hx
  |false=>exact Tm.ext (List.length_eq_zero_iff.mp (by rw [Tm.len];exact hx))
 have Ps:x.length<=24:=by rw [hx];split<;>decide
 clear hx
 ext
 intro k0 hk0
 refine ⟨k0,3,rfl,aA,λS9 A2 hD kp=>⟨rfl,?_⟩⟩
 have hA:=hA.keep λa u e=>kp a u ((av (cX e hk0)).trans e) (cX e hk0)
 clear hk0 kp
 ext
 refine ⟨⟨h0,e0,y0,p0,d0,v0,t0,q0,g0,c0⟩,m,z,c,x,A2,k0,rfl,hA.left,hD,hz,Ps,xo,hm0,λhdg=>?_⟩
 ext
 refine gK (by decide) (by decide) (hA.get 10 rfl) Ra λst o5 st0 st1 hb5=>?_
 have hD:=Gm (a:=ab0) (o':=o5) hD Ra (hA.get 10 rfl)
 have hA:At (T2.put S9 q o5) (lay ⟨C,L,R,Y⟩ ⟨h0,e0,y0,p0,d0,v0,t0,q0,g0,c0⟩ m (ab1 z c x)++[(q,o5)]):=hA.put (o':=o5) 10 rfl
 have hA:=hA.left
 generalize T2.put S9 q o5=S10 at hA hD ⊢
 ext
 dsimp only
 refine kM (λi J7 S'=>S'=S10/\∃ u7 u12 u13 u14,J7=[some (.scr ns),some (.ref q),some (.str z),some (.ref h0),some (.ref y0),some (.ref t0),some (.bl b),u7,some (.ref k0),some (alT z c x m),some (.lst atL),some (.int st),u12,u13,u14]) ⟨rfl,_,_,_,_,rfl⟩ ?_ ?_
 ·rintro i J7 S' N hi ⟨rfl,u7,u12,u13,u14,rfl⟩ hN
  refine ⟨trivial,?_⟩
  ext
  obtain ⟨n,hn,h19⟩:∃ n:Nat,(st+4 * (0+(i:Int))) % 19=n/\n<19:=⟨((st+4 * (0+(i:Int))) % 19).toNat,by omega,by omega⟩
  rw [hn]
  dsimp only
  refine eJ (ls:=List.range 8) (λj:Nat=>T2.T.int (0+(j:Int))) (λj=>some (.bl (false ^^ decide (0+(j:Int)=(tb n:Int))))) [some (.lst atL),some (.int (n:Int))] trivial (by rw [sizeLine_eq];exact Nat.le_of_ble_eq_true rfl) (λj hj u J9 N2 Lc hN2=>?_) ?_
  ·ext
   refine nH (sZ h19) ?_
   ext
   exact ⟨Lc,hN2 _⟩
  rw [Go (uD n)]
  ext
  refine iP rfl rfl (by rw [sizeLine_eq];exact Nat.le_of_ble_eq_true rfl) ?_
  ext
  refine ⟨⟨h0,e0,y0,p0,d0,v0,t0,q0,g0,c0⟩,m,z,c,x,b,A2,k0,n,rfl,hA,hD,hz,Ps,hm0,hb,h19,?_⟩
  have e6:(tb n==6)=decide ((tb n:Int)=6):=by rw [Bool.eq_iff_iff,beq_iff_eq,decide_eq_true_eq];omega
  rw [show kdT n=.tup [.lst ([.bl (tb n==0),.bl (tb n==1),.bl (tb n==2),.bl (tb n==3),.bl (tb n==4),.bl (tb n==5),.bl (tb n==6),.bl (tb n==7)]++[.bl true]),.int (if decide ((tb n:Int)=6) then 1 else -1)] by unfold kdT;rw [<- e6];rfl]
  have hdu:Dg 2 (.lst ([.bl (tb n==0),.bl (tb n==1),.bl (tb n==2),.bl (tb n==3),.bl (tb n==4),.bl (tb n==5),.bl (tb n==6),.bl (tb n==7)]++[.bl true])):=fP (by simp [vG])
  generalize [T2.T.bl (tb n==0),T2.T.bl (tb n==1),T2.T.bl (tb n==2),T2.T.bl (tb n==3),T2.T.bl (tb n==4),T2.T.bl (tb n==5),T2.T.bl (tb n==6),T2.T.bl (tb n==7)]++[T2.T.bl true]=du at hdu ⊢
  ext
  refine nH (sZ h19) ?_
  ext
  refine ifN (λe=>?_) λe=>?_
  iterate 2
   first|rw [decide_eq_true e]|rw [decide_eq_false e]
   ext
   refine sY 3 (by decide) (jD (List.forall_mem_cons.mpr ⟨hdu,List.forall_mem_cons.mpr ⟨h8 _,λ_ h=>nomatch h⟩⟩)) ?_
   ext
   refine ⟨⟨h0,e0,y0,p0,d0,v0,t0,q0,g0,c0⟩,m,z,c,x,A2,k0,rfl,hA,hD,hz,Ps,xo,hm0,λ_=>?_⟩
   ext
   refine sY 3 (by decide) hdg ?_
   ext
   exact hN _ _ ⟨rfl,_,_,_,_,rfl⟩
 rintro J7 S' ⟨rfl,u7,u12,u13,u14,rfl⟩
 refine ⟨trivial,?_⟩
 ext
 exact .mk (hq _)
theorem za {K:PySem.W.Frag}{H:Hp}{a:Addr}{ns:List Int}{E:XK}(h:ns.length<=63) (hO:jn H) (hS:SqL K H a (ns.map V.int)):lSp K gY [.ref a] H (λv _=>v=.bl true) E:=by
 refine ⟨λ_=>none,[.scr ns],λt _=>t=.bl true,?_,.cons (.scr ?_) .nil,⟨ns,rfl,h,λ_=>rfl⟩,?_⟩
 ·intro b o e;cases e
 rotate_left
 ·intro v H' t S' _ _ r e
  subst e;cases r;rfl
 rcases hS with (e|⟨o,e⟩)|e
 ·rcases hO a with z|⟨ob,xs,z⟩
  ·rw [e] at z;cases z
  ·rw [e] at z;cases z
 ·exact .inl ⟨rfl,o,e⟩
 ·exact .inr (.inr e)
end
end My
namespace My
open PySem L2 T2
section
variable {K:W.Frag}{h:Heap}{mg:Str->Option Value}{x q:Str}{st:Stmt}{f C:Addr}
theorem ln0 {P:List Value->Prop}(h:P []) (us:List Value) (e:us.length=0):P us:=by
 rcases us with _|⟨_,_⟩<;>first|(cases e;done)|exact h
theorem ln1 {P:List Value->Prop}(h:∀ a,P [a]) (us:List Value) (e:us.length=1):P us:=by
 rcases us with _|⟨_,_|⟨_,_⟩⟩<;>first|(cases e;done)|exact h _
theorem ln2 {P:List Value->Prop}(h:∀ a b,P [a,b]) (us:List Value) (e:us.length=2):P us:=by
 rcases us with _|⟨_,_|⟨_,_|⟨_,_⟩⟩⟩<;>first|(cases e;done)|exact h _ _
theorem ln3 {P:List Value->Prop}(h:∀ a b c,P [a,b,c]) (us:List Value) (e:us.length=3):P us:=by
 rcases us with _|⟨_,_|⟨_,_|⟨_,_|⟨_,_⟩⟩⟩⟩<;>first|(cases e;done)|exact h _ _ _
theorem ln4 {P:List Value->Prop}(h:∀ a b c d,P [a,b,c,d]) (us:List Value) (e:us.length=4):P us:=by
 rcases us with _|⟨_,_|⟨_,_|⟨_,_|⟨_,_|⟨_,_⟩⟩⟩⟩⟩<;>first|(cases e;done)|exact h _ _ _ _
theorem ln7 {P:List Value->Prop}(h:∀ a0 a1 a2 a3 a4 a5 a6,P [a0,a1,a2,a3,a4,a5,a6]) (us:List Value) (e:us.length=7):P us:=by
 rcases us with _|⟨_,_|⟨_,_|⟨_,_|⟨_,_|⟨_,_|⟨_,_|⟨_,_|⟨_,_⟩⟩⟩⟩⟩⟩⟩⟩<;>first|(cases e;done)|exact h _ _ _ _ _ _ _
theorem Dn.mk (d:Dn K x st f) (X:K.In h) (G:h.Ns mainGlobals mg) (ps:List Str) (hb:∀ (kV doc pm:Value) (an:Option Addr) (cdv ct:Value) (us:List Value),us.length=ps.length->bindArgs (W.fnOf x x (cx st) (bO st) (aj st) .none kV doc pm an cdv ct) ⟨us,[]⟩=pure (ps.zip us):=by
  first|exact λ_ _ _ _ _ _=>My.ln1 λ_=>rfl|exact λ_ _ _ _ _ _=>My.ln2 λ_ _=>rfl|exact λ_ _ _ _ _ _=>My.ln3 λ_ _ _=>rfl|exact λ_ _ _ _ _ _=>My.ln4 λ_ _ _ _=>rfl|exact λ_ _ _ _ _ _=>My.ln7 λ_ _ _ _ _ _ _=>rfl|exact λ_ _ _ _ _ _=>My.ln0 rfl):∃ fd,Fun K x x st f fd/\Df K mg x f fd ps:=by
 obtain ⟨a,oc,od,kV,dc,pm,an,cd,ct,sl,l,c,k⟩:=d
 have F:=rN l c k
 exact ⟨_,F,W.mg_of X G a,k,F.binds hb⟩
theorem Mn.mk (d:Mn K C x q st f) (ps:List Str) (hb:∀ (kV doc pm:Value) (an:Option Addr) (cdv ct:Value) (us:List Value),us.length=ps.length->bindArgs (W.fnOf x q (cx st) (bO st) (aj st) .none kV doc pm an cdv ct) ⟨us,[]⟩=pure (ps.zip us):=by
  first|exact λ_ _ _ _ _ _=>My.ln1 λ_=>rfl|exact λ_ _ _ _ _ _=>My.ln2 λ_ _=>rfl|exact λ_ _ _ _ _ _=>My.ln3 λ_ _ _=>rfl|exact λ_ _ _ _ _ _=>My.ln4 λ_ _ _ _=>rfl|exact λ_ _ _ _ _ _=>My.ln0 rfl):∃ fd,FunD K x q st f fd/\Meth K C x f/\ap K fd ps []:=by
 obtain ⟨a,i,oc,od,kV,dc,pm,an,cd,ct,sl,l,c,k⟩:=d
 exact ⟨_,⟨⟨_,_,_,_,_,_,_,_,_,_,rfl,l,c⟩⟩,⟨a,i,k⟩,.all (hb _ _ _ _ _ _)⟩
theorem Md.mk {i:Int}(d:Md K C x q st i f) (ps:List Str) (hb:∀ (e:Addr) (tk:Tok) (n:Nat) (oc:Value) (od:Option Addr) (sl:Array (Option Value)) (kV doc pm:Value) (an:Option Addr) (cdv ct:Value),K.lookup e=some ⟨oc,od,.seq #[.int i tk] n,sl⟩->ap K (W.fnOf x q (cx st) (bO st) (aj st) (.ref e) kV doc pm an cdv ct) ps []/\ap K (W.fnOf x q (cx st) (bO st) (aj st) (.ref e) kV doc pm an cdv ct) ps [.int i tk]:=by
  intro _ _ _ _ _ _ _ _ _ _ _ _ e;constructor<;>intro s us X h<;>rcases us with _|⟨_,_|⟨_,_|⟨_,_|⟨_,_⟩⟩⟩⟩<;>first|(cases h;done)|exact BindsTo.of_defaults rfl (X _ _ e) rfl rfl rfl):∃ fd tk,FunD K x q st f fd/\Meth K C x f/\ap K fd ps []/\ap K fd ps [.int i tk]:=by
 obtain ⟨a,j,e,tk,n,oc',od',sl',⟨oc,od,kV,dc,pm,an,cd,ct,sl,l,c,k⟩,g⟩:=d
 obtain ⟨b1,b2⟩:=hb _ _ _ _ _ _ kV dc pm an cd ct g
 exact ⟨_,tk,⟨⟨_,_,_,_,_,_,_,_,_,_,rfl,l,c⟩⟩,⟨a,j,k⟩,b1,b2⟩
theorem hid {G:Prop}(h:∀ P:Prop,(G->P)->P):G:=h G id
theorem Cn.cl (c:Cn K x C):Cls K C:=⟨c.2.1,c.2.2.1,c.2.2.2.1,c.2.2.2.2.1⟩
theorem Cn.mk (c:Cn K x C) (m:Meth K C "__init__" f):Mk K C f:=⟨c.2.2.2.2.2.1,m.at_,m.fn,c.2.2.2.2.2.2⟩
end
set_option hygiene false in
local macro_rules|`(‹$f:ident›)=>`($f (P:=l.prog) (w:=w) (mg:=mg) (base:=base))
theorem Gs {l:W.OpenLaw}{w:World}{K:W.Frag}{h:Heap}{mg:Str->Option Value}{fa:Addr}(X:K.In h) (G:h.Ns mainGlobals mg) (hfa:mg "law"=some (.ref fa)) (hF:Fx K) :
  ∃ fd:FuncData,(∀ (s:Shared) (v:Value),BindsTo s fd ⟨[v],[]⟩ [("_law_script",v)])/\∀ base:Heap,K.In base->base.Ns mainGlobals mg->FnOk l.prog w K mg base CX0 11 fa fd ["_law_script"] (lSp K gY):=by
 refine hid λP hP=>hF P ?_
 intro fr fb f1 f2 f3 f4 f5 frk fig ftk fwo ffg fnb fro fwt frd fnw fcw fls ftt fra fnu fnf fca fbx fta flo flt fld flx flk fla flw fwi fwm fwq fwu fwz fwe fwh fwb fww fyi fyz fyh fys fya fye fyu fyo fyd fpi fpw fui fuk fub fud ful fuh fut fuz fdi fds fda fdw fdc fni Rj Pt Qm Pu Rl Pw Qn Px Py OL Qo Pz PB N6 P2 P4 Pa Pb PC P5 PD OM m_wi m_wm m_wq m_wu m_wz m_we m_wh m_wb m_ww N7 ON M3 m_yi m_yz m_yh m_ys m_ya m_ye m_yu m_yo m_yd M4 N8 MA N9 m_pi m_pw NE Ox M5 m_ui m_uk m_ub m_ud m_ul m_uh m_ut m_uz MB NF M6 NG MC OO m_di m_ds m_da m_dw m_dc Oa NH NI PF Qp PH PL OP Qq PM PN Ob m_ni d_r d_b d_1 d_2 d_3 d_4 d_5 d_rk d_ig d_tk d_wo d_fg d_nb d_ro d_wt d_rd d_nw d_cw d_ls d_tt d_ra d_nu d_nf d_ca d_bx d_ta d_lo d_lt d_ld d_lx d_lk d_la d_lw z_len Qr z_all PP Oc z_int z_str Rm z_max Oy Od t_ss Oe Of M7 M8 NJ Og NK PQ Qs PU PV OQ Qu PX xe7 xr xsp xrd xfc xxa
 have e:=hfa.symm.trans (W.mg_of X G d_lw.1)
 cases e
 have T:Txt K mg Rj Pt Qm Pu Rl ⟨Pw,Qn,Px,Py,OL,Qo,Pz,PB,N6,fni⟩:=⟨W.mg_none_of X G z_len,W.mg_none_of X G Qr,W.mg_none_of X G z_all,W.mg_none_of X G PP,W.mg_none_of X G Oc,W.mg_none_of X G z_int,W.mg_none_of X G z_str,W.mg_none_of X G Rm,W.mg_none_of X G z_max,W.mg_none_of X G Oy,W.mg_none_of X G Od,t_ss,⟨_,W.mg_of X G Oe⟩,⟨_,W.mg_of X G Of⟩,⟨_,W.mg_of X G M7⟩,⟨_,W.mg_of X G M8⟩,⟨_,W.mg_of X G NJ⟩,⟨_,W.mg_of X G Og⟩,⟨_,W.mg_of X G NK⟩,W.mg_of X G OM.1,OM.cl,N7,ON,W.mg_of X G M3.1,M3.cl,M4,N8,MA,W.mg_of X G N9.1,N9.cl,NE,Ox,W.mg_of X G M5.1,M5.cl,MB,NF,M6,NG,MC,W.mg_of X G OO.1,OO.cl,Oa,NH,NI,W.mg_of X G PF,W.mg_of X G Qp,W.mg_of X G PH,W.mg_of X G PL,W.mg_of X G OP,W.mg_of X G Qq,W.mg_of X G PM,W.mg_of X G PN,W.mg_of X G Ob,PQ,Qs,PU,PV,OQ,Qu,PX,xe7,m_ni.2.1,xr,xsp,xrd,xfc,xxa⟩
 obtain ⟨_,Fwi,Mwi,Bwi⟩:=m_wi.mk ["self"]
 have MD:=OM.mk Mwi
 obtain ⟨_,Fwm,Mwm,Bwm⟩:=m_wm.mk ["self","word"]
 obtain ⟨_,Fwq,Mwq,Bwq⟩:=m_wq.mk ["self","word","count"]
 obtain ⟨_,_,Fwu,Mwu,Bwu,B0wu⟩:=m_wu.mk ["self","word","times"]
 obtain ⟨_,Fwz,Mwz,Bwz⟩:=m_wz.mk ["self","word"]
 obtain ⟨_,Fwe,Mwe,Bwe⟩:=m_we.mk ["self"]
 obtain ⟨_,Fwh,Mwh,Bwh⟩:=m_wh.mk ["self","word"]
 obtain ⟨_,Fwb,Mwb,Bwb⟩:=m_wb.mk ["self","beginning"]
 obtain ⟨_,Fww,Mww,Bww⟩:=m_ww.mk ["self"]
 obtain ⟨_,Fyi,Myi,Byi⟩:=m_yi.mk ["self","house"]
 have NN:=M3.mk Myi
 obtain ⟨_,Fyz,Myz,Byz⟩:=m_yz.mk ["self","word"]
 obtain ⟨_,Fyh,Myh,Byh⟩:=m_yh.mk ["self","word"]
 obtain ⟨_,Fys,Mys,Bys⟩:=m_ys.mk ["self","word"]
 obtain ⟨_,Fya,Mya,Bya⟩:=m_ya.mk ["self","beginning"]
 obtain ⟨_,Fye,Mye,Bye⟩:=m_ye.mk ["self","word"]
 obtain ⟨_,_,Fyu,Myu,Byu,B0yu⟩:=m_yu.mk ["self","word","times"]
 obtain ⟨_,Fyo,Myo,Byo⟩:=m_yo.mk ["self"]
 obtain ⟨_,Fyd,Myd,Byd⟩:=m_yd.mk ["self"]
 obtain ⟨_,Fpi,Mpi,Bpi⟩:=m_pi.mk ["self"]
 have PY:=N9.mk Mpi
 obtain ⟨_,Fpw,Mpw,Bpw⟩:=m_pw.mk ["self","before","word"]
 obtain ⟨_,Fui,Mui,Bui⟩:=m_ui.mk ["self","layers","many"]
 have NO:=M5.mk Mui
 obtain ⟨_,Fuk,Muk,Buk⟩:=m_uk.mk ["self","sign"]
 obtain ⟨_,Fub,Mub,Bub⟩:=m_ub.mk ["self"]
 obtain ⟨_,Fud,Mud,Bud⟩:=m_ud.mk ["self"]
 obtain ⟨_,Ful,Mul,Bul⟩:=m_ul.mk ["self"]
 obtain ⟨_,Fuh,Muh,Buh⟩:=m_uh.mk ["self"]
 obtain ⟨_,Fut,Mut,But⟩:=m_ut.mk ["self"]
 obtain ⟨_,Fuz,Muz,Buz⟩:=m_uz.mk ["self","number"]
 obtain ⟨_,Fdi,Mdi,Bdi⟩:=m_di.mk ["self","many"]
 have Qv:=OO.mk Mdi
 obtain ⟨_,Fds,Mds,Bds⟩:=m_ds.mk ["self","row"]
 obtain ⟨_,Fda,Mda,Bda⟩:=m_da.mk ["self","row"]
 obtain ⟨_,Fdw,Mdw,Bdw⟩:=m_dw.mk ["self","name","rest"]
 obtain ⟨_,Fdc,Mdc,Bdc⟩:=m_dc.mk ["self","name","rest"]
 obtain ⟨_,Fni,Mni,Bni⟩:=m_ni.mk ["self","row"]
 obtain ⟨_,Fr,Dr⟩:=d_r.mk X G ["pair"]
 obtain ⟨_,Fb,Db⟩:=d_b.mk X G ["rated","many"]
 obtain ⟨_,F1,D1⟩:=d_1.mk X G ["sign"]
 obtain ⟨_,F2,D2⟩:=d_2.mk X G ["text"]
 obtain ⟨_,F3,D3⟩:=d_3.mk X G ["thing"]
 obtain ⟨_,F4,D4⟩:=d_4.mk X G ["mark","era"]
 obtain ⟨_,F5,D5⟩:=d_5.mk X G ["mark","era","times"]
 obtain ⟨_,Frk,Drk⟩:=d_rk.mk X G ["one"]
 obtain ⟨_,Fig,Dig⟩:=d_ig.mk X G ["text"]
 obtain ⟨_,Ftk,Dtk⟩:=d_tk.mk X G ["one"]
 obtain ⟨_,Fwo,Dwo⟩:=d_wo.mk X G ["rated","own"]
 obtain ⟨_,Ffg,Dfg⟩:=d_fg.mk X G ["sign"]
 obtain ⟨_,Fnb,Dnb⟩:=d_nb.mk X G ["text","most_figures"]
 obtain ⟨_,Fro,Dro⟩:=d_ro.mk X G ["text"]
 obtain ⟨_,Fwt,Dwt⟩:=d_wt.mk X G ["wood"]
 obtain ⟨_,Frd,Drd⟩:=d_rd.mk X G ["texts"]
 obtain ⟨_,Fnw,Dnw⟩:=d_nw.mk X G ["text","least","most"]
 obtain ⟨_,Fcw,Dcw⟩:=d_cw.mk X G ["text"]
 obtain ⟨_,Fls,Dls⟩:=d_ls.mk X G ["texts"]
 obtain ⟨_,Ftt,Dtt⟩:=d_tt.mk X G ["number","word","own"]
 obtain ⟨_,Fra,Dra⟩:=d_ra.mk X G ["wood","beginning","word"]
 obtain ⟨_,Fnu,Dnu⟩:=d_nu.mk X G ["wood","beginning","word","many"]
 obtain ⟨_,Fnf,Dnf⟩:=d_nf.mk X G ["wood","beginning","word","many"]
 obtain ⟨_,Fca,Dca⟩:=d_ca.mk X G ["_law_script","_law_k"]
 obtain ⟨_,Fbx,Dbx⟩:=d_bx.mk X G ["_law_script","_law_k"]
 obtain ⟨_,Fta,Dta⟩:=d_ta.mk X G ["_law_box_here","_law_many"]
 obtain ⟨_,Flo,Dlo⟩:=d_lo.mk X G ["_law_box_here"]
 obtain ⟨_,Flt,Dlt⟩:=d_lt.mk X G ["_law_typist","_law_kind","_law_full"]
 obtain ⟨_,Fld,Dld⟩:=d_ld.mk X G ["_law_house","_law_layers","_law_kind","_law_word_here"]
 obtain ⟨_,Flx,Dlx⟩:=d_lx.mk X G ["_law_desk","_law_kind","_law_word_here"]
 obtain ⟨_,Flk,Dlk⟩:=d_lk.mk X G ["_law_house","_law_layers","_law_typist","_law_desk","_law_kind","_law_word_here","_law_full"]
 obtain ⟨_,Fla,Dla⟩:=d_la.mk X G ["_law_house","_law_layers","_law_typist","_law_desk"]
 obtain ⟨_,oc,od,kV,dc,pm,an,cd,ct,sl,le,c,k⟩:=d_lw
 have Flw:=rN le c k
 refine hP ⟨W.fnOf "law" "law" (cx e9) (bO e9) (aj e9) .none kV dc pm an cd ct,λs v=>.of_eq rfl,λbase _ _=>?_⟩
 have Gta:=‹CD› Fta
 have Gca:=‹CF› Fca T
 have Gbx:=‹FN› Fbx Gca Dca
 have Glo:=‹CH› Flo T Gta Dta
 have G1:=‹yU› F1
 have G2:=‹yV› F2 T G1 D1
 have G3:=‹yW› F3 T G2 D2
 have G4:=‹AA› F4
 have Gwi:=‹CI› Fwi T
 have Gwq:=‹FO› Fwq T G3 D3
 have Gwb:=‹AC› Fwb T G4 D4
 have Gwh:=‹FP› Fwh T
 have Gww:=‹yX› Fww T Gwb Mwb Bwb
 have Gr:=‹CJ› Fr
 have Gb:=‹CK› Fb T Gr Dr
 have Rwm:=‹CL› Fwm T
 have Rwq:=‹FQ› Fwq T G3 D3
 have Rwu:=‹FR› Fwu T D5 Rwm Mwm Bwm
 have Rwz:=‹yY› Fwz T Rwm Mwm Bwm
 have Gwo:=‹CM› Fwo T Gb Db
 have Gyi:=‹AE› Fyi T Gwi MD Bwi
 have Gye:=‹CN› Fye T Gwh Mwh Bwh
 have Gya:=‹FU› Fya T Gwb Mwb Bwb Gye Mye Bye Gwo Dwo
 have Ryz:=‹xU› Fyz T Rwz Mwz Bwz
 have Ryh:=‹CO› Fyh T G3 D3
 have Rys:=‹CP› Fys T
 have Ryu:=‹CQ› Fyu T Gwh Mwh Bwh Rwu Mwu Bwu
 have Gpi:=‹AF› Fpi T
 have Gpw:=‹Ix› Fpw T G4 D4
 have Gig:=‹CU› Fig T G1 D1
 have Gui:=‹AG› Fui T Gpi PY Bpi
 have Guk:=‹FZ› Fuk T Gig Dig
 have Ruk:=‹F0› Fuk T Gig Dig
 have Rub:=‹CV› Fub T
 have Gud:=‹AH› Fud T
 have Gul:=‹CW› Ful T
 have Guh:=‹CY› Fuh T
 have Grk:=‹Iy› Frk Gr Dr
 have Gtk:=‹Iz› Ftk Grk Drk
 have Gut:=‹C0› Fut T Guh Muh Buh Gya Mya Bya Gpw Mpw Bpw Gtk Dtk
 have Ruz:=‹AK› Fuz T Gut Mut But
 have Gfg:=‹y1› Ffg
 have Gnb:=‹y3› Fnb T Gfg Dfg
 have Rnw:=‹y4› Fnw T Gnb Dnb
 have Rcw:=‹F9› Fcw T Rnw Dnw
 have Gls:=‹y7› Fls T
 have Gtt:=‹ID› Ftt T
 have Gwt:=‹IE› Fwt T Gww Mww Bww
 have Gda:=‹IF› Fda T Gut Mut But Gls Dls Gtt Dtt Gwt Dwt
 have Gds:=‹Ga› Fds T Gda Mda Bda
 have Rdc:=‹Gc› Fdc T Rcw Dcw
 have Rdw:=‹Gd› Fdw T Muz Rdc Mdc Bdc Rnw Dnw
 have Rds:=‹Ge› Fds T Rdw Mdw Bdw
 have Gdi:=‹AN› Fdi T Gwi MD Bwi Gyi NN Byi Gui NO Bui
 have Gwe:=‹Gf› Fwe T
 have Gyo:=‹Gg› Fyo T Gww Mww Bww
 have Gyd:=‹y8› Fyd T
 have Gro:=‹xW› Fro T Gnb Dnb G3 D3
 have Gni:=‹AO› Fni T
 have Rrd:=‹C3› Frd T Gro Dro Gwi MD Bwi Gwq Mwq Bwq Gni Bni
 have Rra:=‹y9› Fra T Gwh Mwh Bwh
 have Rnu:=‹C4› Fnu T Rra Dra
 have Rnf:=‹AQ› Fnf T Rra Dra
 have Glt:=‹Gj› Flt T
 have Rlt:=‹II› Flt T Ruk Muk Buk Rub Mub Bub Ruz Muz Buz
 have Gld:=‹Gk› Fld T
 have Rld:=‹IK› Fld T Rwq Mwq Bwq Ryh Myh Byh Rys Mys Bys Ryu Myu B0yu Ryz Myz Byz Rnu Dnu Rnf Dnf
 have Rlx:=‹IL› Flx T Rrd Drd Rds Mds Bds
 have Glk:=‹IM› Flk T Glt Dlt Rlt Gld Dld Rld Rlx Dlx
 have Gla:=‹IN› Fla T Gut Mut But Gud Mud Bud Gul Mul Bul Gww Mww Bww Gwe Mwe Bwe Gyo Myo Byo Gyd Myd Byd Gds Mds Bds
 exact Gq Flw T Gwi MD Bwi Gyi NN Byi Gui NO Bui Gdi Qv Bdi Gbx Dbx Gta Dta Glo Dlo Gwq Mwq Bwq Guk Muk Buk Gla Dla Glk Dlk
theorem JZ {l:PySem.W.OpenLaw}{q:Program}{loose:List Str}{XP:(Str->Option Value)->Heap->Prop}{YP:World->Heap->Prop}{d:DefRec}{K:Params->PySem.W.Frag}(hn:l.most=some 63) (hdf:d.params.defaults=[])
  (hY:∀ (w:World) (h:Heap),YP w h->(K w.params).In h)
  (F:∀ (w:World) (mg:Str->Option Value) (fa:Addr) (h:Heap),(K w.params).In h->h.Ns mainGlobals mg->mg d.name=some (.ref fa) ->
   ∃ fd:FuncData,(∀ (s:Shared) (u:Value),BindsTo s fd ⟨[u],[]⟩ [("_law_script",u)])/\∀ base:Heap,(K w.params).In base->base.Ns mainGlobals mg->FnOk l.prog w (K w.params) mg base CX0 11 fa fd ["_law_script"] (T2.lSp (K w.params) gY)) :
  PySem.W.WalkO q loose XP YP l.row.toRowW d [] (λf vs=>PySem.call f vs) :=
 L2.Bm (n:=63) (k:=11) (x:="_law_script") (CX:=λ_=>CX0) (sp:=λw=>T2.lSp (K w.params) gY) hn (by decide) hdf ⟨rfl,by decide,by decide,rfl⟩ hY F (λ_ _ a ns hl hO hS=>za hl hO hS) λ_ _ _ _ _ z=>z
end My
theorem PySem.Challenge.cw_aheadword_k62_refusals_apart_holds : PySem.Challenge.rw_aheadword_k62_refusals_apart.Holds :=
 My.headL λ_ _ _ _ d K h1 h2 hd hK hF=>My.JZ (l:=PySem.Challenge.rw_aheadword_k62_refusals_apart) h1 h2 hK λw mg fa h KX G hmg=>My.Gs KX G (by rw [hd] at hmg;exact hmg) (hF w)
end

import PyProof.Rows.All
import OpenK.KWalk
import OpenK.KCls
import OpenK.KTop
import OpenK.KLaw
import Wide.FinOn
import KE.RegKIsAll
import KE.KItem
import KE.KxBytes
import PyProof.EqAt
import PyProof.EqKinds
import PyProof.NeData
import PyProof.TupleCall
import PyProof.MinMaxWalk
import KE.KDictList
import KE.KDictOf
import KE.KEqDict
import PyProof.AttrMissHeap
import PyProof.EnumFor
import PyProof.EnumMake
import PyProof.EnumStmt
import PyProof.TupleIter
import PyProof.Seq
import KE.KPairComp
import PyProof.DictItems
import PyProof.DictRoadsH
import PyProof.ReprRoads
import PyProof.ReprLen
import PyProof.StrLawsRepr
import PyProof.ExcClass2
import PyProof.InstStoreFacts
import PyProof.Rows.FStr
import PyProof.ExcAttrAll.ValueError
import KE.KDictSum
import KE.KRevSl
import PyProof.RaisesMany
import PyProof.RulesTry
import KE.KTryMore
import PyProof.RulesAs
import PyProof.ReprStr
import PyProof.ListStr
import PyProof.StrLawsIn
import KE.KDictLaws
import PyProof.NsDelKeeps
import PyProof.FString4
import PyProof.FString5
import PyProof.P3In
import PyProof.P3Eq
import PyProof.PureStr
import PyProof.Rows.SortKeyStr
import PyProof.Rows.SortPure
import PyProof.Rows.SortShell
import PySem.Challenge.RW_aheadword_k07_wood_refused
set_option maxHeartbeats 4000000
set_option Elab.async false
set_option linter.all false
namespace L2
open PySem
noncomputable abbrev sU:List Value:=[.type "ValueError",.type "Exception",.type "BaseException",.type "object"]
noncomputable def b8 (K:PySem.W.Frag) (C:Addr) (r:Option Value):Bool:=match K.lookup C with
 |some o=>o.cls==.type "type" && match o.data with
  |.cls cd=>(match cd.mro with
   |v::bm=>v==.ref C&&o.slots.toList.length==6&&o.slots.toList[4]?==some (some (.builtin "ValueError.__new__"))&&!cd.hasDel&&PySem.W.tailIn K sU bm&&PySem.W.nsOkIn K cd.ns&&PySem.W.nsIn K cd.ns "__init__" == some r
   |[]=>false)
  |_=>false
 |none=>false
noncomputable def dk (K:PySem.W.Frag) (C:Addr):Bool:=PySem.W.keepIn K (.ref C)&&PySem.W.findIn K (.ref C) "__getattribute__" == some (some (.builtin "BaseException.__getattribute__"))&&PySem.W.findIn K (.ref C) "__getattr__" == some none&&PySem.W.mroIn K C (.type "BaseException")==some true &&
 (PySem.W.clsIn K C).isSome&&PySem.W.findIn K (.ref C) "__class__" == some (some (.builtin "object.__class__"))&&PySem.W.specialIn K (.builtin "object.__class__") "__get__" == some (some (.builtin "getset_descriptor.__get__"))&&PySem.W.takesIn K (.builtin "object.__class__")==some true &&
 PySem.W.mroIn K C (.type "object")==some true
noncomputable def bS (s:Stmt) (j:Nat):Stmt:=match s with
 |.ClassDef _ _ _ body _ _ _ _ _ _ _=>body.getD j (.Pass ⟨0,0,0,0⟩)
 |_=>.Pass ⟨0,0,0,0⟩
noncomputable def av (s:Stmt):Arguments:=match s with
 |.FunctionDef _ a _ _ _ _ _ _ _ _=>a
 |_=>{ posonlyargs:=[],args:=[],vararg:=none,kwonlyargs:=[],kw_defaults:=[],kwarg:=none,defaults:=[] }
noncomputable def ao (s:Stmt):List Stmt:=match s with
 |.FunctionDef _ _ b _ _ _ _ _ _ _=>b
 |_=>[]
noncomputable def aj (s:Stmt):Scope:=match s with
 |.FunctionDef _ _ _ _ _ _ sc _ _ _=>sc
 |_=>{ kind:=.function,names:=[],isGenerator:=false,isCoroutine:=false }
end L2
namespace My
open PySem L2
noncomputable def top (i:Nat):Stmt:=PySem.Challenge.pw_aheadword_k07_wood_refused.main.body.getD i (.Pass ⟨0,0,0,0⟩)
noncomputable abbrev d9:Stmt:=top 12
noncomputable abbrev eG:Stmt:=top 13
noncomputable abbrev d5:Stmt:=top 18
noncomputable abbrev eI:Stmt:=top 19
noncomputable abbrev eJ:Stmt:=top 20
noncomputable abbrev eg:Stmt:=top 21
noncomputable abbrev d6:Stmt:=top 22
noncomputable abbrev dZ:Stmt:=top 23
noncomputable abbrev cN:Stmt:=bS (top 25) 0
noncomputable abbrev cy:Stmt:=bS (top 25) 1
noncomputable abbrev cC:Stmt:=bS (top 25) 2
noncomputable abbrev bR:Stmt:=bS (top 25) 3
noncomputable abbrev cz:Stmt:=bS (top 25) 4
noncomputable abbrev cO:Stmt:=bS (top 25) 5
noncomputable abbrev cQ:Stmt:=bS (top 25) 6
noncomputable abbrev cR:Stmt:=bS (top 25) 7
noncomputable abbrev cx:Stmt:=bS (top 25) 8
noncomputable abbrev cL:Stmt:=bS (top 25) 9
noncomputable abbrev cM:Stmt:=bS (top 25) 10
noncomputable abbrev cK:Stmt:=bS (top 25) 11
noncomputable abbrev cP:Stmt:=bS (top 25) 12
noncomputable abbrev d0:Stmt:=top 27
noncomputable abbrev eK:Stmt:=top 28
noncomputable abbrev eC:Stmt:=top 29
noncomputable abbrev eD:Stmt:=top 30
noncomputable abbrev d3:Stmt:=top 31
noncomputable abbrev d7:Stmt:=top 32
noncomputable abbrev eE:Stmt:=top 33
noncomputable abbrev eF:Stmt:=top 34
noncomputable abbrev d8:Stmt:=top 35
noncomputable abbrev d4:Stmt:=top 36
noncomputable abbrev cT:Stmt:=top 37
noncomputable def Fx (K:W.Frag):Prop:=∀ R:Prop,(∀ {fr fb f1 f2 f3 f4 f5 fga fce fbx fd fw fnw fki fsd flk fak fiw flw fwi fwm fwq fwu fwz fwf fwe fwh fwx fwb fwv fwt fwo C_Wood C_NoWord C_Twice C_Absent C_AheadError C_Beside C_NoChoice C_NoRow C_NoSign C_NoText:Addr}
  {odr anr odb anb od1 an1 od2 an2 od3 an3 od4 an4 od5 an5 odga anga odce ance odbx anbx odd and odw anw odnw annw odki anki odsd ansd odlk anlk odak anak odiw aniw odlw anlw odwi anwi odwm anwm odwq anwq odwu anwu odwz anwz odwf anwf odwe anwe odwh anwh odwx anwx odwb anwb odwv anwv odwt anwt odwo anwo oddwu oddwf:Option Addr}{slr slb sl1 sl2 sl3 sl4 sl5 slga slce slbx sld slw slnw slki slsd sllk slak sliw sllw slwi slwm slwq slwu slwz slwf slwe slwh slwx slwb slwv slwt slwo sldwu sldwf:Array (Option Value)}{ocr kVr dcr pmr cdr ctr ocb kVb dcb pmb cdb ctb oc1 kV1 dc1 pm1 cd1 ct1 oc2 kV2 dc2 pm2 cd2 ct2 oc3 kV3 dc3 pm3 cd3 ct3 oc4 kV4 dc4 pm4 cd4 ct4 oc5 kV5 dc5 pm5 cd5 ct5 ocga kVga dcga pmga cdga ctga occe kVce dcce pmce cdce ctce ocbx kVbx dcbx pmbx cdbx ctbx ocd kVd dcd pmd cdd ctd ocw kVw dcw pmw cdw ctw ocnw kVnw dcnw pmnw cdnw ctnw ocki kVki dcki pmki cdki ctki ocsd kVsd dcsd pmsd cdsd ctsd oclk kVlk dclk pmlk cdlk ctlk ocak kVak dcak pmak cdak ctak ociw kViw dciw pmiw cdiw ctiw oclw kVlw dclw pmlw cdlw ctlw ocwi kVwi dcwi pmwi cdwi ctwi ocwm kVwm dcwm pmwm cdwm ctwm ocwq kVwq dcwq pmwq cdwq ctwq ocwu kVwu dcwu pmwu cdwu ctwu ocwz kVwz dcwz pmwz cdwz ctwz ocwf kVwf dcwf pmwf cdwf ctwf ocwe kVwe dcwe pmwe cdwe ctwe ocwh kVwh dcwh pmwh cdwh ctwh ocwx kVwx dcwx pmwx cdwx ctwx ocwb kVwb dcwb pmwb cdwb ctwb ocwv kVwv dcwv pmwv cdwv ctwv ocwt kVwt dcwt pmwt cdwt ctwt ocwo kVwo dcwo pmwo cdwo ctwo ocdwu ocdwf:Value}
  {tk_MOST_SIGNS:Tok}
  {tk_MOST_PARTS:Tok}
  {tk_MOST_LETTERS:Tok}
  {dTwu:Addr}{tkdwu:Tok}{ndwu:Nat}
  {dTwf:Addr}{tkdwf:Tok}{ndwf:Nat}
  (aC_Wood:W.nsIn K mainGlobals "Wood"=some (some (.ref C_Wood)))
  (awi:W.findIn K (.ref C_Wood) "__init__"=some (some (.ref fwi))) (iwi:W.isFn K (.ref fwi)=true) (lwi:K.lookup fwi=some ⟨ocwi,odwi,.func (W.fnOf "__init__" "Wood.__init__" (av cN) (ao cN) (aj cN) .none kVwi dcwi pmwi anwi cdwi ctwi),slwi⟩) (cwi:W.codeIn K cdwi "Wood.__init__"=true) (kwi:W.keepIn K (.ref fwi)=true)
  (awm:W.findIn K (.ref C_Wood) "mark_of"=some (some (.ref fwm))) (iwm:W.isFn K (.ref fwm)=true) (lwm:K.lookup fwm=some ⟨ocwm,odwm,.func (W.fnOf "mark_of" "Wood.mark_of" (av cy) (ao cy) (aj cy) .none kVwm dcwm pmwm anwm cdwm ctwm),slwm⟩) (cwm:W.codeIn K cdwm "Wood.mark_of"=true) (kwm:W.keepIn K (.ref fwm)=true)
  (awq:W.findIn K (.ref C_Wood) "put"=some (some (.ref fwq))) (iwq:W.isFn K (.ref fwq)=true) (lwq:K.lookup fwq=some ⟨ocwq,odwq,.func (W.fnOf "put" "Wood.put" (av cC) (ao cC) (aj cC) .none kVwq dcwq pmwq anwq cdwq ctwq),slwq⟩) (cwq:W.codeIn K cdwq "Wood.put"=true) (kwq:W.keepIn K (.ref fwq)=true)
  (awu:W.findIn K (.ref C_Wood) "use"=some (some (.ref fwu))) (iwu:W.isFn K (.ref fwu)=true) (lwu:K.lookup fwu=some ⟨ocwu,odwu,.func (W.fnOf "use" "Wood.use" (av bR) (ao bR) (aj bR) (.ref dTwu) kVwu dcwu pmwu anwu cdwu ctwu),slwu⟩) (cwu:W.codeIn K cdwu "Wood.use"=true) (kwu:W.keepIn K (.ref fwu)=true)
  (ldwu:K.lookup dTwu=some ⟨ocdwu,oddwu,.seq #[.int 1 tkdwu] ndwu,sldwu⟩)
  (awz:W.findIn K (.ref C_Wood) "strike"=some (some (.ref fwz))) (iwz:W.isFn K (.ref fwz)=true) (lwz:K.lookup fwz=some ⟨ocwz,odwz,.func (W.fnOf "strike" "Wood.strike" (av cz) (ao cz) (aj cz) .none kVwz dcwz pmwz anwz cdwz ctwz),slwz⟩) (cwz:W.codeIn K cdwz "Wood.strike"=true) (kwz:W.keepIn K (.ref fwz)=true)
  (awf:W.findIn K (.ref C_Wood) "fade"=some (some (.ref fwf))) (iwf:W.isFn K (.ref fwf)=true) (lwf:K.lookup fwf=some ⟨ocwf,odwf,.func (W.fnOf "fade" "Wood.fade" (av cO) (ao cO) (aj cO) (.ref dTwf) kVwf dcwf pmwf anwf cdwf ctwf),slwf⟩) (cwf:W.codeIn K cdwf "Wood.fade"=true) (kwf:W.keepIn K (.ref fwf)=true)
  (ldwf:K.lookup dTwf=some ⟨ocdwf,oddwf,.seq #[.int 1 tkdwf] ndwf,sldwf⟩)
  (awe:W.findIn K (.ref C_Wood) "era"=some (some (.ref fwe))) (iwe:W.isFn K (.ref fwe)=true) (lwe:K.lookup fwe=some ⟨ocwe,odwe,.func (W.fnOf "era" "Wood.era" (av cQ) (ao cQ) (aj cQ) .none kVwe dcwe pmwe anwe cdwe ctwe),slwe⟩) (cwe:W.codeIn K cdwe "Wood.era"=true) (kwe:W.keepIn K (.ref fwe)=true)
  (awh:W.findIn K (.ref C_Wood) "has"=some (some (.ref fwh))) (iwh:W.isFn K (.ref fwh)=true) (lwh:K.lookup fwh=some ⟨ocwh,odwh,.func (W.fnOf "has" "Wood.has" (av cR) (ao cR) (aj cR) .none kVwh dcwh pmwh anwh cdwh ctwh),slwh⟩) (cwh:W.codeIn K cdwh "Wood.has"=true) (kwh:W.keepIn K (.ref fwh)=true)
  (awx:W.findIn K (.ref C_Wood) "worth_of"=some (some (.ref fwx))) (iwx:W.isFn K (.ref fwx)=true) (lwx:K.lookup fwx=some ⟨ocwx,odwx,.func (W.fnOf "worth_of" "Wood.worth_of" (av cx) (ao cx) (aj cx) .none kVwx dcwx pmwx anwx cdwx ctwx),slwx⟩) (cwx:W.codeIn K cdwx "Wood.worth_of"=true) (kwx:W.keepIn K (.ref fwx)=true)
  (awb:W.findIn K (.ref C_Wood) "begun"=some (some (.ref fwb))) (iwb:W.isFn K (.ref fwb)=true) (lwb:K.lookup fwb=some ⟨ocwb,odwb,.func (W.fnOf "begun" "Wood.begun" (av cL) (ao cL) (aj cL) .none kVwb dcwb pmwb anwb cdwb ctwb),slwb⟩) (cwb:W.codeIn K cdwb "Wood.begun"=true) (kwb:W.keepIn K (.ref fwb)=true)
  (awv:W.findIn K (.ref C_Wood) "words"=some (some (.ref fwv))) (iwv:W.isFn K (.ref fwv)=true) (lwv:K.lookup fwv=some ⟨ocwv,odwv,.func (W.fnOf "words" "Wood.words" (av cM) (ao cM) (aj cM) .none kVwv dcwv pmwv anwv cdwv ctwv),slwv⟩) (cwv:W.codeIn K cdwv "Wood.words"=true) (kwv:W.keepIn K (.ref fwv)=true)
  (awt:W.findIn K (.ref C_Wood) "top_of"=some (some (.ref fwt))) (iwt:W.isFn K (.ref fwt)=true) (lwt:K.lookup fwt=some ⟨ocwt,odwt,.func (W.fnOf "top_of" "Wood.top_of" (av cK) (ao cK) (aj cK) .none kVwt dcwt pmwt anwt cdwt ctwt),slwt⟩) (cwt:W.codeIn K cdwt "Wood.top_of"=true) (kwt:W.keepIn K (.ref fwt)=true)
  (awo:W.findIn K (.ref C_Wood) "told"=some (some (.ref fwo))) (iwo:W.isFn K (.ref fwo)=true) (lwo:K.lookup fwo=some ⟨ocwo,odwo,.func (W.fnOf "told" "Wood.told" (av cP) (ao cP) (aj cP) .none kVwo dcwo pmwo anwo cdwo ctwo),slwo⟩) (cwo:W.codeIn K cdwo "Wood.told"=true) (kwo:W.keepIn K (.ref fwo)=true)
  (pg_Wood:W.plainGet K C_Wood Str.empty=true) (hd_Wood:W.hasDictIn K C_Wood=true) (po_Wood:W.plainOver K C_Wood=true) (sa_Wood:W.findIn K (.ref C_Wood) "__setattr__"=some (some (.builtin "object.__setattr__"))) (mk_Wood:W.makesIn K C_Wood=true) (kc_Wood:W.keepIn K (.ref C_Wood)=true)
  (n_Wood_marks:W.findIn K (.ref C_Wood) "marks"=some none)
  (n_Wood_now:W.findIn K (.ref C_Wood) "now"=some none)
  (aC_NoWord:W.nsIn K mainGlobals "NoWord"=some (some (.ref C_NoWord)))
  (aC_Twice:W.nsIn K mainGlobals "Twice"=some (some (.ref C_Twice)))
  (aC_Absent:W.nsIn K mainGlobals "Absent"=some (some (.ref C_Absent)))
  (aC_AheadError:W.nsIn K mainGlobals "AheadError"=some (some (.ref C_AheadError)))
  (aC_Beside:W.nsIn K mainGlobals "Beside"=some (some (.ref C_Beside)))
  (aC_NoChoice:W.nsIn K mainGlobals "NoChoice"=some (some (.ref C_NoChoice)))
  (aC_NoRow:W.nsIn K mainGlobals "NoRow"=some (some (.ref C_NoRow)))
  (aC_NoSign:W.nsIn K mainGlobals "NoSign"=some (some (.ref C_NoSign)))
  (aC_NoText:W.nsIn K mainGlobals "NoText"=some (some (.ref C_NoText)))
  (ar:W.nsIn K mainGlobals "rank_key"=some (some (.ref fr))) (lr:K.lookup fr=some ⟨ocr,odr,.func (W.fnOf "rank_key" "rank_key" (av d9) (ao d9) (aj d9) .none kVr dcr pmr anr cdr ctr),slr⟩) (cr:W.codeIn K cdr "rank_key"=true) (kr:W.keepIn K (.ref fr)=true)
  (ab:W.nsIn K mainGlobals "best_of"=some (some (.ref fb))) (lb:K.lookup fb=some ⟨ocb,odb,.func (W.fnOf "best_of" "best_of" (av eG) (ao eG) (aj eG) .none kVb dcb pmb anb cdb ctb),slb⟩) (cb:W.codeIn K cdb "best_of"=true) (kb:W.keepIn K (.ref fb)=true)
  (a1:W.nsIn K mainGlobals "is_letter"=some (some (.ref f1))) (l1:K.lookup f1=some ⟨oc1,od1,.func (W.fnOf "is_letter" "is_letter" (av d5) (ao d5) (aj d5) .none kV1 dc1 pm1 an1 cd1 ct1),sl1⟩) (c1:W.codeIn K cd1 "is_letter"=true) (k1:W.keepIn K (.ref f1)=true)
  (a2:W.nsIn K mainGlobals "is_part"=some (some (.ref f2))) (l2:K.lookup f2=some ⟨oc2,od2,.func (W.fnOf "is_part" "is_part" (av eI) (ao eI) (aj eI) .none kV2 dc2 pm2 an2 cd2 ct2),sl2⟩) (c2:W.codeIn K cd2 "is_part"=true) (k2:W.keepIn K (.ref f2)=true)
  (a3:W.nsIn K mainGlobals "is_word"=some (some (.ref f3))) (l3:K.lookup f3=some ⟨oc3,od3,.func (W.fnOf "is_word" "is_word" (av eJ) (ao eJ) (aj eJ) .none kV3 dc3 pm3 an3 cd3 ct3),sl3⟩) (c3:W.codeIn K cd3 "is_word"=true) (k3:W.keepIn K (.ref f3)=true)
  (a4:W.nsIn K mainGlobals "worth_at"=some (some (.ref f4))) (l4:K.lookup f4=some ⟨oc4,od4,.func (W.fnOf "worth_at" "worth_at" (av eg) (ao eg) (aj eg) .none kV4 dc4 pm4 an4 cd4 ct4),sl4⟩) (c4:W.codeIn K cd4 "worth_at"=true) (k4:W.keepIn K (.ref f4)=true)
  (a5:W.nsIn K mainGlobals "used_mark"=some (some (.ref f5))) (l5:K.lookup f5=some ⟨oc5,od5,.func (W.fnOf "used_mark" "used_mark" (av d6) (ao d6) (aj d6) .none kV5 dc5 pm5 an5 cd5 ct5),sl5⟩) (c5:W.codeIn K cd5 "used_mark"=true) (k5:W.keepIn K (.ref f5)=true)
  (aga:W.nsIn K mainGlobals "greatest_at"=some (some (.ref fga))) (lga:K.lookup fga=some ⟨ocga,odga,.func (W.fnOf "greatest_at" "greatest_at" (av dZ) (ao dZ) (aj dZ) .none kVga dcga pmga anga cdga ctga),slga⟩) (cga:W.codeIn K cdga "greatest_at"=true) (kga:W.keepIn K (.ref fga)=true)
  (ace:W.nsIn K mainGlobals "_law_cell_at"=some (some (.ref fce))) (lce:K.lookup fce=some ⟨occe,odce,.func (W.fnOf "_law_cell_at" "_law_cell_at" (av d0) (ao d0) (aj d0) .none kVce dcce pmce ance cdce ctce),slce⟩) (cce:W.codeIn K cdce "_law_cell_at"=true) (kce:W.keepIn K (.ref fce)=true)
  (abx:W.nsIn K mainGlobals "_law_box"=some (some (.ref fbx))) (lbx:K.lookup fbx=some ⟨ocbx,odbx,.func (W.fnOf "_law_box" "_law_box" (av eK) (ao eK) (aj eK) .none kVbx dcbx pmbx anbx cdbx ctbx),slbx⟩) (cbx:W.codeIn K cdbx "_law_box"=true) (kbx:W.keepIn K (.ref fbx)=true)
  (ad:W.nsIn K mainGlobals "_law_take"=some (some (.ref fd))) (ld:K.lookup fd=some ⟨ocd,odd,.func (W.fnOf "_law_take" "_law_take" (av eC) (ao eC) (aj eC) .none kVd dcd pmd and cdd ctd),sld⟩) (cd:W.codeIn K cdd "_law_take"=true) (kd:W.keepIn K (.ref fd)=true)
  (aw:W.nsIn K mainGlobals "_law_word"=some (some (.ref fw))) (lw:K.lookup fw=some ⟨ocw,odw,.func (W.fnOf "_law_word" "_law_word" (av eD) (ao eD) (aj eD) .none kVw dcw pmw anw cdw ctw),slw⟩) (cw:W.codeIn K cdw "_law_word"=true) (kw:W.keepIn K (.ref fw)=true)
  (anw:W.nsIn K mainGlobals "_law_no_word"=some (some (.ref fnw))) (lnw:K.lookup fnw=some ⟨ocnw,odnw,.func (W.fnOf "_law_no_word" "_law_no_word" (av d3) (ao d3) (aj d3) .none kVnw dcnw pmnw annw cdnw ctnw),slnw⟩) (cnw:W.codeIn K cdnw "_law_no_word"=true) (knw:W.keepIn K (.ref fnw)=true)
  (aki:W.nsIn K mainGlobals "_law_kinds"=some (some (.ref fki))) (lki:K.lookup fki=some ⟨ocki,odki,.func (W.fnOf "_law_kinds" "_law_kinds" (av d7) (ao d7) (aj d7) .none kVki dcki pmki anki cdki ctki),slki⟩) (cki:W.codeIn K cdki "_law_kinds"=true) (kki:W.keepIn K (.ref fki)=true)
  (asd:W.nsIn K mainGlobals "_law_said"=some (some (.ref fsd))) (lsd:K.lookup fsd=some ⟨ocsd,odsd,.func (W.fnOf "_law_said" "_law_said" (av eE) (ao eE) (aj eE) .none kVsd dcsd pmsd ansd cdsd ctsd),slsd⟩) (csd:W.codeIn K cdsd "_law_said"=true) (ksd:W.keepIn K (.ref fsd)=true)
  (alk:W.nsIn K mainGlobals "_law_look"=some (some (.ref flk))) (llk:K.lookup flk=some ⟨oclk,odlk,.func (W.fnOf "_law_look" "_law_look" (av eF) (ao eF) (aj eF) .none kVlk dclk pmlk anlk cdlk ctlk),sllk⟩) (clk:W.codeIn K cdlk "_law_look"=true) (klk:W.keepIn K (.ref flk)=true)
  (aak:W.nsIn K mainGlobals "_law_asked"=some (some (.ref fak))) (lak:K.lookup fak=some ⟨ocak,odak,.func (W.fnOf "_law_asked" "_law_asked" (av d8) (ao d8) (aj d8) .none kVak dcak pmak anak cdak ctak),slak⟩) (cak:W.codeIn K cdak "_law_asked"=true) (kak:W.keepIn K (.ref fak)=true)
  (aiw:W.nsIn K mainGlobals "_law_is_word"=some (some (.ref fiw))) (liw:K.lookup fiw=some ⟨ociw,odiw,.func (W.fnOf "_law_is_word" "_law_is_word" (av d4) (ao d4) (aj d4) .none kViw dciw pmiw aniw cdiw ctiw),sliw⟩) (ciw:W.codeIn K cdiw "_law_is_word"=true) (kiw:W.keepIn K (.ref fiw)=true)
  (alw:W.nsIn K mainGlobals "law"=some (some (.ref flw))) (llw:K.lookup flw=some ⟨oclw,odlw,.func (W.fnOf "law" "law" (av cT) (ao cT) (aj cT) .none kVlw dclw pmlw anlw cdlw ctlw),sllw⟩) (clw:W.codeIn K cdlw "law"=true) (klw:W.keepIn K (.ref flw)=true)
  (z_len:W.nsIn K mainGlobals "len"=some none)
  (z_range:W.nsIn K mainGlobals "range"=some none)
  (z_all:W.nsIn K mainGlobals "all"=some none)
  (z_max:W.nsIn K mainGlobals "max"=some none)
  (z_min:W.nsIn K mainGlobals "min"=some none)
  (z_sorted:W.nsIn K mainGlobals "sorted"=some none)
  (z_isinstance:W.nsIn K mainGlobals "isinstance"=some none)
  (z_str:W.nsIn K mainGlobals "str"=some none)
  (z_list:W.nsIn K mainGlobals "list"=some none)
  (z_int:W.nsIn K mainGlobals "int"=some none)
  (z_ValueError:W.nsIn K mainGlobals "ValueError"=some none)
  (t_ss:W.kitOne K (.type "str") (.type "str")=some true)
  (t_ns:W.kitOne K (.type "NoneType") (.type "str")=some false)
  (t_bs:W.kitOne K (.type "bool") (.type "str")=some false)
  (t_is:W.kitOne K (.type "int") (.type "str")=some false)
  (t_ls:W.kitOne K (.type "list") (.type "str")=some false)
  (t_ts:W.kitOne K (.type "tuple") (.type "str")=some false)
  (q_MOST_SIGNS:W.nsIn K mainGlobals "MOST_SIGNS"=some (some (.int 24 tk_MOST_SIGNS)))
  (q_MOST_PARTS:W.nsIn K mainGlobals "MOST_PARTS"=some (some (.int 4 tk_MOST_PARTS)))
  (q_MOST_LETTERS:W.nsIn K mainGlobals "MOST_LETTERS"=some (some (.int 12 tk_MOST_LETTERS)))
  (oxNoWord:b8 K C_NoWord none=true)
  (okNoWord:W.keepIn K (.ref C_NoWord)=true)
  (ocNoWord:dk K C_NoWord=true)
  (oeNoWord:W.exmOne K (.ref C_NoWord) (.ref C_AheadError)=some true)
  (oxTwice:b8 K C_Twice none=true)
  (okTwice:W.keepIn K (.ref C_Twice)=true)
  (ocTwice:dk K C_Twice=true)
  (oeTwice:W.exmOne K (.ref C_Twice) (.ref C_AheadError)=some true)
  (oxAbsent:b8 K C_Absent none=true)
  (okAbsent:W.keepIn K (.ref C_Absent)=true)
  (ocAbsent:dk K C_Absent=true)
  (oeAbsent:W.exmOne K (.ref C_Absent) (.ref C_AheadError)=some true)
  (otNN:W.kitOne K (.ref C_NoWord) (.ref C_NoWord)=some true)
  (otNT:W.kitOne K (.ref C_NoWord) (.ref C_Twice)=some false)
  (otNA:W.kitOne K (.ref C_NoWord) (.ref C_Absent)=some false)
  (otNB1:W.kitOne K (.ref C_NoWord) (.ref C_Beside)=some false)
  (otNB2:W.kitOne K (.ref C_NoWord) (.ref C_NoChoice)=some false)
  (otNB3:W.kitOne K (.ref C_NoWord) (.ref C_NoRow)=some false)
  (otNB4:W.kitOne K (.ref C_NoWord) (.ref C_NoSign)=some false)
  (otNB5:W.kitOne K (.ref C_NoWord) (.ref C_NoText)=some false)
  (otTN:W.kitOne K (.ref C_Twice) (.ref C_NoWord)=some false)
  (otTT:W.kitOne K (.ref C_Twice) (.ref C_Twice)=some true)
  (otTA:W.kitOne K (.ref C_Twice) (.ref C_Absent)=some false)
  (otTB1:W.kitOne K (.ref C_Twice) (.ref C_Beside)=some false)
  (otTB2:W.kitOne K (.ref C_Twice) (.ref C_NoChoice)=some false)
  (otTB3:W.kitOne K (.ref C_Twice) (.ref C_NoRow)=some false)
  (otTB4:W.kitOne K (.ref C_Twice) (.ref C_NoSign)=some false)
  (otTB5:W.kitOne K (.ref C_Twice) (.ref C_NoText)=some false)
  (otAN:W.kitOne K (.ref C_Absent) (.ref C_NoWord)=some false)
  (otAT:W.kitOne K (.ref C_Absent) (.ref C_Twice)=some false)
  (otAA:W.kitOne K (.ref C_Absent) (.ref C_Absent)=some true)
  (otAB1:W.kitOne K (.ref C_Absent) (.ref C_Beside)=some false)
  (otAB2:W.kitOne K (.ref C_Absent) (.ref C_NoChoice)=some false)
  (otAB3:W.kitOne K (.ref C_Absent) (.ref C_NoRow)=some false)
  (otAB4:W.kitOne K (.ref C_Absent) (.ref C_NoSign)=some false)
  (otAB5:W.kitOne K (.ref C_Absent) (.ref C_NoText)=some false)
  (ovN:W.kitOne K (.ref C_NoWord) (.type "ValueError")=some true)
  (ovT:W.kitOne K (.ref C_Twice) (.type "ValueError")=some true)
  (ovA:W.kitOne K (.ref C_Absent) (.type "ValueError")=some true),R)->R
noncomputable def pick {α:Type}:List Nat->Nat->List α->List α
 |_,_,[]=>[]
 |[],_,l=>l
 |k::ks,i,x::l=>if i=k then pick ks (i+1) l else x::pick (k::ks) (i+1) l
noncomputable def aL:Program:={ PySem.Challenge.pw_aheadword_k07_wood_refused with main:={ PySem.Challenge.pw_aheadword_k07_wood_refused.main with body:=pick [1,11,14,24,26] 0 PySem.Challenge.pw_aheadword_k07_wood_refused.main.body } }
theorem wt {S A B:Type}{x:Option S}{f:S->A}{g:S->B}{a:A}{b:B}(h1:x.map f=some a) (h2:x.map g=some b):x.map (λs=>(f s,g s))=some (a,b):=by
 cases x with
 |none=>cases h1
 |some s=>cases h1;cases h2;rfl
end My
section
open PySem PySem.W PyProof.Rows
local macro_rules|`(tactic| o_head $H)=>`(tactic| refine holds_open (q:=My.aL) (loose:=[]) (Xt:=λs=>xlAt My.aL [] s&&recOk [] s) (XP:=XL My.aL []) (Yf:=Hook.obs $H) (Ya:=Hook.val $H) (YP:=Hook.says $H) (N:=6552) ?hl (Hook.of $H) (Hook.keeps $H) (λs e=>xl_of s (Bool.and_eq_true_iff.mp e).1) XL.keeps (by rfl) (by rfl) (by rfl) (λs e=>recFacts_of (Bool.and_eq_true_iff.mp e).2) (by rfl) (by assumption) (by decide +kernel) ⟨rfl,rfl,rfl,rfl,rfl,by decide +kernel⟩ ?hw ?hc)
theorem My.left_gen {p:Program}{N:Nat}{β:Type}(w:World){F:Shared->β}{v:β}(hb:(fencedOpening treeTable p w N).map (λs=>(s.heap,s.gens,s.drawn,s.toks))=some (boot_heap w.params,Array.mk [],boot_drawn,boot_toks)) (hi:((boot_heap w.params).isNs mainGlobals&&(Array.mk []:Array GenState).size==0)=true)
  (hs:∀ os,(topRun treeTable p w (boot_heap w.params).objs.size ((boot_heap w.params).nsMap mainGlobals "__annotations__") N ⟨boot_heap w.params,Array.mk [],boot_drawn,boot_toks,os⟩ (topStub p)).map (λs=>staticsOk (importedModules p.main.body) (boot_heap w.params) s.heap&&namesBound p s.heap&&gensDone s&&laidKept (boot_heap w.params) s.heap)=some true)
  (hv:∀ os,(topRun treeTable p w (boot_heap w.params).objs.size ((boot_heap w.params).nsMap mainGlobals "__annotations__") N ⟨boot_heap w.params,Array.mk [],boot_drawn,boot_toks,os⟩ (topStub p)).map F=some v):(openEnds treeTable p w N).map F=some v:=by
 obtain ⟨⟨hh,gs,d,k,os⟩,e1,e2⟩:=Option.map_eq_some_iff.mp hb
 obtain ⟨rfl,rfl,rfl,rfl⟩:hh=boot_heap w.params/\gs=Array.mk []/\d=boot_drawn/\k=boot_toks:=by simpa only [Prod.mk.injEq] using e2
 have a:=hs os
 have b:=hv os
 unfold openEnds
 rw [e1]
 show (topFrom treeTable p w N ⟨boot_heap w.params,Array.mk [],boot_drawn,boot_toks,os⟩).map F=some v
 unfold topFrom
 dsimp only
 rw [hi]
 dsimp only
 cases hx:topRun treeTable p w (boot_heap w.params).objs.size ((boot_heap w.params).nsMap mainGlobals "__annotations__") N ⟨boot_heap w.params,Array.mk [],boot_drawn,boot_toks,os⟩ (topStub p) with
 |none=>rw [hx] at b;cases b
 |some s1 =>
  rw [hx] at a b
  have a':=Option.some.inj a
  dsimp only at a'
  show Option.map F (match _ with|true=>some s1|false=>none)=some v
  rw [a']
  exact b
noncomputable abbrev My.X (w:World) (os:OsState):Option Shared:=topRun treeTable PySem.Challenge.pw_aheadword_k07_wood_refused w (boot_heap w.params).objs.size ((boot_heap w.params).nsMap mainGlobals "__annotations__") 6552 ⟨boot_heap w.params,Array.mk [],boot_drawn,boot_toks,os⟩ (topStub PySem.Challenge.pw_aheadword_k07_wood_refused)
theorem My.fst_snd {S A B:Type}{x:Option S}(F:S->A×B) (v:A×B) (h1:x.map (λs=>(F s).1)=some v.1) (h2:x.map (λs=>(F s).2)=some v.2):x.map F=some v:=by
 cases x with
 |none=>cases h1
 |some s=>exact congrArg some (Prod.ext (Option.some.inj h1) (Option.some.inj h2))
set_option maxRecDepth 100000 in
set_option maxHeartbeats 0 in
theorem My.left1d (w:World) (os:OsState):(My.X w os).map (λs=>(openSeen My.aL [] (importedModules PySem.Challenge.pw_aheadword_k07_wood_refused.main.body) (λs=>xlAt My.aL [] s&&recOk [] s) true s).2.2.2)=some ((openGood My.aL []).2.2.2):=by delta My.X;rw [Fast.te14082659384304107361,Fast.te14364793385576792824,Fast.te4187177175401517315];kernel_rfl
set_option maxRecDepth 100000 in
set_option maxHeartbeats 0 in
theorem My.left1c (w:World) (os:OsState):(My.X w os).map (λs=>(openSeen My.aL [] (importedModules PySem.Challenge.pw_aheadword_k07_wood_refused.main.body) (λs=>xlAt My.aL [] s&&recOk [] s) true s).2.2.1)=some ((openGood My.aL []).2.2.1):=by delta My.X;rw [Fast.te14082659384304107361,Fast.te14364793385576792824,Fast.te4187177175401517315];kernel_rfl
set_option maxRecDepth 100000 in
set_option maxHeartbeats 0 in
theorem My.left1b (w:World) (os:OsState):(My.X w os).map (λs=>(openSeen My.aL [] (importedModules PySem.Challenge.pw_aheadword_k07_wood_refused.main.body) (λs=>xlAt My.aL [] s&&recOk [] s) true s).2.1)=some ((openGood My.aL []).2.1):=by delta My.X;rw [Fast.te14082659384304107361,Fast.te14364793385576792824,Fast.te4187177175401517315];kernel_rfl
set_option maxRecDepth 100000 in
set_option maxHeartbeats 0 in
theorem My.left1a (w:World) (os:OsState):(My.X w os).map (λs=>(openSeen My.aL [] (importedModules PySem.Challenge.pw_aheadword_k07_wood_refused.main.body) (λs=>xlAt My.aL [] s&&recOk [] s) true s).1)=some ((openGood My.aL []).1):=by delta My.X;rw [Fast.te14082659384304107361,Fast.te14364793385576792824,Fast.te4187177175401517315];kernel_rfl
set_option maxRecDepth 100000 in
set_option maxHeartbeats 0 in
theorem My.leftS (w:World) (os:OsState):(My.X w os).map (λs=>staticsOk (importedModules PySem.Challenge.pw_aheadword_k07_wood_refused.main.body) (boot_heap w.params) s.heap&&namesBound PySem.Challenge.pw_aheadword_k07_wood_refused s.heap&&gensDone s&&laidKept (boot_heap w.params) s.heap)=some true:=by delta My.X;rw [Fast.te14082659384304107361,Fast.te14364793385576792824];kernel_rfl
theorem My.left_boot {β:Type}(w:World){F:Shared->β}{v:β}(hv:∀ os,(My.X w os).map F=some v):(openEnds treeTable PySem.Challenge.pw_aheadword_k07_wood_refused w 6552).map F=some v :=
 My.left_gen w (boot_open (p:=PySem.Challenge.pw_aheadword_k07_wood_refused) (N:=6552) (by kernel_rfl) (by kernel_rfl) (λs=>by kernel_rfl) w) (by kernel_rfl) (My.leftS w) hv
theorem My.left1 (w:World) (os:OsState):(My.X w os).map (λs=>(openSeen My.aL [] (importedModules PySem.Challenge.pw_aheadword_k07_wood_refused.main.body) (λs=>xlAt My.aL [] s&&recOk [] s) true s))=some (openGood My.aL []):=My.fst_snd (λs=>(openSeen My.aL [] (importedModules PySem.Challenge.pw_aheadword_k07_wood_refused.main.body) (λs=>xlAt My.aL [] s&&recOk [] s) true s)) (openGood My.aL []) (My.left1a w os) (My.fst_snd (λs=>(openSeen My.aL [] (importedModules PySem.Challenge.pw_aheadword_k07_wood_refused.main.body) (λs=>xlAt My.aL [] s&&recOk [] s) true s).2) (openGood My.aL []).2 (My.left1b w os) (My.fst_snd (λs=>(openSeen My.aL [] (importedModules PySem.Challenge.pw_aheadword_k07_wood_refused.main.body) (λs=>xlAt My.aL [] s&&recOk [] s) true s).2.2) (openGood My.aL []).2.2 (My.left1c w os) (My.left1d w os)))
theorem My.left (w:World):(openEnds treeTable PySem.Challenge.pw_aheadword_k07_wood_refused w 6552).map (λs=>(openSeen My.aL [] (importedModules PySem.Challenge.pw_aheadword_k07_wood_refused.main.body) (λs=>xlAt My.aL [] s&&recOk [] s) true s))=some (openGood My.aL []):=My.left_boot w λos=>My.left1 w os
set_option maxRecDepth 100000 in
set_option maxHeartbeats 0 in
theorem My.headL (main:∀ (q:Program) (loose:List Str) (XP:(Str->Option Value)->Heap->Prop) (YP:World->Heap->Prop) (d:DefRec) (K:Params->W.Frag),PySem.Challenge.rw_aheadword_k07_wood_refused.most=some 63->d.params.defaults=[]->d.name="law"->(∀ (w:World) (h:Heap),YP w h->(K w.params).In h)->(∀ w:World,My.Fx (K w.params))->W.WalkO q loose XP YP PySem.Challenge.rw_aheadword_k07_wood_refused.row.toRowW d [] (λf vs=>PySem.call f vs)):PySem.Challenge.rw_aheadword_k07_wood_refused.Holds:=by
 w_on;o_law;k_head;(case hl=>intro w;refine My.wt (My.left w) (My.left_boot w λos=>?_);delta My.X;rw [Fast.te14082659384304107361,Fast.te14364793385576792824];kernel_rfl);(case hw=>w_witness2)
 k_fill
 refine main _ _ _ _ _ _ rfl rfl rfl (λw h Y=>W.kIn_of Y) λw R hR=>?_
 refine' hR ?aC_Wood ?awi ?iwi ?lwi ?cwi ?kwi ?awm ?iwm ?lwm ?cwm ?kwm ?awq ?iwq ?lwq ?cwq ?kwq ?awu ?iwu ?lwu ?cwu ?kwu ?ldwu ?awz ?iwz ?lwz ?cwz ?kwz ?awf ?iwf ?lwf ?cwf ?kwf ?ldwf ?awe ?iwe ?lwe ?cwe ?kwe ?awh ?iwh ?lwh ?cwh ?kwh ?awx ?iwx ?lwx ?cwx ?kwx ?awb ?iwb ?lwb ?cwb ?kwb ?awv ?iwv ?lwv ?cwv ?kwv ?awt ?iwt ?lwt ?cwt ?kwt ?awo ?iwo ?lwo ?cwo ?kwo ?pg_Wood ?hd_Wood ?po_Wood ?sa_Wood ?mk_Wood ?kc_Wood ?n_Wood_marks ?n_Wood_now ?aC_NoWord ?aC_Twice ?aC_Absent ?aC_AheadError ?aC_Beside ?aC_NoChoice ?aC_NoRow ?aC_NoSign ?aC_NoText ?ar ?lr ?cr ?kr ?ab ?lb ?cb ?kb ?a1 ?l1 ?c1 ?k1 ?a2 ?l2 ?c2 ?k2 ?a3 ?l3 ?c3 ?k3 ?a4 ?l4 ?c4 ?k4 ?a5 ?l5 ?c5 ?k5 ?aga ?lga ?cga ?kga ?ace ?lce ?cce ?kce ?abx ?lbx ?cbx ?kbx ?ad ?ld ?cd ?kd ?aw ?lw ?cw ?kw ?anw ?lnw ?cnw ?knw ?aki ?lki ?cki ?kki ?asd ?lsd ?csd ?ksd ?alk ?llk ?clk ?klk ?aak ?lak ?cak ?kak ?aiw ?liw ?ciw ?kiw ?alw ?llw ?clw ?klw ?z_len ?z_range ?z_all ?z_max ?z_min ?z_sorted ?z_isinstance ?z_str ?z_list ?z_int ?z_ValueError ?t_ss ?t_ns ?t_bs ?t_is ?t_ls ?t_ts ?q_MOST_SIGNS ?q_MOST_PARTS ?q_MOST_LETTERS ?oxNoWord ?okNoWord ?ocNoWord ?oeNoWord ?oxTwice ?okTwice ?ocTwice ?oeTwice ?oxAbsent ?okAbsent ?ocAbsent ?oeAbsent ?otNN ?otNT ?otNA ?otNB1 ?otNB2 ?otNB3 ?otNB4 ?otNB5 ?otTN ?otTT ?otTA ?otTB1 ?otTB2 ?otTB3 ?otTB4 ?otTB5 ?otAN ?otAT ?otAA ?otAB1 ?otAB2 ?otAB3 ?otAB4 ?otAB5 ?ovN ?ovT ?ovA
 (case aC_Wood=>k_is);(case awi=>k_is);(case iwi=>k_is);(case lwi=>k_is);(case cwi=>k_is);(case kwi=>k_is);(case awm=>k_is);(case iwm=>k_is);(case lwm=>k_is);(case cwm=>k_is);(case kwm=>k_is);(case awq=>k_is);(case iwq=>k_is);(case lwq=>k_is);(case cwq=>k_is);(case kwq=>k_is);(case awu=>k_is);(case iwu=>k_is);(case lwu=>k_is);(case cwu=>k_is);(case kwu=>k_is);(case ldwu=>k_is);(case awz=>k_is);(case iwz=>k_is);(case lwz=>k_is);(case cwz=>k_is);(case kwz=>k_is);(case awf=>k_is);(case iwf=>k_is);(case lwf=>k_is);(case cwf=>k_is);(case kwf=>k_is);(case ldwf=>k_is);(case awe=>k_is);(case iwe=>k_is);(case lwe=>k_is);(case cwe=>k_is);(case kwe=>k_is);(case awh=>k_is);(case iwh=>k_is);(case lwh=>k_is);(case cwh=>k_is);(case kwh=>k_is);(case awx=>k_is);(case iwx=>k_is);(case lwx=>k_is);(case cwx=>k_is);(case kwx=>k_is);(case awb=>k_is);(case iwb=>k_is);(case lwb=>k_is);(case cwb=>k_is);(case kwb=>k_is);(case awv=>k_is);(case iwv=>k_is);(case lwv=>k_is);(case cwv=>k_is);(case kwv=>k_is);(case awt=>k_is);(case iwt=>k_is);(case lwt=>k_is);(case cwt=>k_is);(case kwt=>k_is);(case awo=>k_is);(case iwo=>k_is);(case lwo=>k_is);(case cwo=>k_is);(case kwo=>k_is);(case pg_Wood=>k_is);(case hd_Wood=>k_is);(case po_Wood=>k_is);(case sa_Wood=>k_is);(case mk_Wood=>k_is);(case kc_Wood=>k_is);(case n_Wood_marks=>k_is);(case n_Wood_now=>k_is);(case aC_NoWord=>k_is);(case aC_Twice=>k_is);(case aC_Absent=>k_is);(case aC_AheadError=>k_is);(case aC_Beside=>k_is);(case aC_NoChoice=>k_is);(case aC_NoRow=>k_is);(case aC_NoSign=>k_is);(case aC_NoText=>k_is);(case ar=>k_is);(case lr=>k_is);(case cr=>k_is);(case kr=>k_is);(case ab=>k_is);(case lb=>k_is);(case cb=>k_is);(case kb=>k_is);(case a1=>k_is);(case l1=>k_is);(case c1=>k_is);(case k1=>k_is);(case a2=>k_is);(case l2=>k_is);(case c2=>k_is);(case k2=>k_is);(case a3=>k_is);(case l3=>k_is);(case c3=>k_is);(case k3=>k_is);(case a4=>k_is);(case l4=>k_is);(case c4=>k_is);(case k4=>k_is);(case a5=>k_is);(case l5=>k_is);(case c5=>k_is);(case k5=>k_is);(case aga=>k_is);(case lga=>k_is);(case cga=>k_is);(case kga=>k_is);(case ace=>k_is);(case lce=>k_is);(case cce=>k_is);(case kce=>k_is);(case abx=>k_is);(case lbx=>k_is);(case cbx=>k_is);(case kbx=>k_is);(case ad=>k_is);(case ld=>k_is);(case cd=>k_is);(case kd=>k_is);(case aw=>k_is);(case lw=>k_is);(case cw=>k_is);(case kw=>k_is);(case anw=>k_is);(case lnw=>k_is);(case cnw=>k_is);(case knw=>k_is);(case aki=>k_is);(case lki=>k_is);(case cki=>k_is);(case kki=>k_is);(case asd=>k_is);(case lsd=>k_is);(case csd=>k_is);(case ksd=>k_is);(case alk=>k_is);(case llk=>k_is);(case clk=>k_is);(case klk=>k_is);(case aak=>k_is);(case lak=>k_is);(case cak=>k_is);(case kak=>k_is);(case aiw=>k_is);(case liw=>k_is);(case ciw=>k_is);(case kiw=>k_is);(case alw=>k_is);(case llw=>k_is);(case clw=>k_is);(case klw=>k_is);(case z_len=>k_is);(case z_range=>k_is);(case z_all=>k_is);(case z_max=>k_is);(case z_min=>k_is);(case z_sorted=>k_is);(case z_isinstance=>k_is);(case z_str=>k_is);(case z_list=>k_is);(case z_int=>k_is);(case z_ValueError=>k_is);(case t_ss=>kit_is);(case t_ns=>kit_is);(case t_bs=>kit_is);(case t_is=>kit_is);(case t_ls=>kit_is);(case t_ts=>kit_is);(case q_MOST_SIGNS=>k_is);(case q_MOST_PARTS=>k_is);(case q_MOST_LETTERS=>k_is);(case oxNoWord=>kernel_rfl);(case okNoWord=>kernel_rfl);(case ocNoWord=>kernel_rfl);(case oeNoWord=>kernel_rfl);(case oxTwice=>kernel_rfl);(case okTwice=>kernel_rfl);(case ocTwice=>kernel_rfl);(case oeTwice=>kernel_rfl);(case oxAbsent=>kernel_rfl);(case okAbsent=>kernel_rfl);(case ocAbsent=>kernel_rfl);(case oeAbsent=>kernel_rfl);(case otNN=>kernel_rfl);(case otNT=>kernel_rfl);(case otNA=>kernel_rfl);(case otNB1=>kernel_rfl);(case otNB2=>kernel_rfl);(case otNB3=>kernel_rfl);(case otNB4=>kernel_rfl);(case otNB5=>kernel_rfl);(case otTN=>kernel_rfl);(case otTT=>kernel_rfl);(case otTA=>kernel_rfl);(case otTB1=>kernel_rfl);(case otTB2=>kernel_rfl);(case otTB3=>kernel_rfl);(case otTB4=>kernel_rfl);(case otTB5=>kernel_rfl);(case otAN=>kernel_rfl);(case otAT=>kernel_rfl);(case otAA=>kernel_rfl);(case otAB1=>kernel_rfl);(case otAB2=>kernel_rfl);(case otAB3=>kernel_rfl);(case otAB4=>kernel_rfl);(case otAB5=>kernel_rfl);(case ovN=>kernel_rfl);(case ovT=>kernel_rfl);(case ovA=>kernel_rfl)
end
set_option maxRecDepth 100000
namespace L2
open PySem PySem.Spec PyProof.Rows
abbrev Key:=Sum Int Str
def fo:Key->Value->Bool
 |.inl k,v=>Value.isInt k v
 |.inr x,v=>Value.isStrOf x v
def EK (w:World):Key->Int
 |.inl k=>hashInt k
 |.inr x=>hashStr w x
theorem cB:∀ {k:Key}{v:Value},fo k v=true->(∃ i t,k=Sum.inl i/\v=Value.int i t)\/(∃ x t,k=Sum.inr x/\v=Value.str x t)
 |.inl i,v,h=>by
  obtain ⟨t,e⟩:=Value.isInt_shape (k:=i) (v:=v) h
  exact .inl ⟨i,t,rfl,e⟩
 |.inr x,v,h=>by
  obtain ⟨t,e⟩:=Value.isStrOf_shape (x:=x) (v:=v) h
  exact .inr ⟨x,t,rfl,e⟩
theorem u6 (i:Int) (t:Tok):fo (.inl i) (.int i t)=true:=by simp [fo,Value.isInt]
theorem u7 (x:Str) (t:Tok):fo (.inr x) (.str x t)=true:=by simp [fo,Value.isStrOf]
theorem Ae (a b:Int):decide ((Sum.inl a:Key)=Sum.inl b)=(a==b):=by
 by_cases e:a=b
 ·subst e;simp
 ·have h:¬ (Sum.inl a:Key)=Sum.inl b:=λq=>e (Sum.inl.inj q)
  rw [decide_eq_false h]
  exact (beq_eq_false_iff_ne.mpr e).symm
theorem Af (a b:Str):decide ((Sum.inr a:Key)=Sum.inr b)=decide (a=b):=by
 by_cases e:a=b
 ·subst e;simp
 ·have h:¬ (Sum.inr a:Key)=Sum.inr b:=λq=>e (Sum.inr.inj q)
  rw [decide_eq_false h,decide_eq_false e]
theorem Ag (a:Int) (b:Str):decide ((Sum.inl a:Key)=Sum.inr b)=false:=decide_eq_false (λq=>nomatch q)
theorem Ah (a:Str) (b:Int):decide ((Sum.inr a:Key)=Sum.inl b)=false:=decide_eq_false (λq=>nomatch q)
def aS (prog:Program) (w:World):PySem.KeyKind prog w Key where
 is:=fo
 hash:=EK w
 inj:=λv a b ha hb=>by
  rcases cB ha with ⟨i,t,rfl,rfl⟩|⟨x,t,rfl,rfl⟩
  ·rcases cB hb with ⟨j,u,rfl,e⟩|⟨y,u,rfl,e⟩
   ·injection e with e1 _;rw [e1]
   ·exact nomatch e
  ·rcases cB hb with ⟨j,u,rfl,e⟩|⟨y,u,rfl,e⟩
   ·exact nomatch e
   ·injection e with e1 _;rw [e1]
 byValue:=λk v h=>by
  rcases cB h with ⟨i,t,rfl,rfl⟩|⟨x,t,rfl,rfl⟩<;>rfl
 pyHash:=λhv h=>by
  rcases cB hv with ⟨i,t,rfl,rfl⟩|⟨x,t,rfl,rfl⟩
  ·exact wpAny_pyHash_int h
  ·exact wpAny_pyHash_str h
 eqBool:=λhu hv h=>by
  rcases cB hu with ⟨i,t,rfl,rfl⟩|⟨x,t,rfl,rfl⟩
  ·rcases cB hv with ⟨j,u,rfl,rfl⟩|⟨y,u,rfl,rfl⟩
   ·rw [Ae] at h;exact wpAny_eqBool_int h
   ·rw [Ag] at h;exact SeqAt.EqAt.int_str i t y u _ _ _ _ h
  ·rcases cB hv with ⟨j,u,rfl,rfl⟩|⟨y,u,rfl,rfl⟩
   ·rw [Ah] at h;exact SeqAt.EqAt.str_int x t j u _ _ _ _ h
   ·rw [Af] at h;exact wpAny_eqBool_str h
 «strs»:=λk x t v h=>by
  rcases cB h with ⟨i,u,rfl,e⟩|⟨y,u,rfl,e⟩
  ·exact nomatch e
  ·injection e with e1 _
   subst e1
   cases v<;>rfl
theorem uB (prog:Program) (w:World) (i:Int) (t:Tok):(aS prog w).is (.inl i) (.int i t)=true:=u6 i t
theorem uC (prog:Program) (w:World) (x:Str) (t:Tok):(aS prog w).is (.inr x) (.str x t)=true:=u7 x t
inductive V where
 |non|bl (b:Bool)|int (i:Int)|str (x:Str)|byt (b:Array UInt8)|flt (b:UInt64)|ref (a:Addr)|ty (n:String)
 deriving DecidableEq
def ak:V->Value->Prop
 |.non,u=>u=Value.none
 |.bl b,u=>u=Value.bool b
 |.int i,u=>∃ t,u=Value.int i t
 |.str x,u=>∃ t,u=Value.str x t
 |.byt b,u=>∃ t,u=Value.bytes b t
 |.flt b,u=>∃ t,u=Value.float b t
 |.ref a,u=>u=Value.ref a
 |.ty n,u=>u=Value.type n
abbrev ai:List V->List Value->Prop:=Paired ak
theorem ai.length {xs:List V}{us:List Value}(r:ai xs us):xs.length=us.length:=Paired.length r
theorem ai.get:∀ {xs:List V}{us:List Value}{i:Nat}{x:V},ai xs us->xs[i]?=some x->∃ u,us[i]?=some u/\ak x u
 |_,_,_,_,.nil,e=>by simp at e
 |_,_,0,_,.cons r _,e=>by simp at e;subst e;exact ⟨_,rfl,r⟩
 |_,_,i+1,x,.cons _ t,e=>by
  obtain ⟨u,h1,h2⟩:=ai.get (i:=i) (x:=x) t (by simpa using e)
  exact ⟨u,by simpa using h1,h2⟩
theorem ai.set {x:V}{u:Value}(r:ak x u):∀ {xs:List V}{us:List Value}(i:Nat),ai xs us->ai (xs.set i x) (us.set i u)
 |_,_,_,.nil=>.nil
 |_,_,0,.cons _ t=>.cons r t
 |_,_,i+1,.cons q t=>.cons q (ai.set r i t)
theorem ai.append:∀ {xs ys:List V}{us ws:List Value},ai xs us->ai ys ws->ai (xs++ys) (us++ws)
 |_,_,_,_,.nil,s=>s
 |_,_,_,_,.cons r t,s=>.cons r (ai.append t s)
theorem ai.take:∀ {xs:List V}{us:List Value}(n:Nat),ai xs us->ai (xs.take n) (us.take n)
 |_,_,0,_=>.nil
 |_,_,_+1,.nil=>.nil
 |_,_,n+1,.cons r t=>.cons r (ai.take n t)
theorem ai.drop:∀ {xs:List V}{us:List Value}(n:Nat),ai xs us->ai (xs.drop n) (us.drop n)
 |_,_,0,r=>r
 |_,_,_+1,.nil=>.nil
 |_,_,n+1,.cons _ t=>ai.drop n t
def bB:Option V->Option Value->Prop
 |some v,some u=>ak v u
 |none,none=>True
 |_,_=>False
def KV {κ:Type}:List (κ×V)->List (κ×Value)->Prop:=Paired λ(p:κ×V) (q:κ×Value)=>p.1=q.1/\ak p.2 q.2
def kV:Key->V
 |.inl i=>.int i
 |.inr x=>.str x
inductive HO where
  |lst (xs:List V)
  |tup (xs:List V)
  |dK (kvs:List (Key×V))|dT (kvs:List (List Key×V))
  |set (S:Int->Bool) (n:Nat)
  |ins (C dx:Addr) (fs:List (Str×V))
  |own (x:Addr)
  |xd (fs:List (Str×V))
  |met (f x:Addr)
  |rng (lo hi:Int)
  |frz (o:Obj) (u:HO)
  |tbl (ps:Array Value)
  |ext (φ:Heap->Prop)
abbrev Hp:=Addr->Option HO
def upd (H:Hp) (a:Addr) (o:HO):Hp:=λb=>if b=a then some o else H b
theorem aA {H:Hp}{a:Addr}{o:HO}:upd H a o a=some o:=by unfold upd;rw [if_pos rfl]
theorem ap {H:Hp}{a b:Addr}{o:HO}(h:b≠a):upd H a o b=H b:=by unfold upd;rw [if_neg h]
theorem fV {H:Hp}{a:Addr}{o u:HO}:upd (upd H a o) a u=upd H a u:=by
 funext b;unfold upd;split<;>rfl
theorem cF {H:Hp}{a b:Addr}{o u:HO}(h:H a=some o) (h':H b=some u) (d:o≠u):a≠b:=by
 intro e;subst e;rw [h] at h';exact d (Option.some.inj h')
theorem bf {H:Hp}{a b:Addr}{o:HO}(h:H a=some o) (h':H b=none):a≠b:=by
 intro e;subst e;rw [h] at h';cases h'
section
variable (P:Program) (w:World)
def aM (H:Hp) (h:Heap) (a:Addr):HO->Prop
 |.lst xs=>xs.length<=sizeLine/\∃ (its:List Value) (n:Nat),ai xs its/\h.get? a=some { cls:=.type "list",data:=.seq its.toArray n }
 |.tup xs=>xs.length<=sizeLine/\∃ its:List Value,ai xs its/\IsTup h a its.toArray
 |.dK kvs=>kvs.length<=sizeLine/\(a==sysModules)=false/\∃ vs,KV kvs vs/\h.DictOf (aS P w) a vs
 |.dT kvs=>kvs.length<=sizeLine/\(a==sysModules)=false/\∃ xs:List (List Key×Addr×Value),
   Paired (λ(p:List Key×V) (q:List Key×Addr×Value)=>p.1=q.1/\H q.2.1=some (.tup (p.1.map kV))/\ak p.2 q.2.2) kvs xs /\
   ∃ o es ep,h.get? a=some o/\o.ExactDict/\o.data=.dict es ep/\es.toList=xs.map (entryOfKey (tupleKind (aS P w)))/\(xs.map (·.1)).Nodup
 |.set S n=>h.SetOf (intKind P w) a S n
 |.ins C dx fs=>H dx=some (.own a)/\fs.length<=1000/\dx≠a/\h.get? a=some (PySem.W.instObj C dx) /\
   ∃ mA,h.Ns1 dx mA/\(∀ f,bB (fs.lookup f) (mA f))/\PySem.Within mA (fs.map (·.1))
 |.own _=>∃ o,h.get? a=some o
 |.xd fs=>∃ mA,h.Ns1 a mA/\∀ f,bB (fs.lookup f) (mA f)
 |.rng lo hi=>∃ t u v,h.get? a=some { cls:=.type "range",data:=.fields #[.int lo t,.int hi u,.int 1 v] }
 |.frz o u=>h.get? a=some o/\aM H h a u
 |.tbl ps=>h.get? a=some { cls:=.none,data:=.fields ps }
 |.met f x=>h.get? a=some (PySem.W.methodObj (.ref f) (.ref x))
 |.ext φ=>φ h/\(∃ o,h.get? a=some o)/\∀ h1 h2:Heap,φ h1->(∀ o,h1.get? a=some o->h2.get? a=some o)->φ h2
def HOk (H:Hp) (h:Heap):Prop:=∀ a o,H a=some o->aM P w H h a o
end
section
variable {P:Program}{w:World}{H H':Hp}{h h':Heap}{a:Addr}{o:HO}
theorem aM.lt (x:aM P w H h a o):a<h.objs.size:=by
 cases o with
 |lst xs=>obtain ⟨_,_,_,_,e⟩:=x;exact Heap.lt_size e
 |tup xs=>obtain ⟨_,_,_,p⟩:=x;exact p.lt
 |dK kvs=>obtain ⟨_,_,_,_,o,_,_,e,_⟩:=x;exact Heap.lt_size e
 |dT kvs=>obtain ⟨_,_,_,_,o,_,_,e,_⟩:=x;exact Heap.lt_size e
 |set S n=>obtain ⟨o,_,_,_,e,_⟩:=x;exact Heap.lt_size e
 |ins C dx fs=>obtain ⟨_,_,_,e,_⟩:=x;exact Heap.lt_size e
 |own y=>obtain ⟨_,e⟩:=x;exact Heap.lt_size e
 |xd fs=>obtain ⟨_,⟨_,_,_,e,_⟩,_⟩:=x;exact Heap.lt_size e
 |rng lo hi=>obtain ⟨_,_,_,e⟩:=x;exact Heap.lt_size e
 |frz ob u=>obtain ⟨e,_⟩:=x;exact Heap.lt_size e
 |tbl ps=>exact Heap.lt_size (show h.get? a=some _ from x)
 |met f y=>exact Heap.lt_size (show h.get? a=some _ from x)
 |ext φ=>obtain ⟨_,⟨_,e⟩,_⟩:=x;exact Heap.lt_size e
theorem Paired.mapP {α β:Type}{F G:α->β->Prop}:∀ {l₁:List α}{l₂:List β},Paired F l₁ l₂->(∀ a b,F a b->G a b)->Paired G l₁ l₂
 |_,_,.nil,_=>.nil
 |_,_,.cons r t,f=>.cons (f _ _ r) (Paired.mapP t f)
theorem aM.stay (x:aM P w H h a o) (k:∀ b u,(b=a\/H b=some (.own a))->h.get? b=some u->h'.get? b=some u)
  (ho:∀ b,H b=some (.own a)->H' b=some (.own a)) (ht:∀ b xs,H b=some (.tup xs)->H' b=some (.tup xs)):aM P w H' h' a o:=by
 induction o with
 |lst xs=>obtain ⟨z,its,n,r,e⟩:=x;exact ⟨z,its,n,r,k _ _ (.inl rfl) e⟩
 |tup xs=>obtain ⟨z,its,r,ob,e,c⟩:=x;exact ⟨z,its,r,ob,k _ _ (.inl rfl) e,c⟩
 |dK kvs=>obtain ⟨z,y,vs,r,ob,es,ep,e,c⟩:=x;exact ⟨z,y,vs,r,ob,es,ep,k _ _ (.inl rfl) e,c⟩
 |dT kvs =>
  obtain ⟨z,y,xs,r,ob,es,ep,e,c⟩:=x
  exact ⟨z,y,xs,Paired.mapP r λp q z=>⟨z.1,ht _ _ z.2.1,z.2.2⟩,ob,es,ep,k _ _ (.inl rfl) e,c⟩
 |set S n=>obtain ⟨ob,es,ep,t,e,c⟩:=x;exact ⟨ob,es,ep,t,k _ _ (.inl rfl) e,c⟩
 |ins C dx fs =>
  obtain ⟨d,z,ne,e,mA,⟨od,es,ep,e2,c⟩,r⟩:=x
  exact ⟨ho _ d,z,ne,k _ _ (.inl rfl) e,mA,⟨od,es,ep,k _ _ (.inr d) e2,c⟩,r⟩
 |own y=>obtain ⟨ob,e⟩:=x;exact ⟨ob,k _ _ (.inl rfl) e⟩
 |xd fs=>obtain ⟨mA,⟨od,es,ep,e,c⟩,r⟩:=x;exact ⟨mA,⟨od,es,ep,k _ _ (.inl rfl) e,c⟩,r⟩
 |rng lo hi=>obtain ⟨t,u,v,e⟩:=x;exact ⟨t,u,v,k _ _ (.inl rfl) e⟩
 |frz ob u ih=>obtain ⟨e,q⟩:=x;exact ⟨k _ _ (.inl rfl) e,ih q⟩
 |tbl ps =>
  have e:h.get? a=some { cls:=.none,data:=.fields ps }:=x
  show h'.get? a=some { cls:=.none,data:=.fields ps }
  exact k a _ (.inl rfl) e
 |met f y =>
  have e:h.get? a=some (PySem.W.methodObj (.ref f) (.ref y)):=x
  show h'.get? a=some (PySem.W.methodObj (.ref f) (.ref y))
  exact k a _ (.inl rfl) e
 |ext φ=>obtain ⟨p,⟨o,e⟩,st⟩:=x;exact ⟨st _ _ p λo q=>k _ _ (.inl rfl) q,⟨o,k _ _ (.inl rfl) e⟩,st⟩
theorem HOk.lt (x:HOk P w H h) (e:H a=some o):a<h.objs.size:=(x a o e).lt
theorem HOk.fresh (x:HOk P w H h) (e:h.objs.size<=a):H a=none:=by
 cases q:H a with
 |none=>rfl
 |some u=>exact absurd (Nat.lt_of_lt_of_le (x.lt q) e) (Nat.lt_irrefl _)
theorem HOk.kept (x:HOk P w H h) (k:∀ b u,h.get? b=some u->h'.get? b=some u):HOk P w H h':=λa o e =>
 (x a o e).stay (λb u _ q=>k b u q) (λ_ q=>q) λ_ _ q=>q
theorem HOk.laid (x:HOk P w H h) (k:∀ b u,h.get? b=some u->h'.get? b=some u) (hp:h.objs.size<=a) (new:aM P w (upd H a o) h' a o):HOk P w (upd H a o) h':=λb u e=>by
 have hn:=x.fresh hp
 by_cases hb:b=a
 ·subst hb;rw [aA] at e;cases e;exact new
 ·rw [ap hb] at e
  exact (x b u e).stay (λc v _ q=>k c v q) (λc q=>by rw [ap (bf q hn)];exact q) λc xs q=>by rw [ap (bf q hn)];exact q
end
def Rd (H:Hp) (a:Addr) (u:HO):Prop:=H a=some u\/∃ o,H a=some (.frz o u)
theorem Rd.ok {P:Program}{w:World}{H:Hp}{h:Heap}{a:Addr}{u:HO}(r:Rd H a u) (x:HOk P w H h):aM P w H h a u:=by
 rcases r with r|⟨o,r⟩
 ·exact x a u r
 ·obtain ⟨_,q⟩:=x a _ r
  exact q
def Mut:Option HO->Prop
 |some (.lst _)=>True
 |some (.dK _)=>True
 |some (.dT _)=>True
 |some (.set _ _)=>True
 |some (.ins _ _ _)=>True
 |some (.ext _)=>True
 |_=>False
section
variable {P:Program}{w:World}{H:Hp}{h h':Heap}{x e:Addr}{o':HO}
theorem HOk.write (ok:HOk P w H h) (mu:Mut (H x)) (he:e=x\/H e=some (.own x)) (k:∀ b u,b≠e->h.get? b=some u->h'.get? b=some u) (heo:∃ u,h'.get? e=some u)
  (new:aM P w (upd H x o') h' x o'):HOk P w (upd H x o') h':=λb u q=>by
 have nown:∀ c y,H c=some (.own y)->c≠x:=λc y r z=>by subst z;rw [r] at mu;exact mu
 have ntup:∀ c xs,H c=some (.tup xs)->c≠x:=λc xs r z=>by subst z;rw [r] at mu;exact mu
 by_cases hb:b=x
 ·subst hb;rw [aA] at q;cases q;exact new
 ·rw [ap hb] at q
  by_cases hbe:b=e
  ·have q':H b=some (.own x):=by
    rcases he with z|z
    ·exact absurd (hbe.trans z) hb
    ·rw [hbe];exact z
   rw [q] at q';cases q'
   obtain ⟨v,hv⟩:=heo
   exact ⟨v,by rw [hbe];exact hv⟩
  ·refine (ok b u q).stay (λc v hc r=>k c v ?_ r) (λc r=>by rw [ap (nown c b r)];exact r) λc xs r=>by rw [ap (ntup c xs r)];exact r
   rcases hc with rfl|hc
   ·exact hbe
   ·rintro rfl
    rcases he with z|z
    ·exact nown c b hc z
    ·rw [hc] at z;cases z;exact hb rfl
end
structure Un (fs ex:List Addr) (H H':Hp) (h h':Heap):Prop where
 keep:∀ b o,h.get? b=some o->H b=none->b∉fs->b∉ex->h'.get? b=some o
 slot:∀ b o,h.get? b=some o->H b=none->b∈fs->b∉ex->∃ sl,h'.get? b=some { o with slots:=sl }
 free:∀ b o,h.get? b=some o->H b=none->b∉ex->H' b=none
 there:∀ b o,h.get? b=some o->b∉ex->∃ o',h'.get? b=some o'
 tups:∀ b xs,H b=some (.tup xs)->H' b=some (.tup xs)
 frzs:∀ b o u,H b=some (.frz o u)->H' b=some (.frz o u)
 tbls:∀ b ps,H b=some (.tbl ps)->∃ more,H' b=some (.tbl (ps++more))
section
variable {fs fs' ex ex':List Addr}{H H1 H2:Hp}{h h1 h2 h':Heap}{a x e:Addr}{o:HO}
theorem Un.any (u:Un fs ex H H1 h h1){b:Addr}{ob:Obj}(q:h.get? b=some ob) (n:H b=none) (hx:b∉ex):∃ sl,h1.get? b=some { ob with slots:=sl }:=by
 by_cases hb:b∈fs
 ·exact u.slot b ob q n hb hx
 ·exact ⟨ob.slots,u.keep b ob q n hb hx⟩
theorem Un.kept (k:∀ b u,h.get? b=some u->h'.get? b=some u):Un fs ex H H h h' :=
 ⟨λb ob q _ _ _=>k b ob q,λb ob q _ _ _=>⟨ob.slots,k b ob q⟩,λ_ _ _ n _=>n,λb ob q _=>⟨ob,k b ob q⟩,λ_ _ q=>q,λ_ _ _ q=>q,λ_ ps q=>⟨#[],by rw [q];simp⟩⟩
theorem Un.refl:Un fs ex H H h h:=Un.kept λ_ _ q=>q
theorem Un.laid (k:∀ b u,h.get? b=some u->h'.get? b=some u) (hp:h.objs.size<=a) (hn:H a=none):Un fs ex H (upd H a o) h h' where
 keep:=λb u q _ _ _=>k b u q
 slot:=λb u q _ _ _=>⟨u.slots,k b u q⟩
 free:=λb u q n _=>by rw [ap (Nat.ne_of_lt (Nat.lt_of_lt_of_le (Heap.lt_size q) hp))];exact n
 there:=λb u q _=>⟨u,k b u q⟩
 tups:=λb xs q=>by rw [ap (bf q hn)];exact q
 frzs:=λb u xs q=>by rw [ap (bf q hn)];exact q
 tbls:=λb ps q=>⟨#[],by rw [ap (bf q hn),q];simp⟩
theorem Un.write (mu:Mut (H x)) (he:e=x\/H e=some (.own x)) (k:∀ b u,b≠e->h.get? b=some u->h'.get? b=some u) (heo:∃ u,h'.get? e=some u):Un fs ex H (upd H x o) h h':=by
 have hx:∀ b,H b=none->b≠x:=λb n z=>by subst z;rw [n] at mu;exact mu
 have hb:∀ b,H b=none->b≠e:=λb n z=>by
  subst z
  rcases he with r|r
  ·exact hx b n r
  ·rw [n] at r;cases r
 have hm:∀ b u,H b=some u->¬ Mut (some u)->b≠x:=λb u q nm z=>by subst z;rw [q] at mu;exact nm mu
 refine ⟨λb u q n _ _=>k b u (hb b n) q,λb u q n _ _=>⟨u.slots,k b u (hb b n) q⟩,λb u q n _=>by rw [ap (hx b n)];exact n,λb u q _=>?_,
  λb xs q=>by rw [ap (hm b _ q λz=>z)];exact q,λb u xs q=>by rw [ap (hm b _ q λz=>z)];exact q,λb ps q=>⟨#[],by rw [ap (hm b _ q λz=>z),q];simp⟩⟩
 by_cases hbe:b=e
 ·subst hbe;exact heo
 ·exact ⟨u,k b u hbe q⟩
end
def trk (h:Heap) (H:Hp):List Addr:=(List.range h.objs.size).filter λa=>(H a).isSome
def cX (h:Heap) (H:Hp):Heap:=PySem.W.hideAll h (trk h H)
theorem u8 (h:Heap) (H:Hp):(cX h H).objs.size=h.objs.size:=PySem.W.hideAll_size _ _
theorem wu {h:Heap}{H:Hp}{b:Addr}{o:Obj}(e:h.get? b=some o) (n:H b=none):(cX h H).get? b=some o :=
 PySem.W.hideAll_get _ e λhm=>by
  have q:(H b).isSome=true:=(List.mem_filter.mp hm).2
  rw [n] at q;simp at q
theorem xX {h:Heap}{H:Hp}{b:Addr}{o:Obj}(e:(cX h H).get? b=some o):h.get? b=some o/\H b=none:=by
 have e':h.get? b=some o:=PySem.W.of_hideAll (trk h H) e
 refine ⟨e',?_⟩
 cases q:H b with
 |none=>rfl
 |some x =>
  have hm:b∈trk h H:=List.mem_filter.mpr ⟨List.mem_range.mpr (Heap.lt_size e'),by simp [q]⟩
  have z:(cX h H).get? b=none:=PySem.W.hideAll_none (trk h H) hm
  rw [z] at e;cases e
def xY (g h:Heap) (L:Addr):List (Addr×Obj):=(List.range h.objs.size).filterMap λa=>if a=L\/(g.get? a).isSome=true then none else (h.get? a).map λo=>(a,o)
def rest (g h:Heap) (L d:Addr):List (Addr×Obj):=(xY g h L).filter λp=>decide (p.1≠d)
structure Mod (K:PySem.W.Frag) (mg:Str->Option Value) (base:Heap):Prop where
 kin:K.In base
 glob:base.Ns mainGlobals mg
 blt:∃ mb,base.Ns builtinsNs mb/\∀ x:Str,x ≠ "__name__"->mb x=bootBuiltins x
 nolimit:base.NoLimit
structure Cx where
 prog:Program
 w:World
 K:PySem.W.Frag
 mg:Str->Option Value
 base:Heap
 A:Around
 N:List Str
 s₀:Shared
 H₀:Hp
 env:Env
 outer:List Env
 stack:List Env
 ex:List Addr
 fn:Str->Bool
 calm:Bool
 pn:List (Addr×Obj)
 xe:Value->Shared->Prop
def frs (l:List Env):List Addr:=l.filterMap (·.frame)
abbrev Cx.fs (X:Cx):List Addr:=frs X.outer
def Vis (sc:Scope) (x:Str):Prop:=sc.names.lookup x=some .local\/sc.names.lookup x=some .cell\/sc.names.lookup x=some .free
def Loc (sc:Scope) (x:Str):Prop:=sc.names.lookup x=some .local\/sc.names.lookup x=some .cell
def EL (env:Env) (h:Heap) (m:Str->Option Value) (x:Str) (u:Value):Prop :=
 (env.kindOf x=some .local/\m x=some u)\/((env.kindOf x=some .cell\/env.kindOf x=some .free)/\∃ c,env.cells.lookup x=some c/\h.IsCell c (some u))
structure Cx.Ok (X:Cx):Prop where
 mod:Mod X.K X.mg X.base
 kind:X.env.scope.kind=.function
 glob:X.env.globals=mainGlobals
 blt:X.env.builtins=builtinsNs
 above:X.s₀.heap.objs.size<=X.env.locals
 inj:∀ x y c,X.env.cells.lookup x=some c->X.env.cells.lookup y=some c->x=y
 has:∀ x,(X.env.kindOf x=some .cell\/X.env.kindOf x=some .free)->∃ c,X.env.cells.lookup x=some c
 cab:∀ x c,X.fn x=true->X.env.cells.lookup x=some c->X.s₀.heap.objs.size<=c
 hd:X.calm=true->X.A.handled=none
 frames:X.A.frames=some X.stack
 stk:X.stack=X.outer\/(X.stack=X.env::X.outer/\X.env.frame=some X.env.locals)
 exf:∀ b∈X.ex,b≠X.env.locals/\∀ x c,X.env.cells.lookup x=some c->c≠b
 bs:∀ b o,X.base.get? b=some o->X.s₀.heap.get? b=some o/\X.H₀ b=none
 bsz:X.base.objs.size<=X.s₀.heap.objs.size
 noex:∀ b o,X.base.get? b=some o->b∉X.ex
 exfs:∀ b∈X.ex,b∉X.fs
 funs:X.s₀.heap.FunFrames X.base X.outer
 frf:∀ b∈X.fs,X.H₀ b=none
structure Inv (X:Cx) (pins:List (Addr×Obj)) (σ:List (Option V)) (H:Hp) (s:Shared):Prop where
 ok:X.Ok
 os:s.os=X.s₀.os
 bare:AllBare s.gens
 base:Un X.fs X.ex X.H₀ H X.s₀.heap s.heap
 loc:∃ m,s.heap.Ns X.env.locals m/\∀ (i:Nat) (x:Str) (v:V),X.N[i]?=some x->σ[i]?=some (some v)->Vis X.env.scope x->∃ u,ak v u/\EL X.env s.heap m x u
 cell:∀ x c,X.env.cells.lookup x=some c->∃ v,s.heap.IsCell c v
 free:H X.env.locals=none
 freeC:∀ x c,X.env.cells.lookup x=some c->H c=none
 pin:∀ p∈X.pn++pins,s.heap.get? p.1=some p.2/\H p.1=none/\p.1≠X.env.locals/\p.1∉X.fs/\∀ v,p.2.data≠.cell v
 hok:HOk X.prog X.w H s.heap
 len:σ.length=X.N.length
section
variable {X:Cx}{pins:List (Addr×Obj)}{σ:List (Option V)}{H H':Hp}{s:Shared}{h':Heap}
theorem Cx.Ok.nofr (ok:X.Ok){b:Addr}{o:Obj}(e:X.base.get? b=some o):b∉X.fs:=λhb=>by
 have:=(ok.funs.mem hb).1
 rw [e] at this;cases this
theorem Inv.bs (I:Inv X pins σ H s):∀ b o,X.base.get? b=some o->s.heap.get? b=some o/\H b=none:=λb o e =>
 ⟨I.base.keep b o (I.ok.bs b o e).1 (I.ok.bs b o e).2 (I.ok.nofr e) (I.ok.noex b o e),I.base.free b o (I.ok.bs b o e).1 (I.ok.bs b o e).2 (I.ok.noex b o e)⟩
theorem Inv.bk (I:Inv X pins σ H s):∀ b o,X.base.get? b=some o->s.heap.get? b=some o:=λb o e=>(I.bs b o e).1
theorem Inv.mod (I:Inv X pins σ H s):Mod X.K X.mg X.base:=I.ok.mod
theorem Inv.kIn (I:Inv X pins σ H s):X.K.In s.heap:=I.ok.mod.kin.keeps I.bk
theorem Inv.lt (I:Inv X pins σ H s):X.env.locals<s.heap.objs.size:=let ⟨_,hn,_⟩:=I.loc;hn.lt
theorem Inv.sz (I:Inv X pins σ H s):X.s₀.heap.objs.size<=s.heap.objs.size:=Nat.le_trans I.ok.above (Nat.le_of_lt I.lt)
theorem Inv.nofs (I:Inv X pins σ H s){a:Addr}(h:s.heap.objs.size<=a):a∉X.fs:=λhb=>by
 obtain ⟨_,o,ho,_⟩:=I.ok.funs.mem hb
 exact absurd (Nat.lt_of_lt_of_le (Heap.lt_size ho) (Nat.le_trans I.sz h)) (Nat.lt_irrefl _)
theorem Inv.cne (I:Inv X pins σ H s):∀ x c,X.env.cells.lookup x=some c->c≠X.env.locals:=λx c e z=>by
 obtain ⟨v,o,ho,hd⟩:=I.cell x c e
 obtain ⟨m,⟨o',es,ep,ho',hd',_⟩,_⟩:=I.loc
 rw [z,ho'] at ho;cases ho;rw [hd'] at hd;cases hd
theorem Inv.funs (I:Inv X pins σ H s):s.heap.FunFrames X.base X.outer:=by
 have all:∀ (l:List Env),(∀ b∈frs l,b∈X.fs)->X.s₀.heap.FunFrames X.base l->s.heap.FunFrames X.base l:=by
  intro l
  induction l with
  |nil=>intro _ _;trivial
  |cons env r ih =>
   intro hs hl
   obtain ⟨hk,⟨L,o,hf,hn,ho,hd⟩,hr⟩:=hl
   have hL:L∈X.fs:=hs L (by unfold frs;rw [List.filterMap_cons,hf];exact List.mem_cons_self)
   obtain ⟨sl,e⟩:=I.base.slot L o ho (I.ok.frf L hL) hL λz=>I.ok.exfs L z hL
   exact ⟨hk,⟨L,_,hf,hn,e,hd⟩,ih (λb hb=>hs b (by unfold frs;rw [List.filterMap_cons,hf];exact List.mem_cons_of_mem _ hb)) hr⟩
 exact all X.outer (λ_ hb=>hb) I.ok.funs
theorem Inv.stack (I:Inv X pins σ H s):s.heap.FunFrames X.base X.stack:=by
 rcases I.ok.stk with e|⟨e,hf⟩
 ·rw [e];exact I.funs
 ·rw [e]
  obtain ⟨m,hn,_⟩:=I.loc
  refine .cons (by rw [I.ok.kind];decide) hf hn ?_ I.funs
  exact Heap.get?_none_of_le (Nat.le_trans I.ok.bsz I.ok.above)
theorem Inv.stkSub (I:Inv X pins σ H s):∀ b∈frs X.stack,b∈X.env.locals::X.fs:=λb hb=>by
 rcases I.ok.stk with e|⟨e,hf⟩
 ·rw [e] at hb;exact List.mem_cons_of_mem _ hb
 ·rw [e] at hb
  unfold frs at hb
  rw [List.filterMap_cons,hf] at hb
  exact hb
theorem Inv.stkFree (I:Inv X pins σ H s):∀ b∈frs X.stack,H b=none:=λb hb=>by
 rcases List.mem_cons.mp (I.stkSub b hb) with e|hb
 ·rw [e];exact I.free
 ·obtain ⟨_,o,ho,_⟩:=I.ok.funs.mem hb
  exact I.base.free b o ho (I.ok.frf b hb) λz=>I.ok.exfs b z hb
theorem Inv.step {g':Array GenState}{t':Nat}{d':Drawn}{ch:List Addr}(I:Inv X pins σ H s)
  (hch:∀ b∈ch,(b∈X.ex\/X.s₀.heap.objs.size<=b)/\b≠X.env.locals/\(∀ x c,X.env.cells.lookup x=some c->c≠b)/\∀ p∈X.pn++pins,p.1≠b)
  (keep:∀ b o,b≠X.env.locals->b∉X.fs->b∉ch->s.heap.get? b=some o->H b=none->h'.get? b=some o)
  (slot:∀ b o,b≠X.env.locals->b∈X.fs->b∉ch->s.heap.get? b=some o->H b=none->∃ sl,h'.get? b=some { o with slots:=sl }) (free:∀ b o,b∉ch->s.heap.get? b=some o->H b=none->H' b=none)
  (there:∀ b o,b∉ch->s.heap.get? b=some o->∃ o',h'.get? b=some o')
  (tups:∀ b xs,H b=some (.tup xs)->H' b=some (.tup xs)) (frzs:∀ b o u,H b=some (.frz o u)->H' b=some (.frz o u)) (tbls:∀ b ps,H b=some (.tbl ps)->∃ more,H' b=some (.tbl (ps++more)))
  (ns:∀ m,s.heap.Ns X.env.locals m->h'.Ns X.env.locals m) (hok:HOk X.prog X.w H' h') (hg:AllBare g') :
  Inv X pins σ H' { s with heap:=h',gens:=g',drawn:=d',toks:=t' }:=by
 have neL:∀ b o,X.s₀.heap.get? b=some o->b≠X.env.locals:=λb o e=>Nat.ne_of_lt (Nat.lt_of_lt_of_le (Heap.lt_size e) I.ok.above)
 have neC:∀ b o,X.s₀.heap.get? b=some o->b∉X.ex->b∉ch:=λb o e hx hb=>by
  rcases (hch b hb).1 with z|z
  ·exact hx z
  ·exact absurd (Nat.lt_of_lt_of_le (Heap.lt_size e) z) (Nat.lt_irrefl _)
 have cellK:∀ x c,X.env.cells.lookup x=some c->∀ v,s.heap.IsCell c v->h'.IsCell c v:=λx c e v zz1=>by
  obtain ⟨o,ho,hd⟩:=zz1
  have nch:c∉ch:=λz=>(hch c z).2.2.1 x c e rfl
  by_cases hc:c∈X.fs
  ·obtain ⟨sl,q⟩:=slot c o (I.cne x c e) hc nch ho (I.freeC x c e)
   exact ⟨_,q,hd⟩
  ·exact ⟨o,keep c o (I.cne x c e) hc nch ho (I.freeC x c e),hd⟩
 refine ⟨I.ok,I.os,hg,⟨λb o e n hb hx=>?_,λb o e n hb hx=>?_,λb o e n hx=>?_,λb o e hx=>?_,λb xs e=>tups b xs (I.base.tups b xs e),λb o xs e=>frzs b o xs (I.base.frzs b o xs e),λb ps e=>?_⟩,?_,λx c e=>?_,?_,λx c e=>?_,λp hp=>?_,hok,I.len⟩
 ·exact keep b o (neL b o e) hb (neC b o e hx) (I.base.keep b o e n hb hx) (I.base.free b o e n hx)
 ·obtain ⟨sl,e1⟩:=I.base.slot b o e n hb hx
  obtain ⟨sl',e2⟩:=slot b _ (neL b o e) hb (neC b o e hx) e1 (I.base.free b o e n hx)
  exact ⟨sl',e2⟩
 ·obtain ⟨o',e1⟩:=I.base.there b o e hx
  exact free b o' (neC b o e hx) e1 (I.base.free b o e n hx)
 ·obtain ⟨o',e1⟩:=I.base.there b o e hx
  exact there b o' (neC b o e hx) e1
 ·obtain ⟨m1,e1⟩:=I.base.tbls b ps e
  obtain ⟨m2,e2⟩:=tbls b _ e1
  exact ⟨m1++m2,by rw [e2,Array.append_assoc]⟩
 ·obtain ⟨m,hn,hl⟩:=I.loc
  refine ⟨m,ns m hn,λi x v e1 e2 e3=>?_⟩
  obtain ⟨u,r,l⟩:=hl i x v e1 e2 e3
  refine ⟨u,r,?_⟩
  rcases l with l|⟨k,c,e,z⟩
  ·exact .inl l
  ·exact .inr ⟨k,c,e,cellK x c e _ z⟩
 ·obtain ⟨v,z⟩:=I.cell x c e
  exact ⟨v,cellK x c e v z⟩
 ·obtain ⟨m,⟨o,_,_,ho,_⟩,_⟩:=I.loc
  exact free _ o (λz=>(hch _ z).2.1 rfl) ho I.free
 ·obtain ⟨v,o,ho,hd⟩:=I.cell x c e
  exact free c o (λz=>(hch c z).2.2.1 x c e rfl) ho (I.freeC x c e)
 ·obtain ⟨e,n,ne,nf,d⟩:=I.pin p hp
  have nch:p.1∉ch:=λz=>(hch p.1 z).2.2.2 p hp rfl
  exact ⟨keep p.1 p.2 ne nf nch e n,free p.1 p.2 nch e n,ne,nf,d⟩
theorem Inv.un {t':Nat}(I:Inv X pins σ H s) (u:Un X.fs [] H H' s.heap h') (hok:HOk X.prog X.w H' h'):Inv X pins σ H' { s with heap:=h',toks:=t' }:=by
 obtain ⟨m,⟨o,es,ep,ho,r⟩,_⟩:=id I.loc
 obtain ⟨sl,hL⟩:=u.any ho I.free (by simp)
 exact I.step (g':=s.gens) (d':=s.drawn) (ch:=[]) (λ_ z=>nomatch z) (λb o _ hb _ e n=>u.keep b o e n hb (by simp)) (λb o _ hb _ e n=>u.slot b o e n hb (by simp)) (λb o _ e n=>u.free b o e n (by simp)) (λb o _ e=>u.there b o e (by simp)) u.tups u.frzs u.tbls (λm' hm=>by
  obtain ⟨o',es',ep',ho',r'⟩:=hm
  rw [ho] at ho';cases ho'
  exact ⟨_,es',ep',hL,r'⟩) hok I.bare
theorem Inv.call {g':Array GenState}{t':Nat}{d':Drawn}{ch:List Addr}(I:Inv X pins σ H s) (u:Un (frs X.stack) ch H H' s.heap h') (hok:HOk X.prog X.w H' h') (hg:AllBare g')
  (hch:∀ b∈ch,(b∈X.ex\/X.s₀.heap.objs.size<=b)/\b≠X.env.locals/\(∀ x c,X.env.cells.lookup x=some c->c≠b)/\∀ p∈X.pn++pins,p.1≠b) :
  Inv X pins σ H' { s with heap:=h',gens:=g',drawn:=d',toks:=t' }:=by
 obtain ⟨m,⟨o,es,ep,ho,r⟩,_⟩:=id I.loc
 obtain ⟨sl,hL⟩:=u.any ho I.free λz=>(hch _ z).2.1 rfl
 exact I.step (ch:=ch) hch (λb o hL hb hc e n=>u.keep b o e n (λz=>(List.mem_cons.mp (I.stkSub b z)).elim hL hb) hc) (λb o _ _ hc e n=>u.any e n hc) (λb o hc e n=>u.free b o e n hc) (λb o hc e=>u.there b o e hc) u.tups u.frzs u.tbls (λm' hm=>by
  obtain ⟨o',es',ep',ho',r'⟩:=hm
  rw [ho] at ho';cases ho'
  exact ⟨_,es',ep',hL,r'⟩) hok hg
theorem Inv.turned {t':Nat}{it:Addr}(I:Inv X pins σ H s) (k:∀ b o,b≠it->s.heap.get? b=some o->h'.get? b=some o) (hn:H it=none) (hL:it≠X.env.locals)
  (h1:it∈X.ex\/X.s₀.heap.objs.size<=it) (h2:∀ x c,X.env.cells.lookup x=some c->c≠it) (h3:∀ p∈X.pn++pins,p.1≠it):Inv X pins σ H { s with heap:=h',toks:=t' }:=by
 have nit:∀ b u,H b=some u->b≠it:=λb u e z=>by rw [z,hn] at e;cases e
 refine I.step (g':=s.gens) (d':=s.drawn) (ch:=[it]) (λb hb=>?_) (λb o _ _ hc e _=>k b o (λz=>hc (by simp [z])) e) (λb o _ _ hc e _=>⟨o.slots,k b o (λz=>hc (by simp [z])) e⟩) (λ_ _ _ _ n=>n)
  (λb o hc e=>⟨o,k b o (λz=>hc (by simp [z])) e⟩) (λ_ _ e=>e) (λ_ _ _ e=>e) (λb ps e=>⟨#[],by rw [e];simp⟩) (λm hm=>?_) (λb u e=>?_) I.bare
 ·have e:b=it:=by simpa using hb
  subst e
  exact ⟨h1,hL,h2,h3⟩
 ·obtain ⟨o,es,ep,ho,r⟩:=hm
  exact ⟨o,es,ep,k _ o (Ne.symm hL) ho,r⟩
 ·refine (I.hok b u e).stay (λc v hc q=>k c v ?_ q) (λ_ q=>q) λ_ _ q=>q
  rcases hc with z|z
  ·rw [z];exact nit b u e
  ·exact nit c _ z
theorem Inv.tok (I:Inv X pins σ H s) (t:Nat):Inv X pins σ H { s with toks:=t }:=I.un (h':=s.heap) (t':=t) Un.refl I.hok
theorem Inv.kept {t':Nat}(I:Inv X pins σ H s) (k:∀ b u,s.heap.get? b=some u->h'.get? b=some u):Inv X pins σ H { s with heap:=h',toks:=t' }:=I.un (Un.kept k) (I.hok.kept k)
theorem Inv.laid {a:Addr}{o:HO}{t':Nat}(I:Inv X pins σ H s) (k:∀ b u,s.heap.get? b=some u->h'.get? b=some u) (hp:s.heap.objs.size<=a) (new:aM X.prog X.w (upd H a o) h' a o) :
  Inv X pins σ (upd H a o) { s with heap:=h',toks:=t' }:=I.un (Un.laid k hp (I.hok.fresh hp)) (I.hok.laid k hp new)
theorem Inv.write {x e:Addr}{o:HO}{t':Nat}(I:Inv X pins σ H s) (mu:Mut (H x)) (he:e=x\/H e=some (.own x)) (k:∀ b u,b≠e->s.heap.get? b=some u->h'.get? b=some u) (heo:∃ u,h'.get? e=some u)
  (new:aM X.prog X.w (upd H x o) h' x o):Inv X pins σ (upd H x o) { s with heap:=h',toks:=t' }:=I.un (Un.write mu he k heo) (I.hok.write mu he k heo new)
theorem Inv.pins_of {pins':List (Addr×Obj)}(I:Inv X pins σ H s) (h:∀ p∈pins',s.heap.get? p.1=some p.2/\H p.1=none/\p.1≠X.env.locals/\p.1∉X.fs/\∀ v,p.2.data≠.cell v):Inv X pins' σ H s :=
 ⟨I.ok,I.os,I.bare,I.base,I.loc,I.cell,I.free,I.freeC,λp hp=>(List.mem_append.mp hp).elim (λz=>I.pin p (List.mem_append_left _ z)) (h p),I.hok,I.len⟩
theorem jW {N:List Str}(hN:N.Nodup){i j:Nat}{x:Str}(a:N[i]?=some x) (b:N[j]?=some x):i=j:=by
 obtain ⟨h1,e1⟩:=List.getElem?_eq_some_iff.mp a
 obtain ⟨h2,e2⟩:=List.getElem?_eq_some_iff.mp b
 exact (List.getElem_inj hN).mp (e1.trans e2.symm)
theorem u9 {M:Model}{A:Around}{E:Value->Shared->Prop}{i:Nat}{x:Str}{v:V}{u:Value}{Q:Unit->Shared->Prop}(I:Inv X pins σ H s) (hN:X.N.Nodup) (hi:X.N[i]?=some x) (hx:Loc X.env.scope x) (r:ak v u)
  (h:∀ s',Inv X pins (σ.set i (some v)) H s'->(∃ a,Heap.SameBut a s.heap s'.heap/\(a=X.env.locals\/X.env.cells.lookup x=some a))->Q () s') (hf:X.fn x=true\/X.env.scope.names.lookup x=some .local:=by first|exact .inl rfl|exact .inr rfl|assumption):wpAny M A (storeName X.env x u) Q E s:=by
 obtain ⟨m,hn,hl⟩:=id I.loc
 have hcls:(X.env.scope.kind==.class || (X.env.scope.kind==.module&&X.env.locals != X.env.globals))=false:=by rw [I.ok.kind];rfl
 have hiσ:i<σ.length:=by rw [I.len];exact (List.getElem?_eq_some_iff.mp hi).1
 have cne:=I.cne
 have tracked:∀ {a:Addr}{h':Heap},(∃ o,s.heap.get? a=some o/\H a=none)->Heap.SameBut a s.heap h'->HOk X.prog X.w H h':=fun {a h'} ha hs b ob e=>by
  obtain ⟨_,_,hfree⟩:=ha
  refine (I.hok b ob e).stay (λc w' hc q=>(hs.2 c ?_).trans q) (λ_ q=>q) λ_ _ q=>q
  rintro rfl
  rcases hc with rfl|hc
  ·rw [hfree] at e;cases e
  ·rw [hfree] at hc;cases hc
 rcases hx with hk|hk
 ·refine wpAny_storeName_local hk hn (λh' hn' hs=>?_) hcls
  obtain ⟨oL,_,_,hoL,_⟩:=id hn
  refine h _ ⟨I.ok,I.os,I.bare,⟨λb o e n hb hx=>?_,λb o e n hb hx=>?_,I.base.free,λb o e hx=>?_,I.base.tups,I.base.frzs,I.base.tbls⟩,⟨_,hn',λj y v' e1 e2 e3=>?_⟩,λy c e=>?_,I.free,I.freeC,λp hp=>?_,tracked ⟨oL,hoL,I.free⟩ hs,by simpa using I.len⟩ ⟨_,hs,.inl rfl⟩
  ·exact (hs.2 b (Nat.ne_of_lt (Nat.lt_of_lt_of_le (Heap.lt_size e) I.ok.above))).trans (I.base.keep b o e n hb hx)
  ·obtain ⟨sl,e1⟩:=I.base.slot b o e n hb hx
   exact ⟨sl,(hs.2 b (Nat.ne_of_lt (Nat.lt_of_lt_of_le (Heap.lt_size e) I.ok.above))).trans e1⟩
  ·obtain ⟨o',e1⟩:=I.base.there b o e hx
   exact ⟨o',(hs.2 b (Nat.ne_of_lt (Nat.lt_of_lt_of_le (Heap.lt_size e) I.ok.above))).trans e1⟩
  ·by_cases hj:j=i
   ·subst hj
    rw [hi] at e1;cases e1
    rw [List.getElem?_set_self hiσ] at e2
    cases e2
    exact ⟨u,r,.inl ⟨hk,by simp⟩⟩
   ·rw [List.getElem?_set_ne (Ne.symm hj)] at e2
    obtain ⟨u',r',q⟩:=hl j y v' e1 e2 e3
    refine ⟨u',r',?_⟩
    rcases q with ⟨k,e⟩|⟨k,c,e,z⟩
    ·refine .inl ⟨k,?_⟩
     have:y≠x:=λe=>hj (jW hN e1 (e ▸ hi))
     simp [this,e]
    ·exact .inr ⟨k,c,e,z.sameBut hs (cne y c e)⟩
  ·obtain ⟨w',z⟩:=I.cell y c e
   exact ⟨w',z.sameBut hs (cne y c e)⟩
  ·obtain ⟨e,n,ne,nf,d⟩:=I.pin p hp
   exact ⟨(hs.2 p.1 ne).trans e,n,ne,nf,d⟩
 ·have hfn:X.fn x=true:=by
   rcases hf with z|z
   ·exact z
   ·rw [z] at hk;cases hk
  obtain ⟨c,hc⟩:=I.ok.has x (.inl hk)
  obtain ⟨w',z⟩:=I.cell x c hc
  refine wpAny_storeName_cell I.ok.kind hk hc z (λh' hc' hs=>?_)
  obtain ⟨oc,hoc,hocd⟩:=id z
  refine h { s with heap:=h' } ⟨I.ok,I.os,I.bare,⟨λb o e n hb hx=>?_,λb o e n hb hx=>?_,I.base.free,λb o e hx=>?_,I.base.tups,I.base.frzs,I.base.tbls⟩,⟨m,hn.sameBut hs (Ne.symm (cne x c hc)),λj y v' e1 e2 e3=>?_⟩,λy c' e=>?_,I.free,I.freeC,λp hp=>?_,tracked ⟨oc,hoc,I.freeC x c hc⟩ hs,by simpa using I.len⟩ ⟨c,hs,.inr hc⟩
  ·exact (hs.2 b (Nat.ne_of_lt (Nat.lt_of_lt_of_le (Heap.lt_size e) (I.ok.cab x c hfn hc)))).trans (I.base.keep b o e n hb hx)
  ·obtain ⟨sl,e1⟩:=I.base.slot b o e n hb hx
   exact ⟨sl,(hs.2 b (Nat.ne_of_lt (Nat.lt_of_lt_of_le (Heap.lt_size e) (I.ok.cab x c hfn hc)))).trans e1⟩
  ·obtain ⟨o',e1⟩:=I.base.there b o e hx
   exact ⟨o',(hs.2 b (Nat.ne_of_lt (Nat.lt_of_lt_of_le (Heap.lt_size e) (I.ok.cab x c hfn hc)))).trans e1⟩
  ·by_cases hj:j=i
   ·subst hj
    rw [hi] at e1;cases e1
    rw [List.getElem?_set_self hiσ] at e2
    cases e2
    exact ⟨u,r,.inr ⟨.inl hk,c,hc,hc'⟩⟩
   ·rw [List.getElem?_set_ne (Ne.symm hj)] at e2
    obtain ⟨u',r',q⟩:=hl j y v' e1 e2 e3
    refine ⟨u',r',?_⟩
    rcases q with q|⟨k,c',e,z'⟩
    ·exact .inl q
    ·refine .inr ⟨k,c',e,z'.sameBut hs ?_⟩
     rintro rfl
     exact hj (jW hN e1 (I.ok.inj _ _ _ e hc ▸ hi))
  ·by_cases hcc:c'=c
   ·subst hcc;exact ⟨_,hc'⟩
   ·obtain ⟨w2,z2⟩:=I.cell y c' e
    exact ⟨w2,z2.sameBut hs hcc⟩
  ·obtain ⟨e,n,ne,nf,d⟩:=I.pin p hp
   refine ⟨(hs.2 p.1 ?_).trans e,n,ne,nf,d⟩
   intro q
   rw [q,hoc] at e
   have q':oc=p.2:=Option.some.inj e
   exact d w' (by rw [<- q'];exact hocd)
theorem fR {M:Model}{A:Around}{E:Value->Shared->Prop}{i:Nat}{x:Str}{v:V}{u:Value}{Q:Unit->Shared->Prop}(I:Inv X pins σ H s) (hN:X.N.Nodup) (hi:X.N[i]?=some x) (hx:Loc X.env.scope x) (r:ak v u)
  (h:∀ s',Inv X pins (σ.set i (some v)) H s'->Q () s') (hf:X.fn x=true\/X.env.scope.names.lookup x=some .local:=by first|exact .inl rfl|exact .inr rfl|assumption):wpAny M A (storeName X.env x u) Q E s :=
 u9 I hN hi hx r (λs' I' _=>h s' I') hf
theorem Inv.call' {s':Shared}{ch:List Addr}(I:Inv X pins σ H s) (ho:s'.os=s.os) (u:Un (frs X.stack) ch H H' s.heap s'.heap) (hok:HOk X.prog X.w H' s'.heap) (hg:AllBare s'.gens)
  (hch:∀ b∈ch,(b∈X.ex\/X.s₀.heap.objs.size<=b)/\b≠X.env.locals/\(∀ x c,X.env.cells.lookup x=some c->c≠b)/\∀ p∈X.pn++pins,p.1≠b):Inv X pins σ H' s':=by
 obtain ⟨h',g',d',t',o'⟩:=s'
 have e:o'=s.os:=ho
 subst e
 exact I.call (g':=g') (t':=t') (d':=d') u hok hg hch
end
abbrev XK:=Value->Option Addr->Hp->Prop
abbrev St:=List (Option V)
abbrev VK:=V->Hp->Prop
abbrev TE:=St->Hp->VK->Prop
abbrev TT:=St->Hp->(Bool->Hp->Prop)->Prop
abbrev TA:=St->Hp->(List V->Hp->Prop)->Prop
structure Ends where
 nx:St->Hp->Prop
 rt:VK
 bk:St->Hp->Prop:=λ_ _=>False
 ct:St->Hp->Prop:=λ_ _=>False
abbrev TS:=Ends->St->Hp->Prop
def EP (X:Cx) (pins:List (Addr×Obj)) (σ:St) (Q:VK) (u:Value) (s':Shared):Prop:=∃ v H',Inv X pins σ H' s'/\ak v u/\Q v H'
def TP (X:Cx) (pins:List (Addr×Obj)) (σ:St) (Q:Bool->Hp->Prop) (b:Bool) (s':Shared):Prop:=∃ H',Inv X pins σ H' s'/\Q b H'
def AP (X:Cx) (pins:List (Addr×Obj)) (σ:St) (Q:List V->Hp->Prop) (us:List Value) (s':Shared):Prop:=∃ vs H',Inv X pins σ H' s'/\ai vs us/\Q vs H'
def SP (X:Cx) (pins:List (Addr×Obj)) (D:Ends) (f:Flow) (s':Shared):Prop :=
 match f with
 |.next=>∃ σ' H',Inv X pins σ' H' s'/\D.nx σ' H'
 |.brk=>∃ σ' H',Inv X pins σ' H' s'/\D.bk σ' H'
 |.cont=>∃ σ' H',Inv X pins σ' H' s'/\D.ct σ' H'
 |.ret u=>∃ v σ' H',Inv X pins σ' H' s'/\ak v u/\D.rt v H'
def PE (X:Cx) (e:Expr) (t:TE):Prop :=
 ∀ (pins:List (Addr×Obj)) (s:Shared) (σ:St) (H:Hp) (Q:VK),Inv X pins σ H s->t σ H Q->wpAny (model X.prog X.w) X.A (eval e X.env) (EP X pins σ Q) X.xe s
def PT (X:Cx) (e:Expr) (t:TT):Prop :=
 ∀ (pins:List (Addr×Obj)) (s:Shared) (σ:St) (H:Hp) (Q:Bool->Hp->Prop),Inv X pins σ H s->t σ H Q->wpAny (model X.prog X.w) X.A (isTrue e X.env (eval e X.env)) (TP X pins σ Q) X.xe s
def PW (X:Cx) (e:Expr) (t:TT):Prop :=
 ∀ (whole:Sem Value) (pins:List (Addr×Obj)) (s:Shared) (σ:St) (H:Hp) (Q:Bool->Hp->Prop),Inv X pins σ H s->t σ H Q->wpAny (model X.prog X.w) X.A (isTrue e X.env whole) (TP X pins σ Q) X.xe s
def PA (X:Cx) (es:List Expr) (t:TA):Prop :=
 ∀ (pos:Pos) (pins:List (Addr×Obj)) (s:Shared) (σ:St) (H:Hp) (Q:List V->Hp->Prop),Inv X pins σ H s->t σ H Q->wpAny (model X.prog X.w) X.A (spliced (backTo pos (starEach es X.env))) (AP X pins σ Q) X.xe s
def PS (X:Cx) (st:Stmt) (t:TS):Prop :=
 ∀ (pins:List (Addr×Obj)) (s:Shared) (σ:St) (H:Hp) (D:Ends),Inv X pins σ H s->t D σ H->wpAny (model X.prog X.w) X.A (exec st X.env) (SP X pins D) X.xe s
def PSs (X:Cx) (st:List Stmt) (t:TS):Prop :=
 ∀ (pins:List (Addr×Obj)) (s:Shared) (σ:St) (H:Hp) (D:Ends),Inv X pins σ H s->t D σ H->wpAny (model X.prog X.w) X.A (execs st X.env) (SP X pins D) X.xe s
theorem thn {α:Type}{t:Sem α}{Q Q':α->Shared->Prop}{M:Model}{A:Around}{E:Value->Shared->Prop}{s:Shared}(h:wpAny M A t Q E s) (hQ:∀ a s,Q a s->Q' a s):wpAny M A t Q' E s:=wpAny_mono h hQ λ_ _ x=>x
section
variable {X:Cx}
def sV (i:Nat):TE:=λσ H Q=>∃ v,σ[i]?=some (some v)/\Q v H
def tC (v:V):TE:=λ_ H Q=>Q v H
theorem Ai {i:Nat}{x:Str}{pos:Pos}(hN:X.N[i]?=some x) (hv:Vis X.env.scope x) (hd:(x==("__debug__":Str))=false:=by decide) (hcd:(x==("__classdict__":Str))=false:=by decide):PE X (.Name x pos) (sV i):=by
 intro pins s σ H Q I h
 obtain ⟨v,e,h⟩:=h
 obtain ⟨m,hn,hl⟩:=I.loc
 obtain ⟨u,r,l⟩:=hl i x v hN e hv
 have fin:EP X pins σ Q u s:=⟨v,H,I,r,h⟩
 rcases l with ⟨hk,hm⟩|⟨hk,c,hc,hcell⟩
 ·exact wpAny_Name (wpAny_loadName_local I.ok.kind hk hn hm fin) hd
 ·rcases hk with hk|hk
  ·exact wpAny_Name (wpAny_loadName_cell I.ok.kind hk hc hcell fin) hd
  ·exact wpAny_Name (wpAny_loadName_free I.ok.kind hk hc hcell fin hcd) hd
theorem Aj {i j pos}:PE X (.Constant (.int i) j pos) (tC (.int i)):=λ_ _ _ H _ I h=>wpAny_Constant_int ⟨.int i,H,I.tok _,⟨_,rfl⟩,h⟩
theorem CL {b j pos}:PE X (.Constant (.bool b) j pos) (tC (.bl b)):=λ_ _ _ H _ I h=>Constant_bool ⟨.bl b,H,I,rfl,h⟩
theorem Ak {j pos}:PE X (.Constant .none j pos) (tC .non):=λ_ _ _ H _ I h=>Constant_none ⟨.non,H,I,rfl,h⟩
theorem qa {x j pos}:PE X (.Constant (.str x) j pos) (tC (.str x)):=λ_ _ _ H _ I h=>Calls.Constant_str ⟨.str x,H,I.tok _,⟨_,rfl⟩,h⟩
def Gl (X:Cx) (x:Str):Prop:=X.env.kindOf x=some .globalImplicit
theorem da {E:Value->Shared->Prop}{pins:List (Addr×Obj)}{s:Shared}{σ:St}{H:Hp}{x:Str}{u:Value}{pos:Pos}{Q:Value->Shared->Prop}(I:Inv X pins σ H s) (hg:Gl X x) (hm:X.mg x=some u) (h:Q u s)
  (hd:(x==("__debug__":Str))=false:=by decide):wpAny (model X.prog X.w) X.A (eval (.Name x pos) X.env) Q E s :=
 Calls.Name_function_global I.ok.kind hg (Calls.loadGlobal_global (by rw [I.ok.glob];exact I.mod.glob.keeps I.bk) hm h) hd
theorem gc {E:Value->Shared->Prop}{pins:List (Addr×Obj)}{s:Shared}{σ:St}{H:Hp}{x:Str}{u:Value}{pos:Pos}{Q:Value->Shared->Prop}(I:Inv X pins σ H s) (hg:Gl X x) (hm:X.mg x=none) (hv:bootBuiltins x=some u) (h:Q u s)
  (hn:x ≠ "__name__":=by decide) (hd:(x==("__debug__":Str))=false:=by decide):wpAny (model X.prog X.w) X.A (eval (.Name x pos) X.env) Q E s:=by
 obtain ⟨mb,h1,h2⟩:=I.mod.blt
 exact Calls.Name_function_global I.ok.kind hg (Calls.loadGlobal_builtin (by rw [I.ok.glob];exact I.mod.glob.keeps I.bk) hm (by rw [I.ok.blt];exact h1.keeps I.bk) ((h2 x hn).trans hv) h) hd
theorem pb {x:Str}{v:V}{u:Value}{pos:Pos}(hg:Gl X x) (hm:X.mg x=some u) (r:ak v u) (hd:(x==("__debug__":Str))=false:=by decide):PE X (.Name x pos) (tC v) :=
 λ_ _ _ H _ I h=>da I hg hm ⟨v,H,I,r,h⟩ hd
theorem xZ {x:Str}{v:V}{u:Value}{pos:Pos}(hg:Gl X x) (hm:X.mg x=none) (hv:bootBuiltins x=some u) (r:ak v u) (hn:x ≠ "__name__":=by decide) (hd:(x==("__debug__":Str))=false:=by decide):PE X (.Name x pos) (tC v) :=
 λ_ _ _ H _ I h=>gc I hg hm hv ⟨v,H,I,r,h⟩ hn hd
variable {a b:Expr}{ta tb:TE}{pos:Pos}
def tB (t:TE):TT:=λσ H Q=>t σ H λx H1=>∃ c,x=.bl c/\Q c H1
theorem Al {e:Expr}{t:TE}(h:PE X e t) (he:∀ whole,isTrue e X.env whole=(do let v <- whole;standAt e.pos;holding [v] (truthy v)):=by intro _;rfl):PT X e (tB t):=by
 intro pins s σ H Q I hw
 refine isTrue_plain (thn (h pins s σ H _ I hw) λv s1 ⟨x,H1,I1,r1,q1⟩=>?_) (he _)
 obtain ⟨d,rfl,q⟩:=q1
 cases r1
 exact wpAny_truthy_bool ⟨H1,I1,q⟩
variable {tA tB':TT}{rest:List Expr}
def EM (t u:TT):TT:=λσ H Q=>t σ H λc H1=>if c=true then u σ H1 Q else Q false H1
def tOr (t u:TT):TT:=λσ H Q=>t σ H λc H1=>if c=true then Q true H1 else u σ H1 Q
def EN (t:TT):TT:=λσ H Q=>t σ H λc H1=>Q (!c) H1
theorem x4 (ha:PT X a tA):PW X (.BoolOp .And [a] pos) tA:=by
 intro wh pins s σ H Q I h
 refine isTrue_and (thn (ha pins s σ H Q I h) λc s1 e=>?_)
 cases c with
 |true=>exact isTrue_and_nil e
 |false=>exact e
theorem Am (ha:PT X a tA):PW X (.BoolOp .Or [a] pos) tA:=by
 intro wh pins s σ H Q I h
 refine isTrue_or (thn (ha pins s σ H Q I h) λc s1 e=>?_)
 cases c with
 |false=>exact isTrue_or_nil e
 |true=>exact e
theorem An (ha:PT X a tA) (hb:PW X (.BoolOp .And (b::rest) pos) tB'):PW X (.BoolOp .And (a::b::rest) pos) (EM tA tB'):=by
 intro wh pins s σ H Q I h
 refine isTrue_and (thn (ha pins s σ H _ I h) λc s1 zz2=>?_)
 obtain ⟨H1,I1,q1⟩:=zz2
 cases c with
 |true=>exact hb wh pins s1 σ H1 Q I1 q1
 |false=>exact ⟨H1,I1,q1⟩
theorem CM (ha:PT X a tA) (hb:PW X (.BoolOp .Or (b::rest) pos) tB'):PW X (.BoolOp .Or (a::b::rest) pos) (tOr tA tB'):=by
 intro wh pins s σ H Q I h
 refine isTrue_or (thn (ha pins s σ H _ I h) λc s1 zz3=>?_)
 obtain ⟨H1,I1,q1⟩:=zz3
 cases c with
 |true=>exact ⟨H1,I1,q1⟩
 |false=>exact hb wh pins s1 σ H1 Q I1 q1
theorem Ao (ha:PT X a tA):PT X (.UnaryOp .Not a pos) (EN tA):=by
 intro pins s σ H Q I h
 exact isTrue_not (ha pins s σ H (λc H1=>Q (!c) H1) I h)
def CN (ta tb:TE):TE:=λσ H Q=>ta σ H λx H1=>∃ c,x=.bl c/\if c=true then tb σ H1 Q else Q (.bl false) H1
theorem Ap {op}{t:TE}(h:PE X a t):PE X (.BoolOp op [a] pos) t:=λpins s σ H Q I hw=>BoolOp_one (h pins s σ H Q I hw)
theorem Aq (ha:PE X a ta) (hb:PE X (.BoolOp .And (b::rest) pos) tb):PE X (.BoolOp .And (a::b::rest) pos) (CN ta tb):=by
 intro pins s σ H Q I h
 refine BoolOp_and (thn (ha pins s σ H _ I h) λv s1 zz4=>?_)
 obtain ⟨x,H1,I1,r1,q1⟩:=zz4
 obtain ⟨c,rfl,q1⟩:=q1
 cases r1
 refine wpAny_truthy_bool ?_
 cases c with
 |true=>exact hb pins s1 σ H1 Q I1 q1
 |false=>exact ⟨.bl false,H1,I1,rfl,q1⟩
end
def SqL (K:PySem.W.Frag) (H:Hp) (a:Addr) (xs:List V):Prop :=
 Rd H a (.lst xs) \/
  ∃ (o:Obj) (its:Array Value) (n:Nat),K.lookup a=some o/\o.cls=.type "list" /\ o.dict=none/\o.data=.seq its n/\its.size<=sizeLine/\ai xs its.toList
def SqT (K:PySem.W.Frag) (H:Hp) (a:Addr) (xs:List V):Prop :=
 Rd H a (.tup xs) \/
  ∃ (o:Obj) (its:Array Value) (n:Nat),K.lookup a=some o/\o.cls=.type "tuple" /\ o.data=.seq its n/\its.size<=sizeLine/\ai xs its.toList
def EO:Value->Option V
 |.none=>some .non
 |.bool b=>some (.bl b)
 |.int i _=>some (.int i)
 |.str x _=>some (.str x)
 |.bytes b _=>some (.byt b)
 |.float b _=>some (.flt b)
 |.ref a=>some (.ref a)
 |.type n=>some (.ty n)
 |_=>none
theorem ak.abs {x:V}{u:Value}(r:ak x u):EO u=some x:=by
 cases x with
 |non=>cases r;rfl
 |bl _=>cases r;rfl
 |int _=>obtain ⟨t,rfl⟩:=r;rfl
 |str _=>obtain ⟨t,rfl⟩:=r;rfl
 |byt _=>obtain ⟨t,rfl⟩:=r;rfl
 |flt _=>obtain ⟨t,rfl⟩:=r;rfl
 |ref _=>cases r;rfl
 |ty _=>cases r;rfl
theorem ak.inj {x y:V}{u:Value}(r:ak x u) (q:ak y u):x=y:=Option.some.inj (r.abs.symm.trans q.abs)
theorem ai.inj:∀ {xs ys:List V}{us:List Value},ai xs us->ai ys us->xs=ys
 |_,_,_,.nil,.nil=>rfl
 |_,_,_,.cons r t,.cons r' t'=>by rw [r.inj r',ai.inj t t']
section
variable {X:Cx}{pins:List (Addr×Obj)}{σ:St}{H:Hp}{s:Shared}{a:Addr}{xs ys:List V}
theorem SqL.of {K:PySem.W.Frag}(h:H a=some (.lst xs)):SqL K H a xs:=.inl (.inl h)
theorem SqT.of {K:PySem.W.Frag}(h:H a=some (.tup xs)):SqT K H a xs:=.inl (.inl h)
theorem Inv.list (I:Inv X pins σ H s) (h:SqL X.K H a xs):∃ its:List Value,ai xs its/\PlainL s.heap a its.toArray/\xs.length<=sizeLine:=by
 rcases h with h|⟨o,its,n,hk,hc,hd,hs,hz,r⟩
 ·obtain ⟨z,its,n,r,e⟩:=h.ok I.hok
  exact ⟨its,r,⟨_,n,e,rfl,rfl,rfl⟩,z⟩
 ·refine ⟨its.toList,r,⟨o,n,I.kIn a o hk,hc,hd,by simpa using hs⟩,?_⟩
  have e:=r.length
  simp only [Array.length_toList] at e
  omega
theorem Inv.tuple (I:Inv X pins σ H s) (h:SqT X.K H a xs):∃ its:List Value,ai xs its/\IsTup s.heap a its.toArray/\xs.length<=sizeLine:=by
 rcases h with h|⟨o,its,n,hk,hc,hs,hz,r⟩
 ·obtain ⟨z,its,r,p⟩:=h.ok I.hok
  exact ⟨its,r,p,z⟩
 ·refine ⟨its.toList,r,⟨o,I.kIn a o hk,hc,n,by simpa using hs⟩,?_⟩
  have e:=r.length
  simp only [Array.length_toList] at e
  omega
theorem Inv.list_inj (I:Inv X pins σ H s) (h:SqL X.K H a xs) (h':SqL X.K H a ys):xs=ys:=by
 obtain ⟨its,r,⟨o,n,e,_,_,d⟩,_⟩:=I.list h
 obtain ⟨its',r',⟨o',n',e',_,_,d'⟩,_⟩:=I.list h'
 rw [e] at e';cases e'
 rw [d] at d'
 injection d' with d1 _
 have:its=its':=by simpa using congrArg Array.toList d1
 subst this
 exact r.inj r'
end
abbrev Cx.wish (X:Cx) (E:Value->Shared->Prop):Cx:={ X with xe:=E }
abbrev Cx.nox (X:Cx):Cx:=X.wish λ_ _=>False
theorem Cx.Ok.wish {X:Cx}(ok:X.Ok) (E:Value->Shared->Prop):(X.wish E).Ok :=
 ⟨ok.mod,ok.kind,ok.glob,ok.blt,ok.above,ok.inj,ok.has,ok.cab,ok.hd,ok.frames,ok.stk,ok.exf,ok.bs,ok.bsz,ok.noex,ok.exfs,ok.funs,ok.frf⟩
theorem Cx.Ok.unwish {X:Cx}{E:Value->Shared->Prop}(ok:(X.wish E).Ok):X.Ok :=
 ⟨ok.mod,ok.kind,ok.glob,ok.blt,ok.above,ok.inj,ok.has,ok.cab,ok.hd,ok.frames,ok.stk,ok.exf,ok.bs,ok.bsz,ok.noex,ok.exfs,ok.funs,ok.frf⟩
section
variable {X:Cx}{pins:List (Addr×Obj)}{σ:St}{H:Hp}{s:Shared}{E:Value->Shared->Prop}
theorem Inv.wish (I:Inv X pins σ H s) (E:Value->Shared->Prop):Inv (X.wish E) pins σ H s:=⟨I.ok.wish E,I.os,I.bare,I.base,I.loc,I.cell,I.free,I.freeC,I.pin,I.hok,I.len⟩
theorem Inv.unwish (I:Inv (X.wish E) pins σ H s):Inv X pins σ H s:=⟨I.ok.unwish,I.os,I.bare,I.base,I.loc,I.cell,I.free,I.freeC,I.pin,I.hok,I.len⟩
theorem SP.unwish {D:Ends}{f:Flow}{s':Shared}(h:SP (X.wish E) pins D f s'):SP X pins D f s':=by
 cases f with
 |next=>obtain ⟨σ',H',I,q⟩:=h;exact ⟨σ',H',I.unwish,q⟩
 |brk=>obtain ⟨σ',H',I,q⟩:=h;exact ⟨σ',H',I.unwish,q⟩
 |cont=>obtain ⟨σ',H',I,q⟩:=h;exact ⟨σ',H',I.unwish,q⟩
 |ret u=>obtain ⟨v,σ',H',I,r,q⟩:=h;exact ⟨v,σ',H',I.unwish,r,q⟩
theorem PSs.nox {st:List Stmt}{t:TS}(h:PSs X.nox st t):PSs X st t:=λpins s σ H D I hw =>
 wpAny_mono (h pins s σ H D (I.wish _) hw) (λ_ _ q=>q.unwish) λ_ _ z=>False.elim z
end
section
variable {X:Cx}{st:Stmt}{rest:List Stmt}{t u:TS}{e:Expr}{te:TE}{pos:Pos}
def CO:TS:=λD σ H=>D.nx σ H
def EQ (t u:TS):TS:=λD σ H=>t { D with nx:=u D } σ H
theorem x5:PSs X [] CO:=λ_ _ σ H _ I h=>wpAny_execs_nil ⟨σ,H,I,h⟩
theorem ww (h1:PS X st t) (h2:PSs X rest u):PSs X (st::rest) (EQ t u):=by
 intro pins s σ H D I h
 refine wpAny_execs_cons (thn (h1 pins s σ H { D with nx:=u D } I h) λf s1 q=>?_)
 cases f with
 |next =>
  obtain ⟨σ',H',I',q⟩:=q
  exact h2 pins s1 σ' H' D I' q
 |ret v=>exact q
 |brk=>exact q
 |cont=>exact q
theorem x6 (h1:PS X st t):PSs X [st] t:=by
 intro pins s σ H D I h
 refine wpAny_execs_cons (thn (h1 pins s σ H D I h) λf s1 q=>?_)
 cases f with
 |next=>exact wpAny_execs_nil q
 |ret v=>exact q
 |brk=>exact q
 |cont=>exact q
theorem Inv.quiet {pins:List (Addr×Obj)}{σ:St}{H:Hp}{s:Shared}(I:Inv X pins σ H s):interactive X.env=false:=by simp [interactive,I.ok.kind]
def CP (te:TE):TS:=λD σ H=>te σ H λ_ H1=>D.nx σ H1
theorem x8 (he:PE X e te) (hs:swapsWith e none pos.line X.env=pure false:=by rfl):PS X (.Expr e pos) (CP te):=by
 intro pins s σ H D I h
 exact wpAny_Expr_any (thn (he pins s σ H _ I h) λv s1 zz7=>by obtain ⟨x,H1,I1,r1,q1⟩:=zz7;exact ⟨σ,H1,I1,q1⟩) I.quiet hs
def ER (te:TE):TS:=λD σ H=>te σ H D.rt
theorem Ar (he:PE X e te):PS X (.Return (some e) pos) (ER te):=by
 intro pins s σ H D I h
 exact wpAny_Return_some (thn (he pins s σ H _ I h) λv s1 zz8=>by obtain ⟨x,H1,I1,r1,q1⟩:=zz8;exact ⟨x,σ,H1,I1,r1,q1⟩)
def ES (c:TT) (t u:TS):TS:=λD σ H=>c σ H λb H1=>if b=true then t D σ H1 else u D σ H1
theorem CQ {c:Expr}{a b:List Stmt}{tc:TT}(hc:PT X c tc) (ha:PSs X a t) (hb:PSs X b u):PS X (.If c a b pos) (ES tc t u):=by
 intro pins s σ H D I h
 refine wpAny_If (thn (hc pins s σ H _ I h) λd s1 zz9=>?_)
 obtain ⟨H1,I1,q1⟩:=zz9
 cases d with
 |true=>exact ha pins s1 σ H1 D I1 q1
 |false=>exact hb pins s1 σ H1 D I1 q1
end
abbrev TG:=V->St->Hp->(St->Hp->Prop)->Prop
abbrev TGs:=List V->St->Hp->(St->Hp->Prop)->Prop
def PG (X:Cx) (target:Expr) (t:TG):Prop :=
 ∀ (pins:List (Addr×Obj)) (s:Shared) (σ:St) (H:Hp) (v:V) (u:Value) (Q:St->Hp->Prop),Inv X pins σ H s->ak v u->t v σ H Q ->
  wpAny (model X.prog X.w) X.A (assign target X.env u) (λ_ s'=>∃ σ' H',Inv X pins σ' H' s'/\Q σ' H') X.xe s
def PGs (X:Cx) (ts:List Expr) (t:TGs):Prop :=
 ∀ (pins:List (Addr×Obj)) (s:Shared) (σ:St) (H:Hp) (vs:List V) (us:List Value) (Q:St->Hp->Prop),Inv X pins σ H s->ai vs us->t vs σ H Q ->
  wpAny (model X.prog X.w) X.A (assignInOrder ((assignEach ts X.env).map (·.2)) us) (λ_ s'=>∃ σ' H',Inv X pins σ' H' s'/\Q σ' H') X.xe s
abbrev js:=V->V->V->Hp->(Hp->Prop)->Prop
def dU (X:Cx) (t:js):Prop :=
 ∀ (pins:List (Addr×Obj)) (s:Shared) (σ:St) (H:Hp) (o i v:V) (ov iv u:Value) (Q:Hp->Prop),Inv X pins σ H s->ak o ov->ak i iv->ak v u->t o i v H Q ->
  wpAny (model X.prog X.w) X.A (setItem ov iv u) (λ_ s'=>∃ H',Inv X pins σ H' s'/\Q H') X.xe s
section
variable {X:Cx}{pos:Pos}
def i7 (i:Nat):TG:=λv σ H Q=>Q (σ.set i (some v)) H
theorem x9 {i:Nat}{x:Str}(hN:X.N.Nodup) (hi:X.N[i]?=some x) (hx:Loc X.env.scope x) (hf:X.fn x=true\/X.env.scope.names.lookup x=some .local:=by first|exact .inl rfl|exact .inr rfl|assumption):PG X (.Name x pos) (i7 i):=by
 intro pins s σ H v u Q I r h
 exact wpAny_assign_Name (fR I hN hi hx r (λs' I'=>⟨_,H,I',h⟩) hf)
def ET:TGs:=λvs σ H Q=>vs=[]/\Q σ H
def rL (t:TG) (u:TGs):TGs:=λvs σ H Q=>∃ v r,vs=v::r/\t v σ H λσ' H'=>u r σ' H' Q
theorem ya:PGs X [] ET:=by
 intro pins s σ H vs us Q I r h
 obtain ⟨e,h⟩:=h
 subst e
 cases r
 exact assignInOrder_nil ⟨σ,H,I,h⟩
theorem iA {e:Expr}{es:List Expr}{t:TG}{u:TGs}(h1:PG X e t) (h2:PGs X es u)
  (hs:(assignEach (e::es) X.env).map (·.2)=assign e X.env::(assignEach es X.env).map (·.2):=by rfl):PGs X (e::es) (rL t u):=by
 intro pins s σ H vs us Q I r h
 obtain ⟨v,vr,e1,h⟩:=h
 subst e1
 cases r with
 |cons r rr =>
  rw [hs]
  refine assignInOrder_cons (thn (h1 pins s σ H _ _ _ I r h) λ_ s1 zz10=>?_)
  obtain ⟨σ1,H1,I1,q1⟩:=zz10
  exact h2 pins s1 σ1 H1 _ _ Q I1 rr q1
def mh (K:PySem.W.Frag) (n:Nat) (t:TGs):TG:=λv σ H Q=>∃ a xs,v=.ref a/\SqT K H a xs/\xs.length=n/\t xs σ H Q
theorem Au {es:List Expr}{k:Nat}{t:TGs}{n:Nat}(hc:X.calm=true) (h:PGs X es t)
  (hn:(assignEach es X.env).length=n:=by rfl) (hst:(assignEach es X.env).findIdx? (·.1)=none:=by rfl):PG X (.Tuple es k pos) (mh X.K n t):=by
 intro pins s σ H v u Q I r hw
 obtain ⟨a,xs,e1,hq,hl,hw⟩:=hw
 subst e1
 cases r
 obtain ⟨its,rv,ht,hz⟩:=I.tuple hq
 refine assign_Tuple_tuple (I.ok.hd hc) ht (by simp [hn,<- hl,rv.length]) hst λh' hx=>?_
 have I1:Inv X pins σ H { s with heap:=h' }:=I.kept (t':=s.toks) λb o e=>hx b o (Nat.ne_of_lt (Heap.lt_size e)) e
 exact h pins _ σ H xs _ Q I1 (by simpa using rv) hw
def fL (to ti:TE) (t:js):TG:=λv σ H Q=>to σ H λo H1=>ti σ H1 λi H2=>t o i v H2 λH3=>Q σ H3
theorem dG {o i:Expr}{to ti:TE}{t:js}(ho:PE X o to) (hi:PE X i ti) (hs:dU X t)
  (ha:∀ v,assign (.Subscript o i pos) X.env v=(do
   let ov <- holding [v] (eval o X.env)
   let iv <- holding [v,ov] (eval i X.env)
   standAt pos
   holding [v,ov,iv] (setItem ov iv v)
   release [v,ov,iv] []):=by intro _;rfl):PG X (.Subscript o i pos) (fL to ti t):=by
 intro pins s σ H v u Q I r h
 rw [ha]
 refine wpAny_bind (wpAny_holding (thn (ho pins s σ H _ I h) λov s1 zz11=>?_))
 obtain ⟨x,H1,I1,r1,q1⟩:=zz11
 refine wpAny_bind (wpAny_holding (thn (hi pins s1 σ H1 _ I1 q1) λiv s2 zz12=>?_))
 obtain ⟨y,H2,I2,r2,q2⟩:=zz12
 refine wpAny_bind (wpAny_standAt (wpAny_bind (wpAny_holding (thn (hs pins s2 σ H2 x y v ov iv u _ I2 r1 r2 r q2) λ_ s3 zz13=>?_))))
 obtain ⟨H3,I3,q3⟩:=zz13
 exact wpAny_release ⟨σ,H3,I3,q3⟩
def gP (te:TE) (g:TG):TS:=λD σ H=>te σ H λx H1=>g x σ H1 D.nx
theorem dH {tg e:Expr}{te:TE}{g:TG}(he:PE X e te) (hg:PG X tg g) (hs:swapsWithSole [tg] e pos.line X.env=pure false:=by rfl) (hw:swappedStores [tg] e X.env=pure none:=by rfl)
  (h1:(assignEach [tg] X.env).map (·.2)=[assign tg X.env]:=by rfl):PS X (.Assign [tg] e pos) (gP te g):=by
 intro pins s σ H D I h
 refine wpAny_Assign_stores (thn (he pins s σ H _ I h) λv s1 ⟨x,H1,I1,r1,q1⟩=>?_) hs hw
 rw [h1]
 exact thn (hg pins s1 σ H1 x v _ I1 r1 q1) λ_ s2 q=>q
theorem Av {i:Nat}{x:Str}{e:Expr}{te:TE}{pos':Pos}(hN:X.N.Nodup) (hi:X.N[i]?=some x) (hx:Loc X.env.scope x) (he:PE X e te) (hs:swapsWith e (some (.Name x pos')) pos.line X.env=pure false:=by rfl) (hf:X.fn x=true\/X.env.scope.names.lookup x=some .local:=by first|exact .inl rfl|exact .inr rfl|assumption) :
  PS X (.Assign [.Name x pos'] e pos) (gP te (i7 i)):=by
 intro pins s σ H D I h
 refine wpAny_Assign_Name (thn (he pins s σ H _ I h) λv s1 ⟨y,H1,I1,r1,q1⟩=>?_) hs
 exact fR I1 hN hi hx r1 (λs2 I2=>⟨_,H1,I2,q1⟩) hf
end
section
variable {X:Cx}{pos:Pos}
end
structure It where
 go:Nat->Hp->Prop
 yld:Nat->Hp->V->Hp->Prop
 stop:Nat->Hp->Prop
def bH (X:Cx) (pins:List (Addr×Obj)) (H:Hp) (b:Addr):Prop :=
 H b=none/\b≠X.env.locals/\b∉X.fs/\(b∈X.ex\/X.s₀.heap.objs.size<=b)/\(∀ x c,X.env.cells.lookup x=some c->c≠b)/\∀ p∈X.pn++pins,p.1≠b
theorem Inv.fpOk {X:Cx}{pins:List (Addr×Obj)}{σ:St}{H H':Hp}{s:Shared}{b:Addr}(I:Inv X pins σ H s) (hb:s.heap.objs.size<=b) (hn:H' b=none):bH X pins H' b:=by
 refine ⟨hn,Nat.ne_of_gt (Nat.lt_of_lt_of_le I.lt hb),I.nofs hb,.inr (Nat.le_trans I.sz hb),λx c e z=>?_,λp hp z=>?_⟩
 ·obtain ⟨v,q⟩:=I.cell x c e
  exact absurd (Nat.lt_of_lt_of_le q.lt (by rw [z];exact hb)) (Nat.lt_irrefl _)
 ·exact absurd (Nat.lt_of_lt_of_le (Heap.lt_size (I.pin p hp).1) (by rw [z];exact hb)) (Nat.lt_irrefl _)
structure Turn (P:Program) (w:World) (K:PySem.W.Frag) (tg:Expr) (J:It) (fp:List Addr) (it:Addr) (tn:Nat->Heap->Prop):Prop where
 mem:it∈fp
 obj:∀ i h,tn i h->∀ b∈fp,∃ o,h.get? b=some o/\∀ v,o.data≠.cell v
 keep:∀ i h h',tn i h->(∀ b∈fp,∀ o,h.get? b=some o->h'.get? b=some o)->tn i h'
 item:∀ (X:Cx),X.prog=P->X.w=w->X.K=K->X.calm=true->∀ (i:Nat) (pins:List (Addr×Obj)) (s:Shared) (σ:St) (H:Hp) (E:Value->Shared->Prop),Inv X pins σ H s->(∀ b∈fp,bH X pins H b)->tn i s.heap->J.go i H ->
  wpAny (model P w) X.A (pyNext (.ref it)) (λr s1=>∃ u,r=some u /\
   wpAny (model P w) X.A (letOwnedTupleGo tg (.ref it) u) (λ_ s2=>∃ x H',Inv X pins σ H' s2/\ak x u/\J.yld i H x H'/\tn (i+1) s2.heap/\∀ b∈fp,H' b=none) E s1) E s
 done:∀ (X:Cx),X.prog=P->X.w=w->X.K=K->X.calm=true->∀ (i:Nat) (pins:List (Addr×Obj)) (s:Shared) (σ:St) (H:Hp) (E:Value->Shared->Prop),Inv X pins σ H s->(∀ b∈fp,bH X pins H b)->tn i s.heap->J.stop i H ->
  wpAny (model P w) X.A (pyNext (.ref it)) (λr s1=>r=none/\Inv X pins σ H s1) E s
 self:∀ (A:Around) (i:Nat) (s:Shared) (Q:Value->Shared->Prop) (E:Value->Shared->Prop),tn i s.heap->Q (.ref it) s->wpAny (model P w) A (pyIter (.ref it)) Q E s
abbrev TI:=St->Hp->(It->Hp->Prop)->Prop
def PIE (X:Cx) (pins:List (Addr×Obj)) (σ:St) (tg:Expr) (R:It->Hp->Prop) (itv:Value) (s2:Shared):Prop :=
 ∃ (it:Addr) (fp:List Addr) (tn:Nat->Heap->Prop) (J:It) (H':Hp),itv=.ref it/\Inv X pins σ H' s2/\Turn X.prog X.w X.K tg J fp it tn/\tn 0 s2.heap/\(∀ b∈fp,bH X pins H' b)/\R J H'
def PI (X:Cx) (tg iter:Expr) (wi:TI):Prop :=
 ∀ (pins:List (Addr×Obj)) (s:Shared) (σ:St) (H:Hp) (R:It->Hp->Prop),Inv X pins σ H s->wi σ H R ->
  wpAny (model X.prog X.w) X.A (eval iter X.env) (λv s1=>wpAny (model X.prog X.w) X.A (pyIter v) (PIE X pins σ tg R) X.xe s1) X.xe s
theorem lq {M:Model}{A:Around}{E:Value->Shared->Prop}{s:Shared}{tg:Expr}{it:Addr}{u:Value}{o:Obj}{n:String}{vs:Array Value}{Q:Unit->Shared->Prop}(ho:s.heap.get? it=some o) (hc:o.cls=.type n) (hd:o.data=.fields vs)
  (hn:["enumerate","zip","dict_itemiterator","dict_reverseitemiterator","odict_iterator","itertools.zip_longest","itertools.pairwise"].contains n=false) (hQ:Q () s):wpAny M A (letOwnedTupleGo tg (.ref it) u) Q E s:=by
 unfold letOwnedTupleGo
 cases tg<;>first
  |exact wpAny_pure hQ
  |(cases u<;>first
    |exact wpAny_pure hQ
    |(refine wpAny_bind (wpAny_load ho ?_)
      rw [hc,hd]
      show wpAny M A (if (["enumerate","zip","dict_itemiterator","dict_reverseitemiterator","odict_iterator","itertools.zip_longest","itertools.pairwise"].contains n&&vs[0]?==some (rawInt _))=true then _ else _) Q E s
      rw [if_neg (by intro h;rw [hn,Bool.false_and] at h;cases h)]
      exact wpAny_pure hQ))
def Itl (K:PySem.W.Frag) (a:Addr):It :=
 ⟨λi H=>∃ xs x,SqL K H a xs/\xs[i]?=some x,λi H x H'=>H'=H/\∀ xs,SqL K H a xs->xs[i]?=some x,λi H=>∃ xs,SqL K H a xs/\xs.length<=i⟩
def Itr (lo:Int) (n:Nat):It:=⟨λi _=>i<n,λi H x H'=>H'=H/\x=.int (lo+i),λi _=>n<=i⟩
theorem vc {P:Program}{w:World}{K:PySem.W.Frag}{tg:Expr}(a it:Addr):Turn P w K tg (Itl K a) [it] it (λi h=>h.IsListIter it a i) where
 mem:=by simp
 obj:=λi h st b hb=>by
  have e:b=it:=by simpa using hb
  subst e
  obtain ⟨o,e,c,d⟩:=st
  exact ⟨o,e,λv z=>by rw [d] at z;cases z⟩
 keep:=λi h h' st k=>st.at λo e=>k it (by simp) o e
 item:=by
  intro X hP hw hK hc i pins s σ H E I hf st hg
  subst hP hw hK
  obtain ⟨xs,x,hq,hx⟩:=hg
  obtain ⟨its,rv,p,hz⟩:=I.list hq
  obtain ⟨u,hu,ru⟩:=rv.get hx
  obtain ⟨f0,f1,f2,f3,f4,f5⟩:=hf it (by simp)
  refine wpAny_pyNext_list_item st p.isList (x:=u) (by simpa using hu) λh' st' sb=>?_
  have I1:Inv X pins σ H { s with heap:=h' }:=I.turned (t':=s.toks) (λb o hb e=>(sb.2 b hb).trans e) f0 f1 f3 f4 f5
  obtain ⟨o,e,c,d⟩:=id st'
  exact ⟨u,rfl,lq (s:={ s with heap:=h' }) e c d (by decide) ⟨x,H,I1,ru,⟨rfl,λys hy=>by rw [I.list_inj hy hq];exact hx⟩,st',λb hb=>(hf b hb).1⟩⟩
 done:=by
  intro X hP hw hK hc i pins s σ H E I hf st hg
  subst hP hw hK
  obtain ⟨xs,hq,hx⟩:=hg
  obtain ⟨its,rv,p,hz⟩:=I.list hq
  obtain ⟨f0,f1,f2,f3,f4,f5⟩:=hf it (by simp)
  have hl:=rv.length
  exact wpAny_pyNext_list_end (I.ok.hd hc) st p.isList (by simp;omega) λh' eb=>⟨rfl,I.turned (t':=s.toks) (λb o hb e=>eb b o hb e) f0 f1 f3 f4 f5⟩
 self:=λ_ _ _ _ _ st h=>wpAny_pyIter_listiter st h
theorem uL {P:Program}{w:World}{K:PySem.W.Frag}{tg:Expr}(it:Addr) (lo:Int) (n:Nat):Turn P w K tg (Itr lo n) [it] it (λi h=>IsRangeIter h it (lo+(i:Nat) * 1) ((n:Int) - (i:Nat)) 1) where
 mem:=by simp
 obj:=λi h st b hb=>by
  have e:b=it:=by simpa using hb
  subst e
  exact ⟨_,st,λv z=>by
   have z':Data.fields _=Data.cell v:=z
   cases z'⟩
 keep:=λi h h' st k=>k it (by simp) _ st
 item:=by
  intro X hP hw hK hc i pins s σ H E I hf st hg
  subst hP hw hK
  obtain ⟨f0,f1,f2,f3,f4,f5⟩:=hf it (by simp)
  have W:=Walks.range (prog:=X.prog) (w:=X.w) (I.ok.hd hc) it lo 1 n
  refine W.item i s _ _ hg st λv h' tk hv st' kk=>?_
  obtain ⟨t,rfl⟩:=hv
  have I1:Inv X pins σ H { s with heap:=h',toks:=tk }:=I.turned (λb o hb e=>kk b o (by simpa using hb) e) f0 f1 f3 f4 f5
  refine ⟨_,rfl,lq (s:={ s with heap:=h',toks:=tk }) (n:="range_iterator") st' rfl rfl (by decide) ⟨.int (lo+i),H,I1,⟨t,?_⟩,⟨rfl,rfl⟩,st',λb hb=>(hf b hb).1⟩⟩
  rw [Int.mul_one]
 done:=by
  intro X hP hw hK hc i pins s σ H E I hf st hg
  subst hP hw hK
  obtain ⟨f0,f1,f2,f3,f4,f5⟩:=hf it (by simp)
  exact wpAny_pyNext_range_end (I.ok.hd hc) st (by have:n<=i:=hg;omega) λh' eb=>⟨rfl,I.turned (t':=s.toks) (λb o hb e=>eb b o hb e) f0 f1 f3 f4 f5⟩
 self:=λ_ _ _ _ _ st h=>wpAny_pyIter_rangeiter st h
section
variable {X:Cx}{tg:Expr}
def CS (K:PySem.W.Frag) (tl:TE):TI:=λσ H R=>tl σ H λx H1=>∃ a,x=.ref a/\(∃ xs,SqL K H1 a xs)/\R (Itl K a) H1
theorem yb {l:Expr}{tl:TE}(hl:PE X l tl):PI X tg l (CS X.K tl):=by
 intro pins s σ H R I h
 refine thn (hl pins s σ H _ I h) λv s1 zz14=>?_
 obtain ⟨x,H1,I1,r1,q1⟩:=zz14
 obtain ⟨a,e,⟨xs,hq⟩,q⟩:=q1
 subst e
 cases r1
 obtain ⟨its,rv,p,hz⟩:=I1.list hq
 refine wpAny_pyIter_list p.isList ?_
 refine ⟨s1.heap.objs.size,[s1.heap.objs.size],_,_,H1,rfl,I1.kept (t':=s1.toks) λb o e=>Heap.get?_push_of_some _ e,vc a _,⟨_,Heap.get?_push_size _ rfl,rfl,rfl⟩,λb hb=>?_,q⟩
 have e:b=s1.heap.objs.size:=by simpa using hb
 subst e
 exact I1.fpOk (Nat.le_refl _) (I1.hok.fresh (Nat.le_refl _))
theorem wx {pins:List (Addr×Obj)}{σ:St}{H:Hp}{s:Shared}{R:It->Hp->Prop}{E:Value->Shared->Prop}{lo hi:Int}{t u v:Tok}{tk:Nat}(I:Inv X pins σ H s) (h1:-(2 ^ 62)<=lo) (h2:lo<2 ^ 62) (h3:-(2 ^ 62)<=hi) (h4:hi<2 ^ 62)
  (q:R (Itr lo (hi - lo).toNat) H):wpAny (model X.prog X.w) X.A (pyIter (.ref s.heap.objs.size)) (PIE X pins σ tg R) E { s with heap:=s.heap.push { cls:=.type "range",data:=.fields #[.int lo t,.int hi u,.int 1 v] },toks:=tk }:=by
 refine wpAny_pyIter_range (IsRange.new ..) (small_one h1 h2 h3 h4) ?_
 have I1:Inv X pins σ H { s with heap:=s.heap.push { cls:=.type "range",data:=.fields #[.int lo t,.int hi u,.int 1 v] },toks:=tk }:=I.kept λb o e=>Heap.get?_push_of_some _ e
 refine ⟨(s.heap.push { cls:=.type "range",data:=.fields #[.int lo t,.int hi u,.int 1 v] }).objs.size,[(s.heap.push { cls:=.type "range",data:=.fields #[.int lo t,.int hi u,.int 1 v] }).objs.size],_,_,H,rfl,
  I1.kept (t':=tk) λb o e=>Heap.get?_push_of_some _ e,uL _ lo (hi - lo).toNat,?_,λb hb=>?_,q⟩
 ·have e1:lo+((0:Nat):Int) * 1=lo:=by simp
  have e2:(((hi - lo).toNat:Nat):Int) - ((0:Nat):Int)=Builtin.Range.rangeSize lo hi 1:=by rw [rangeSize_one];split<;>omega
  show IsRangeIter _ _ (lo+((0:Nat):Int) * 1) ((((hi - lo).toNat:Nat):Int) - ((0:Nat):Int)) 1
  rw [e1,e2]
  exact Heap.get?_push_size _ rfl
 ·have e:b=(s.heap.push { cls:=.type "range",data:=.fields #[.int lo t,.int hi u,.int 1 v] }).objs.size:=by simpa using hb
  subst e
  exact I1.fpOk (Nat.le_refl _) (I1.hok.fresh (Nat.le_refl _))
def CT (ta:TA):TI:=λσ H R=>ta σ H λvs H1=>∃ j:Int,vs=[.int j] /\ -(2 ^ 62)<=j/\j<2 ^ 62/\R (Itr 0 j.toNat) H1
theorem vd {a:Expr}{ta:TA}{p pos:Pos}(hg:Gl X "range") (hm:X.mg "range"=none) (ha:PA X [a] ta) (hs:starEach [a] X.env=[(false,eval a X.env)]:=by rfl):PI X tg (.Call (.Name "range" p) [a] [] pos) (CT ta):=by
 intro pins s σ H R I h
 refine Call_ (gc I hg hm boot_range (PyProof.Rows.callWith_type1 (thn (ha pos pins s σ H _ I h) λus s1 ⟨vs,H1,I1,r1,q1⟩=>?_) hs rfl))
 obtain ⟨j,e,q1,q2,q⟩:=q1
 subst e
 cases r1 with
 |cons r rr =>
  cases rr
  obtain ⟨t,rfl⟩:=r
  exact call_range_1 (wx I1 (by omega) (by omega) q1 q2 (by simpa using q))
def sW (wi:TI) (g:TG) (tb:TS):TS:=λD σ H=>wi σ H λJ H1=>∃ W:Nat->Nat->St->Hp->Prop,(∃ m,W 0 m σ H1)/\∀ i m σ H,W i m σ H ->
 (J.stop i H/\D.nx σ H)\/(J.go i H/\∃ N:St->Hp->Prop,(∀ σ' H',N σ' H'->∃ m',m'<m/\W (i+1) m' σ' H')/\∀ x H',J.yld i H x H'->g x σ H' λσ2 H2=>tb { D with nx:=N,ct:=N,bk:=D.nx } σ2 H2)
def gi (fp:List Addr) (h:Heap):List (Addr×Obj):=fp.filterMap λb=>(h.get? b).map λo=>(b,o)
theorem iw {fp:List Addr}{h:Heap}{b:Addr}{o:Obj}(hb:b∈fp) (e:h.get? b=some o):(b,o)∈gi fp h:=List.mem_filterMap.mpr ⟨b,hb,by rw [e];rfl⟩
theorem ve {fp:List Addr}{h:Heap}{p:Addr×Obj}(hp:p∈gi fp h):p.1∈fp/\h.get? p.1=some p.2:=by
 obtain ⟨b,hb,e⟩:=List.mem_filterMap.mp hp
 cases q:h.get? b with
 |none=>rw [q] at e;cases e
 |some o =>
  rw [q] at e
  have e':(b,o)=p:=Option.some.inj e
  subst e'
  exact ⟨hb,q⟩
theorem Inv.pinned {pins:List (Addr×Obj)}{σ:St}{H:Hp}{s:Shared}{fp:List Addr}(I:Inv X pins σ H s) (hf:∀ b∈fp,bH X pins H b) (ho:∀ b∈fp,∃ o,s.heap.get? b=some o/\∀ v,o.data≠.cell v):Inv X (pins++gi fp s.heap) σ H s :=
 I.pins_of λp hp=>(List.mem_append.mp hp).elim (λz=>I.pin p (List.mem_append_right _ z)) λz=>by
  obtain ⟨hb,e⟩:=ve z
  obtain ⟨f0,f1,f2,_⟩:=hf p.1 hb
  obtain ⟨o,e',d⟩:=ho p.1 hb
  rw [e] at e';cases e'
  exact ⟨e,f0,f1,f2,d⟩
theorem Inv.unpinned {pins pl:List (Addr×Obj)}{σ:St}{H:Hp}{s:Shared}(I:Inv X (pins++pl) σ H s):Inv X pins σ H s:=I.pins_of λp hp=>I.pin p (List.mem_append_right _ (List.mem_append_left _ hp))
theorem Aw {iter:Expr}{body:List Stmt}{wi:TI}{g:TG}{tb:TS}{pos:Pos}(hp:PassesOwn (model X.prog X.w) X.A X.env X.xe) (hc:X.calm=true) (hi:PI X tg iter wi) (hg:PG X tg g) (hb:PSs X body tb)
  (hs:∀ x,foldedSetIterable iter X.env x=pure x:=by intro _;rfl):PS X (.For tg iter body [] pos) (sW wi g tb):=by
 intro pins s σ H D I h
 refine wpAny_For (thn (hi pins s σ H _ I h) λv s1 h1=>thn h1 λitv s2 h2=>?_) hs
 obtain ⟨it,fp,tn,J,H2,e,I2,T,st2,f2,W,⟨m0,w0⟩,turn⟩:=h2
 subst e
 -- what stays true of the iterator's objects through the loop
 have stat:∀ {H':Hp},(∀ b∈fp,H' b=none)->∀ b∈fp,bH X pins H' b:=λhn b hb=>⟨hn b hb,(f2 b hb).2⟩
 refine codeAny_forLoop_any (λn s'=>∃ i σ' H',Inv X pins σ' H' s'/\tn i s'.heap/\(∀ b∈fp,H' b=none)/\W i n σ' H') ?_ m0 ⟨0,σ,H2,I2,st2,λb hb=>(f2 b hb).1,w0⟩
 rintro n s3 ⟨i,σ3,H3,I3,st3,fr3,w3⟩
 rcases turn i n σ3 H3 w3 with ⟨stop,qn⟩|⟨go,N,hN,step⟩
 ·refine wpAny_passesOwn hp (thn (T.done X rfl rfl rfl hc i pins s3 σ3 H3 X.xe I3 (stat fr3) st3 stop) λr s4 ⟨hr,I4⟩=>?_)
  subst hr
  exact wpAny_execs_nil ⟨σ3,H3,I4,qn⟩
 ·refine wpAny_passesOwn hp (thn (T.item X rfl rfl rfl hc i pins s3 σ3 H3 X.xe I3 (stat fr3) st3 go) λr s4 ⟨u,hr,h4⟩=>?_)
  subst hr
  refine wpAny_passesOwn hp (thn h4 λ_ s5 zz15=>?_)
  obtain ⟨x,H5,I5,r5,y5,st5,fr5⟩:=zz15
  have I5':=I5.pinned (stat fr5) (T.obj _ _ st5)
  refine wpAny_passesOwn hp (thn (hg _ s5 σ3 H5 x u _ I5' r5 (step x H5 y5)) λ_ s6 zz16=>?_)
  obtain ⟨σ6,H6,I6,q6⟩:=zz16
  refine wpAny_passesOwn hp (thn (hb _ s6 σ6 H6 _ I6 q6) λf s7 q7=>?_)
  have again:∀ {σ7:St}{H7:Hp},Inv X (pins++gi fp s5.heap) σ7 H7 s7->N σ7 H7->∃ m,m<n/\∃ i σ' H',Inv X pins σ' H' s7/\tn i s7.heap/\(∀ b∈fp,H' b=none)/\W i m σ' H':=fun {σ7 H7} I7 n7=>by
   obtain ⟨m',hm,w7⟩:=hN σ7 H7 n7
   refine ⟨m',hm,i+1,σ7,H7,I7.unpinned,T.keep _ _ _ st5 λb hb o e=>(I7.pin (b,o) (List.mem_append_right _ (List.mem_append_right _ (iw hb e)))).1,λb hb=>?_,w7⟩
   obtain ⟨o,e,d⟩:=T.obj _ _ st5 b hb
   exact (I7.pin (b,o) (List.mem_append_right _ (List.mem_append_right _ (iw hb e)))).2.1
  cases f with
  |next=>obtain ⟨σ7,H7,I7,n7⟩:=q7;exact again I7 n7
  |cont=>obtain ⟨σ7,H7,I7,n7⟩:=q7;exact again I7 n7
  |brk=>obtain ⟨σ7,H7,I7,q7⟩:=q7;exact ⟨σ7,H7,I7.unpinned,q7⟩
  |ret v=>obtain ⟨x7,σ7,H7,I7,r7,q7⟩:=q7;exact ⟨x7,σ7,H7,I7.unpinned,r7,q7⟩
end
abbrev R2:=V->V->Hp->VK->Prop
def OpR (X:Cx) (f:Value->Value->Sem Value) (r:R2):Prop :=
 ∀ (pins:List (Addr×Obj)) (s:Shared) (σ:St) (H:Hp) (x y:V) (v u:Value) (Q:VK),Inv X pins σ H s->ak x v->ak y u->r x y H Q ->
  wpAny (model X.prog X.w) X.A (f v u) (EP X pins σ Q) X.xe s
def UnR (X:Cx) (f:Value->Sem Value) (r:V->Hp->VK->Prop):Prop :=
 ∀ (pins:List (Addr×Obj)) (s:Shared) (σ:St) (H:Hp) (x:V) (v:Value) (Q:VK),Inv X pins σ H s->ak x v->r x H Q ->
  wpAny (model X.prog X.w) X.A (f v) (EP X pins σ Q) X.xe s
def bu (X:Cx) (f:Value) (r:List V->Hp->VK->Prop):Prop :=
 ∀ (pins:List (Addr×Obj)) (s:Shared) (σ:St) (H:Hp) (xs:List V) (us:List Value) (Q:VK),Inv X pins σ H s->ai xs us->r xs H Q ->
  wpAny (model X.prog X.w) X.A (call f us) (EP X pins σ Q) X.xe s
def EU (X:Cx) (r:V->Hp->(Bool->Hp->Prop)->Prop):Prop :=
 ∀ (pins:List (Addr×Obj)) (s:Shared) (σ:St) (H:Hp) (x:V) (v:Value) (Q:Bool->Hp->Prop),Inv X pins σ H s->ak x v->r x H Q ->
  wpAny (model X.prog X.w) X.A (truthy v) (TP X pins σ Q) X.xe s
def tOp (r:R2) (ta tb:TE):TE:=λσ H Q=>ta σ H λx H1=>tb σ H1 λy H2=>r x y H2 Q
def tUn (r:V->Hp->VK->Prop) (ta:TE):TE:=λσ H Q=>ta σ H λx H1=>r x H1 Q
def rI (C:Int->Int->Prop) (g:Int->Int->V):R2:=λx y H Q=>∃ i j,x=.int i/\y=.int j/\C i j/\Q (g i j) H
def rI0 (g:Int->Int->V):R2:=λx y H Q=>∃ i j,x=.int i/\y=.int j/\Q (g i j) H
def rU (g:Int->V):V->Hp->VK->Prop:=λx H Q=>∃ i,x=.int i/\Q (g i) H
section
variable {X:Cx}{a b c:Expr}{ta tb tc:TE}{pos:Pos}
theorem mi (ha:PE X a ta) (hb:PE X b tb){pins:List (Addr×Obj)}{s:Shared}{σ:St}{H:Hp}{R:V->V->Hp->Prop}(I:Inv X pins σ H s)
  (h:ta σ H λx H1=>tb σ H1 λy H2=>R x y H2){Q:Value->Shared->Prop}{f:Value->Value->Sem Value}
  (hf:∀ v u s2 x y H2,Inv X pins σ H2 s2->ak x v->ak y u->R x y H2->wpAny (model X.prog X.w) X.A (f v u) Q X.xe s2) :
  wpAny (model X.prog X.w) X.A (eval a X.env) (λv s₁=>wpAny (model X.prog X.w) X.A (eval b X.env) (λu s₂=>wpAny (model X.prog X.w) X.A (f v u) Q X.xe s₂) X.xe s₁) X.xe s:=by
 refine thn (ha pins s σ H _ I h) λv s1 zz17=>?_
 obtain ⟨x,H1,I1,r1,q1⟩:=zz17
 refine thn (hb pins s1 σ H1 _ I1 q1) λu s2 zz18=>?_
 obtain ⟨y,H2,I2,r2,q2⟩:=zz18
 exact hf v u s2 x y H2 I2 r1 r2 q2
theorem CU {op:Operator}{r:R2}(ho:OpR X (binaryOp op) r) (ha:PE X a ta) (hb:PE X b tb):PE X (.BinOp a op b pos) (tOp r ta tb):=by
 intro pins s σ H Q I h
 exact wpAny_BinOp (mi ha hb I h λv u s2 x y H2 I2 rx ry q=>ho pins s2 σ H2 x y v u Q I2 rx ry q)
theorem CV {op:UnaryOp}{r:V->Hp->VK->Prop}(ho:UnR X (unaryOp op) r) (ha:PE X a ta):PE X (.UnaryOp op a pos) (tUn r ta):=by
 intro pins s σ H Q I h
 exact UnaryOp_ (thn (ha pins s σ H _ I h) λv s1 zz19=>by obtain ⟨x,H1,I1,r1,q1⟩:=zz19;exact ho pins s1 σ H1 x v Q I1 r1 q1)
theorem opI {f:Value->Value->Sem Value}{C:Int->Int->Prop}{g:Int->Int->Int}
  (rule:∀ (i j:Int) (t u:Tok) (s:Shared) (Q:Value->Shared->Prop) (E:Value->Shared->Prop),C i j->Q (.int (g i j) s.toks) { s with toks:=s.toks+1 }->wpAny (model X.prog X.w) X.A (f (.int i t) (.int j u)) Q E s) :
  OpR X f (rI C λi j=>.int (g i j)):=by
 intro pins s σ H x y v u Q I rx ry h
 obtain ⟨i,j,rfl,rfl,hc,q⟩:=h
 obtain ⟨t,rfl⟩:=rx
 obtain ⟨t',rfl⟩:=ry
 exact rule i j t t' s _ _ hc ⟨.int (g i j),H,I.tok _,⟨_,rfl⟩,q⟩
theorem sX {f:Value->Value->Sem Value}{g:Int->Int->Int}
  (rule:∀ (i j:Int) (t u:Tok) (s:Shared) (Q:Value->Shared->Prop) (E:Value->Shared->Prop),Q (.int (g i j) s.toks) { s with toks:=s.toks+1 }->wpAny (model X.prog X.w) X.A (f (.int i t) (.int j u)) Q E s) :
  OpR X f (rI0 λi j=>.int (g i j)):=by
 intro pins s σ H x y v u Q I rx ry h
 obtain ⟨i,j,rfl,rfl,q⟩:=h
 obtain ⟨t,rfl⟩:=rx
 obtain ⟨t',rfl⟩:=ry
 exact rule i j t t' s _ _ ⟨.int (g i j),H,I.tok _,⟨_,rfl⟩,q⟩
theorem mj {f:Value->Value->Sem Value}{g:Int->Int->Bool}
  (rule:∀ (i j:Int) (t u:Tok) (s:Shared) (Q:Value->Shared->Prop) (E:Value->Shared->Prop),Q (.bool (g i j)) s->wpAny (model X.prog X.w) X.A (f (.int i t) (.int j u)) Q E s) :
  OpR X f (rI0 λi j=>.bl (g i j)):=by
 intro pins s σ H x y v u Q I rx ry h
 obtain ⟨i,j,rfl,rfl,q⟩:=h
 obtain ⟨t,rfl⟩:=rx
 obtain ⟨t',rfl⟩:=ry
 exact rule i j t t' s _ _ ⟨.bl (g i j),H,I,rfl,q⟩
def gQ (i j:Int):Prop:=(-(2 ^ 64)<i/\i<2 ^ 64)\/(-(2 ^ 64)<j/\j<2 ^ 64)
theorem gQ.ok {i j:Int}(h:gQ i j):IntMulOk i j:=by
 rcases h with ⟨h1,h2⟩|⟨h1,h2⟩
 ·exact .of_left (intBits_le_64 h1 h2)
 ·exact .of_right (intBits_le_64 h1 h2)
theorem uM (k:Nat):(0:Int)<=2 ^ k:=by
 rw [two_pow_cast]
 exact Int.natCast_nonneg _
theorem Ax:OpR X (binaryOp .Add) (rI0 λi j=>.int (i+j)):=sX λ_ _ _ _ _ _ _ q=>add_int q
theorem Ay:OpR X (binaryOp .Sub) (rI0 λi j=>.int (i - j)):=sX λ_ _ _ _ _ _ _ q=>sub_int q
theorem Az:OpR X (binaryOp .Mult) (rI gQ λi j=>.int (i * j)):=opI λ_ _ _ _ _ _ _ hc q=>mul_int q hc.ok
theorem AA:OpR X (binaryOp .Mod) (rI (λ_ j=>0<j) λi j=>.int (i % j)):=opI λi j _ _ _ _ _ hc q=>by
 have h1:(0:Int)<j:=hc
 exact mod_int' (by omega) (by rw [Int.fmod_eq_emod_of_nonneg i (by omega)];exact q)
theorem AB:OpR X (binaryOp .RShift) (rI (λ_ j=>0<=j) λi j=>.int (i / 2 ^ j.toNat)):=opI λi j _ _ _ _ _ hc q =>
 rshift_int hc (by rw [Int.fdiv_eq_ediv_of_nonneg i (uM _)];exact q)
theorem unI {f:Value->Sem Value}{g:Int->Int}
  (rule:∀ (i:Int) (t:Tok) (s:Shared) (Q:Value->Shared->Prop) (E:Value->Shared->Prop),Q (.int (g i) s.toks) { s with toks:=s.toks+1 }->wpAny (model X.prog X.w) X.A (f (.int i t)) Q E s) :
  UnR X f (rU λi=>.int (g i)):=by
 intro pins s σ H x v Q I rx h
 obtain ⟨i,rfl,q⟩:=h
 obtain ⟨t,rfl⟩:=rx
 exact rule i t s _ _ ⟨.int (g i),H,I.tok _,⟨_,rfl⟩,q⟩
theorem AC:UnR X (unaryOp .USub) (rU λi=>.int (-i)):=unI λ_ _ _ _ _ q=>neg_int q
end
def sY:V->V->Bool
 |.non,.non=>true|.non,.int _=>true|.int _,.non=>true|.non,.bl _=>true|.bl _,.non=>true|.non,.str _=>true|.str _,.non=>true
 |.int _,.int _=>true|.bl _,.bl _=>true|.str _,.str _=>true|.byt _,.byt _=>true
 |.int _,.str _=>true|.str _,.int _=>true|.bl _,.str _=>true|.str _,.bl _=>true
 |_,_=>false
def rEq:R2:=λx y H Q=>sY x y=true/\Q (.bl (decide (x=y))) H
def rNe:R2:=λx y H Q=>sY x y=true/\Q (.bl (!decide (x=y))) H
theorem pc {i j:Int}:decide (V.int i=V.int j)=(i==j):=by
 rw [Bool.eq_iff_iff]
 simp
theorem qb {i j:Bool}:decide (V.bl i=V.bl j)=(i==j):=by
 rw [Bool.eq_iff_iff]
 simp
theorem pe {i j:Str}:decide (V.str i=V.str j)=(i==j):=by
 rw [Bool.eq_iff_iff]
 simp
theorem ph {i j:Array UInt8}:decide (V.byt i=V.byt j)=(i.toList==j.toList):=by
 rw [Bool.eq_iff_iff]
 cases i
 cases j
 simp
section
variable {X:Cx}{a b c:Expr}{ta tb tc:TE}{pos:Pos}
theorem aF {pins:List (Addr×Obj)}{σ:St}{H:Hp}{s:Shared}{Q:VK}{k k':Bool}(I:Inv X pins σ H s) (q:Q (.bl k) H) (e:k=k'):EP X pins σ Q (.bool k') s:=by
 subst e
 exact ⟨.bl k,H,I,rfl,q⟩
theorem lx:OpR X (compareOp .Eq) rEq:=by
 intro pins s σ H x y v u Q I rx ry h
 obtain ⟨hs,q⟩:=h
 cases x with
 |non =>
  cases rx
  cases y with
  |non=>cases ry;exact PySem.EqNone.eq_none_none (aF I q (by simp))
  |bl j=>cases ry;exact PySem.EqNone.eq_none_bool (aF I q (by simp))
  |int j=>obtain ⟨t',rfl⟩:=ry;exact PySem.EqNone.eq_none_int (aF I q (by simp))
  |str j=>obtain ⟨t',rfl⟩:=ry;exact PySem.EqNone.eq_none_str (aF I q (by simp))
  |_=>exact absurd (show false=true from hs) Bool.false_ne_true
 |bl i =>
  cases rx
  cases y with
  |non=>cases ry;exact PySem.EqNone.eq_bool_none (aF I q (by simp))
  |bl j=>cases ry;exact eq_bool (aF I q qb)
  |str j=>obtain ⟨t',rfl⟩:=ry;exact PySem.EqMixed.eq_bool_str (aF I q (by simp))
  |_=>exact absurd (show false=true from hs) Bool.false_ne_true
 |int i =>
  obtain ⟨t,rfl⟩:=rx
  cases y with
  |non=>cases ry;exact PySem.EqNone.eq_int_none (aF I q (by simp))
  |int j=>obtain ⟨t',rfl⟩:=ry;exact eq_int (aF I q pc)
  |str j=>obtain ⟨t',rfl⟩:=ry;exact PySem.EqMixed.eq_int_str (aF I q (by simp))
  |_=>exact absurd (show false=true from hs) Bool.false_ne_true
 |str i =>
  obtain ⟨t,rfl⟩:=rx
  cases y with
  |non=>cases ry;exact PySem.EqNone.eq_str_none (aF I q (by simp))
  |bl j=>cases ry;exact PySem.EqMixed.eq_str_bool (aF I q (by simp))
  |int j=>obtain ⟨t',rfl⟩:=ry;exact PySem.EqMixed.eq_str_int (aF I q (by simp))
  |str j=>obtain ⟨t',rfl⟩:=ry;exact eq_str (aF I q pe)
  |_=>exact absurd (show false=true from hs) Bool.false_ne_true
 |byt i =>
  obtain ⟨t,rfl⟩:=rx
  cases y with
  |byt j=>obtain ⟨t',rfl⟩:=ry;exact PySem.W.eq_bytes (aF I q ph)
  |_=>exact absurd (show false=true from hs) Bool.false_ne_true
 |_=>cases y<;>exact absurd (show false=true from hs) Bool.false_ne_true
theorem ly:OpR X (compareOp .NotEq) rNe:=by
 intro pins s σ H x y v u Q I rx ry h
 obtain ⟨hs,q⟩:=h
 cases x with
 |non =>
  cases rx
  cases y with
  |non=>cases ry;exact PySem.EqNone.ne_none_none (aF I q (by simp))
  |bl j=>cases ry;exact PySem.EqNone.ne_none_bool (aF I q (by simp))
  |int j=>obtain ⟨t',rfl⟩:=ry;exact PySem.EqNone.ne_none_int (aF I q (by simp))
  |str j=>obtain ⟨t',rfl⟩:=ry;exact PySem.EqNone.ne_none_str (aF I q (by simp))
  |_=>exact absurd (show false=true from hs) Bool.false_ne_true
 |bl i =>
  cases rx
  cases y with
  |non=>cases ry;exact PySem.EqNone.ne_bool_none (aF I q (by simp))
  |bl j=>cases ry;exact ne_bool (aF I q (congrArg not qb))
  |str j=>obtain ⟨t',rfl⟩:=ry;exact PySem.EqMixed.ne_bool_str (aF I q (by simp))
  |_=>exact absurd (show false=true from hs) Bool.false_ne_true
 |int i =>
  obtain ⟨t,rfl⟩:=rx
  cases y with
  |non=>cases ry;exact PySem.EqNone.ne_int_none (aF I q (by simp))
  |int j=>obtain ⟨t',rfl⟩:=ry;exact ne_int (aF I q (congrArg not pc))
  |str j=>obtain ⟨t',rfl⟩:=ry;exact PySem.EqMixed.ne_int_str (aF I q (by simp))
  |_=>exact absurd (show false=true from hs) Bool.false_ne_true
 |str i =>
  obtain ⟨t,rfl⟩:=rx
  cases y with
  |non=>cases ry;exact PySem.EqNone.ne_str_none (aF I q (by simp))
  |bl j=>cases ry;exact PySem.EqMixed.ne_str_bool (aF I q (by simp))
  |int j=>obtain ⟨t',rfl⟩:=ry;exact PySem.EqMixed.ne_str_int (aF I q (by simp))
  |str j=>obtain ⟨t',rfl⟩:=ry;exact ne_str (aF I q (congrArg not pe))
  |_=>exact absurd (show false=true from hs) Bool.false_ne_true
 |byt i =>
  obtain ⟨t,rfl⟩:=rx
  cases y with
  |byt j=>obtain ⟨t',rfl⟩:=ry;exact PySem.W.ne_bytes (aF I q (congrArg not ph))
  |_=>exact absurd (show false=true from hs) Bool.false_ne_true
 |_=>cases y<;>exact absurd (show false=true from hs) Bool.false_ne_true
theorem CW:OpR X (compareOp .Lt) (rI0 λi j=>.bl (decide (i<j))):=mj λ_ _ _ _ _ _ _ q=>lt_int q
theorem CY:OpR X (compareOp .LtE) (rI0 λi j=>.bl (decide (i<=j))):=mj λ_ _ _ _ _ _ _ q=>le_int q
theorem CZ:OpR X (compareOp .Gt) (rI0 λi j=>.bl (decide (j<i))):=mj λ_ _ _ _ _ _ _ q=>gt_int q
theorem vf:OpR X (compareOp .Lt) (λx y H Q=>∃ i j,x=.str i/\y=.str j/\Q (.bl (decide (i.cps.toList<j.cps.toList))) H):=by
 intro pins s σ H x y v u Q I rx ry h
 obtain ⟨i,j,rfl,rfl,q⟩:=h
 obtain ⟨t,rfl⟩:=rx
 obtain ⟨t',rfl⟩:=ry
 exact lt_str (aF I q rfl)
theorem vg:OpR X (compareOp .In) (λx y H Q=>∃ i j,x=.str i/\y=.str j/\Q (.bl (!(Builtin.Str.occurrences j i 0 j.length 1).isEmpty)) H):=by
 intro pins s σ H x y v u Q I rx ry h
 obtain ⟨i,j,rfl,rfl,q⟩:=h
 obtain ⟨t,rfl⟩:=rx
 obtain ⟨t',rfl⟩:=ry
 exact in_str (aF I q rfl)
theorem uo:OpR X (compareOp .NotIn) (λx y H Q=>∃ i j,x=.str i/\y=.str j/\Q (.bl (!(!(Builtin.Str.occurrences j i 0 j.length 1).isEmpty))) H):=by
 intro pins s σ H x y v u Q I rx ry h
 obtain ⟨i,j,rfl,rfl,q⟩:=h
 obtain ⟨t,rfl⟩:=rx
 obtain ⟨t',rfl⟩:=ry
 exact notIn_str (aF I q rfl)
theorem aH (b:Expr){op:CmpOp}(h:op≠.In:=by decide) (h2:op≠.NotIn:=by decide):behindInMarks op b=false:=by
 have e1:(op==CmpOp.In)=false:=by cases op<;>first|rfl|exact absurd rfl h
 have e2:(op==CmpOp.NotIn)=false:=by cases op<;>first|rfl|exact absurd rfl h2
 cases b<;>simp [behindInMarks,e1,e2]
theorem yc {op:CmpOp}{r:R2}(ho:OpR X (compareOp op) r) (ha:PE X a ta) (hb:PE X b tb) (hm:behindInMarks op b=false):PE X (.Compare a [op] [b] pos) (tOp r ta tb):=by
 intro pins s σ H Q I h
 exact wpAny_Compare1 (mi ha hb I h λv u s2 x y H2 I2 rx ry q=>ho pins s2 σ H2 x y v u Q I2 rx ry q) hm
def lB (t:TE):TT:=λσ H Q=>t σ H λx H'=>∃ k,x=.bl k/\Q k H'
theorem yd {op:CmpOp}{r:R2}(ho:OpR X (compareOp op) r) (ha:PE X a ta) (hb:PE X b tb) (hm:behindInMarks op b=false):PT X (.Compare a [op] [b] pos) (lB (tOp r ta tb)):=by
 intro pins s σ H Q I h
 refine wpAny_isTrue_Compare1 (thn (ha pins s σ H _ I h) λv s1 ⟨x,H1,I1,r1,q1⟩=>thn (hb pins s1 σ H1 _ I1 q1) λu s2 ⟨y,H2,I2,r2,q2⟩ =>
  thn (ho pins s2 σ H2 x y v u _ I2 r1 r2 q2) λc s3 ⟨z,H3,I3,r3,k,e,q3⟩=>?_) hm
 subst e
 cases r3
 exact wpAny_truthy_bool ⟨H3,I3,q3⟩
def kT (r r':R2) (ta tb tc:TE):TE:=λσ H Q=>ta σ H λx H1=>tb σ H1 λy H2=>r x y H2 λz H3=>∃ k,z=.bl k /\
 (if k=true then tc σ H3 λw' H4=>r' y w' H4 Q else Q (.bl false) H3)
theorem wz {op op':CmpOp}{r r':R2}(ho:OpR X (compareOp op) r) (ho':OpR X (compareOp op') r') (ha:PE X a ta) (hb:PE X b tb) (hc:PE X c tc)
  (hm:lastMarks [op,op'] [b,c]=false:=by with_unfolding_all rfl):PE X (.Compare a [op,op'] [b,c] pos) (kT r r' ta tb tc):=by
 intro pins s σ H Q I h
 refine Compare_chain (thn (ha pins s σ H _ I h) λv s1 ⟨x,H1,I1,r1,q1⟩=>chain_link (thn (hb pins s1 σ H1 _ I1 q1) λu s2 ⟨y,H2,I2,r2,q2⟩ =>
  thn (ho pins s2 σ H2 x y v u _ I2 r1 r2 q2) λd s3 ⟨z,H3,I3,r3,k,e,q3⟩=>?_)) hm
 subst e
 cases r3
 refine wpAny_truthy_bool ?_
 cases k with
 |false=>exact ite_ff ⟨.bl false,H3,I3,rfl,q3⟩
 |true=>exact ite_tt (chain_last (thn (hc pins s3 σ H3 _ I3 q3) λw' s4 ⟨z',H4,I4,r4,q4⟩=>ho' pins s4 σ H4 y z' u w' Q I4 r2 r4 q4))
theorem wA {op op':CmpOp}{r r':R2}(ho:OpR X (compareOp op) r) (ho':OpR X (compareOp op') r') (ha:PE X a ta) (hb:PE X b tb) (hc:PE X c tc)
  (hm:lastMarks [op,op'] [b,c]=false:=by with_unfolding_all rfl):PT X (.Compare a [op,op'] [b,c] pos) (lB (kT r r' ta tb tc)):=by
 intro pins s σ H Q I h
 refine isTrue_chain (thn (ha pins s σ H _ I h) λv s1 ⟨x,H1,I1,r1,q1⟩=>test_link (thn (hb pins s1 σ H1 _ I1 q1) λu s2 ⟨y,H2,I2,r2,q2⟩ =>
  thn (ho pins s2 σ H2 x y v u _ I2 r1 r2 q2) λd s3 ⟨z,H3,I3,r3,k,e,q3⟩=>?_)) hm
 subst e
 cases r3
 refine wpAny_truthy_bool ?_
 cases k with
 |false =>
  obtain ⟨k',e',q'⟩:=q3
  cases e'
  exact ite_ff ⟨H3,I3,q'⟩
 |true =>
  refine ite_tt (test_last (thn (hc pins s3 σ H3 _ I3 q3) λw' s4 zz20=>?_))
  obtain ⟨z',H4,I4,r4,q4⟩:=zz20
  refine thn (ho' pins s4 σ H4 y z' u w' _ I4 r2 r4 q4) λd' s5 zz21=>?_
  obtain ⟨z2,H5,I5,r5,k2,e2,q5⟩:=zz21
  subst e2
  cases r5
  exact wpAny_truthy_bool ⟨H5,I5,q5⟩
def sZ (K:PySem.W.Frag) (x:V) (H:Hp) (k:Bool):Prop :=
 match x with
 |.non=>k=false
 |.bl b=>k=b
 |.int i=>k=(i != 0)
 |.str y=>y.length<=sizeLine/\k=((y.length:Int) != 0)
 |.byt y=>y.size<=sizeLine/\k=((y.size:Int) != 0)
 |.ref p=>(∃ xs,SqL K H p xs/\k=!xs.isEmpty)\/(∃ xs,SqT K H p xs/\k=!xs.isEmpty)\/∃ kvs,H p=some (.dK kvs)/\k=!kvs.isEmpty
 |_=>False
theorem uN {κ:Type}{kvs:List (κ×V)}{vs:List (κ×Value)}(r:KV kvs vs):(!vs.isEmpty)=!kvs.isEmpty:=by
 cases r<;>rfl
theorem nI {xs:List V}{its:List Value}(r:ai xs its):(!its.toArray.isEmpty)=!xs.isEmpty:=by
 cases r<;>simp
theorem dI:(sizeLine:Nat)<2 ^ 63:=by rw [sizeLine_eq];decide
theorem AD:EU X (λx H Q=>∃ k,sZ X.K x H k/\Q k H):=by
 intro pins s σ H x v Q I rx h
 obtain ⟨k,e,q⟩:=h
 have hl:=dI
 have hs:sizeLine=16777216:=sizeLine_eq
 cases x with
 |non =>
  cases rx
  have e':k=false:=e
  subst e'
  exact truthy_none ⟨H,I,q⟩
 |bl b =>
  cases rx
  have e':k=b:=e
  subst e'
  exact wpAny_truthy_bool ⟨H,I,q⟩
 |int i =>
  obtain ⟨t,rfl⟩:=rx
  have e':k=(i != 0):=e
  subst e'
  exact PySem.P.truthy_int ⟨H,I,q⟩
 |str y =>
  obtain ⟨t,rfl⟩:=rx
  obtain ⟨hy,e'⟩:y.length<=sizeLine/\k=((y.length:Int) != 0):=e
  subst e'
  exact PySem.P.truthy_str (by omega) ⟨H,I.tok _,q⟩
 |byt y =>
  obtain ⟨t,rfl⟩:=rx
  obtain ⟨hy,e'⟩:y.size<=sizeLine/\k=((y.size:Int) != 0):=e
  subst e'
  exact PySem.W.truthy_bytes (by omega) ⟨H,I.tok _,q⟩
 |ref p =>
  cases rx
  have e':(∃ xs,SqL X.K H p xs/\k=!xs.isEmpty)\/(∃ xs,SqT X.K H p xs/\k=!xs.isEmpty)\/∃ kvs,H p=some (.dK kvs)/\k=!kvs.isEmpty:=e
  rcases e' with ⟨xs,hx,e'⟩|⟨xs,hx,e'⟩|⟨kvs,hx,e'⟩
  ·subst e'
   obtain ⟨its,r,pl,hz⟩:=I.list hx
   have hlen:=r.length
   exact wpAny_truthy_list pl.isList (by simp only [List.size_toArray];omega) ⟨H,I.tok _,by rw [nI r];exact q⟩
  ·subst e'
   obtain ⟨its,r,pl,hz⟩:=I.tuple hx
   have hlen:=r.length
   exact truthy_tuple pl (by simp only [List.size_toArray];omega) ⟨H,I.tok _,by rw [nI r];exact q⟩
  ·subst e'
   obtain ⟨hz,hS,vs,r,m⟩:kvs.length<=sizeLine/\(p==sysModules)=false/\∃ vs,KV kvs vs/\s.heap.DictOf (aS X.prog X.w) p vs:=I.hok p _ hx
   have hlen:kvs.length=vs.length:=Paired.length r
   exact wpAny_truthy_dict hS m (by omega) ⟨H,I.tok _,by rw [uN r];exact q⟩
 |_=>exact (show False from e).elim
theorem wD (ha:PE X a ta) (he:∀ whole,isTrue a X.env whole=(do let v <- whole;standAt a.pos;holding [v] (truthy v))) :
  PT X a (λσ H Q=>ta σ H λx H'=>∃ k,sZ X.K x H' k/\Q k H'):=by
 intro pins s σ H Q I h
 exact isTrue_plain (thn (ha pins s σ H _ I h) λv s1 zz22=>by obtain ⟨x,H1,I1,r1,q1⟩:=zz22;exact AD pins s1 σ H1 x v Q I1 r1 q1) (he _)
theorem uO:OpR X (binaryOp .Add) (λx y H Q=>∃ i j,x=.str i/\y=.str j/\i.length+j.length<=sizeLine/\Q (.str (i++j)) H):=by
 intro pins s σ H x y v u Q I rx ry h
 obtain ⟨i,j,rfl,rfl,hz,q⟩:=h
 obtain ⟨t,rfl⟩:=rx
 obtain ⟨t',rfl⟩:=ry
 exact add_str (λt' tk=>⟨.str (i++j),H,I.tok _,⟨_,rfl⟩,q⟩) hz
theorem bi {x:V}{us:List Value}(r:ai [x] us):∃ u,us=[u]/\ak x u:=by
 cases r with
 |cons r1 r2=>cases r2;exact ⟨_,rfl,r1⟩
theorem rM {x y:V}{us:List Value}(r:ai [x,y] us):∃ u w',us=[u,w']/\ak x u/\ak y w':=by
 cases r with
 |cons r1 r2 =>
  cases r2 with
  |cons r3 r4=>cases r4;exact ⟨_,_,rfl,r1,r3⟩
theorem nX:bu X (.type "int") (λxs H Q=>(∃ i,xs=[.int i]/\Q (.int i) H)\/∃ k,xs=[.bl k]/\Q (.int (if k then 1 else 0)) H):=by
 intro pins s σ H xs us Q I r h
 rcases h with ⟨i,rfl,q⟩|⟨k,rfl,q⟩
 ·obtain ⟨u,rfl,t,rfl⟩:=bi r
  exact call_int_int ⟨.int i,H,I,⟨_,rfl⟩,q⟩
 ·obtain ⟨u,rfl,r1⟩:=bi r
  cases r1
  exact call_int_bool ⟨.int (if k then 1 else 0),H,I.tok _,⟨_,rfl⟩,q⟩
end
structure ObjM (h:Heap) (x dx C:Addr) (mA:Str->Option Value):Prop where
 obj:h.get? x=some (PySem.W.instObj C dx)
 ns:h.Ns1 dx mA
 ne:dx≠x
theorem vh {h:Heap}{dx:Addr}{mA:Str->Option Value}(n:h.Ns1 dx mA):∃ od,h.get? dx=some od/\∀ name,PySem.W.lookIn name od=some (mA name):=by
 obtain ⟨o,es,ep,ho,hd,hk,_,hm⟩:=n
 refine ⟨o,ho,λname=>?_⟩
 have e:=hm name
 unfold nsFind findBy at e
 rw [<- Array.find?_toList] at e
 unfold PySem.W.lookIn
 rw [hd]
 dsimp only
 split
 ·rename_i y q
  rw [q] at e
  exact congrArg some e
 ·rename_i q
  rw [q] at e
  have a:es.toList.any (·.refKey)=false:=by
   rw [List.any_eq_false]
   intro y hy
   obtain ⟨z,t,hkey⟩:=hk y (Array.mem_toList_iff.mp hy)
   simp [DictEntry.refKey,hkey]
  have a':¬ es.toList.any (·.refKey)=true:=by rw [a];exact Bool.false_ne_true
  rw [if_neg a']
  exact congrArg some e
theorem ObjM.look {h:Heap}{x dx C:Addr}{mA:Str->Option Value}(I:ObjM h x dx C mA):∃ od,PySem.W.InstAt h x (PySem.W.instObj C dx) C (some od)/\∀ name,PySem.W.lookIn name od=some (mA name) :=
 let ⟨od,ho,hl⟩:=vh I.ns
 ⟨od,⟨I.obj,rfl,rfl,ho⟩,hl⟩
section
variable {prog:Program}{w:World}{A:Around}{E:Value->Shared->Prop}{s:Shared}{K:PySem.W.Frag}{x dx C f:Addr}{mA:Str->Option Value}{name:Str}{v:Value}
theorem ye {expr:Bool}{Q:Value->Shared->Prop}(X:K.In s.heap) (I:ObjM s.heap x dx C mA) (hg:PySem.W.plainGet K C name=true) (hh:PySem.W.hasDictIn K C=true)
  (ha:PySem.W.findIn K (.ref C) name=some none) (hv:mA name=some v) (hv':PySem.W.handedIn v=true) (h:Q v { s with toks:=s.toks+1 }) :
  wpAny (model prog w) A (getAttr (.ref x) name expr) Q E s:=by
 obtain ⟨od,J,hl⟩:=I.look
 exact PySem.W.get_value X J (PySem.W.plainGet_of hg).1 (PySem.W.findObj_own hh ha rfl (by rw [hl,hv])) hv' h
theorem wE {pl:Sem Bool}{Q:Value×List Value->Shared->Prop}(X:K.In s.heap) (I:ObjM s.heap x dx C mA) (hg:PySem.W.plainGet K C name=true)
  (hf:PySem.W.findIn K (.ref C) name=some (some (.ref f))) (ht:PySem.W.isFn K (.ref f)=true) (hv:mA name=none) (h:Q (.ref f,[.ref x]) s) :
  wpAny (model prog w) A (getMethod (.ref x) name pl) Q E s:=by
 obtain ⟨od,J,hl⟩:=I.look
 exact PySem.W.method_fn X J (PySem.W.plainGet_of hg).1 (PySem.W.plainGet_of hg).2 hf (beq_iff_eq.mp ht) (by show (PySem.W.lookIn name od).map (·.isSome)=some false;rw [hl,hv];rfl) h
theorem yf {ns:List Str}{Q:Unit->Shared->Prop}(X:K.In s.heap) (I:ObjM s.heap x dx C mA)
  (hs:PySem.W.findIn K (.ref C) "__setattr__"=some (some (.builtin "object.__setattr__"))) (hp:PySem.W.plainOver K C=true) (ht:PySem.W.takerIn K C name=some none) (hh:PySem.W.hasDictIn K C=true)
  (hw:PySem.Within mA ns) (hsz:ns.length<=sizeLine)
  (h:∀ h',ObjM h' x dx C (λy=>if y=name then some v else mA y)->Heap.SameBut dx s.heap h'->Q () { s with heap:=h',toks:=s.toks+2 }) :
  wpAny (model prog w) A (setAttr (.ref x) name v) Q E s:=by
 obtain ⟨od,J,hl⟩:=I.look
 refine PySem.W.set_plain X J hs (PySem.W.osa_open (s:={ s with toks:=s.toks+1 }) (r:=none) X J hp ht λb=>?_)
 obtain ⟨cd,hc,hd'⟩:=PySem.W.any_some hh
 have hx:s.heap.get? x=some ⟨.ref C,some dx,.plain,#[]⟩:=I.obj
 refine wpAny_bind (wpAny_pure (wpAny_bind (wpAny_bind (wpAny_loadPart hx (wpAny_bind (PySem.W.Looks.here (s:={ s with toks:=s.toks+1 }) (PySem.W.looks_clsIn X hc) ?_))))))
 rw [hd']
 refine wpAny_pure (a:=some dx) (wpAny_bind (wpAny_pure (wpAny_bind ?_)))
 refine wpAny_nsSet1 (s:={ s with toks:=s.toks+1 }) I.ns λh' hn2 hs2=>?_
 obtain ⟨oD,esD,epD,hoD,hdD,hcD⟩:=hn2.count (PySem.Within.cons name v hw)
 refine wpAny_bind (wpAny_lookBehind hoD (by rw [hdD];exact pastItsLine_dict (Nat.le_trans hcD (by rw [List.length_cons];omega))) ?_)
 exact wpAny_pure (h _ ⟨(hs2.2 _ (Ne.symm I.ne)).trans I.obj,hn2,I.ne⟩ hs2)
theorem wF {R:Result->Shared->Prop}{vs:List Value}{kw:List (Str×Value)}(X:K.In s.heap) (hm:PySem.W.makesIn K C=true)
  (hi:PySem.W.findIn K (.ref C) "__init__"=some (some (.ref f))) (hf:PySem.W.typeIn K (.ref f)=some (.type "function"))
  (h:codeAny (model prog w) (A.under (.builtin "type.__call__" ⟨.ref C::vs,kw⟩)) (.call (.ref f) ⟨.ref (s.heap.objs.size+1)::vs,kw⟩) (PySem.W.InitBack (s.heap.objs.size+1) R)
   { s with heap:=(s.heap.push PySem.W.emptyDict).push (PySem.W.instObj C s.heap.objs.size) }) :
  codeAny (model prog w) A (.call (.ref C) ⟨vs,kw⟩) R s:=by
 obtain ⟨hh,g,d,t,os⟩:=s
 exact PySem.W.make_core (PySem.W.makes_of X hm) (PySem.W.looks_findIn X hi) (λself=>PySem.W.bind_fn X self hf) (.inl rfl) h
end
def a7 (f:Str) (v:V):List (Str×V)->List (Str×V)
 |[]=>[(f,v)]
 |(g,x)::r=>if g=f then (g,v)::r else (g,x)::a7 f v r
theorem nj (f g:Str) (v:V):∀ fs:List (Str×V),(a7 f v fs).lookup g=if g=f then some v else fs.lookup g
 |[]=>by
  show List.lookup g [(f,v)]=_
  by_cases h:g=f
  ·have hb:(g==f)=true:=beq_iff_eq.mpr h
   simp only [List.lookup,hb,if_pos h]
  ·have hb:(g==f)=false:=beq_eq_false_iff_ne.mpr h
   simp only [List.lookup,hb,if_neg h]
 |(k,x)::r=>by
  have ih:=nj f g v r
  rw [show a7 f v ((k,x)::r)=(if k=f then (k,v)::r else (k,x)::a7 f v r) from rfl]
  by_cases hk:k=f
  ·rw [if_pos hk]
   by_cases h:g=k
   ·have hb:(g==k)=true:=beq_iff_eq.mpr h
    simp only [List.lookup,hb,if_pos (h.trans hk)]
   ·have hb:(g==k)=false:=beq_eq_false_iff_ne.mpr h
    simp only [List.lookup,hb,if_neg (λe:g=f=>h (e.trans hk.symm))]
  ·rw [if_neg hk]
   by_cases h:g=k
   ·have hb:(g==k)=true:=beq_iff_eq.mpr h
    simp only [List.lookup,hb,if_neg (λe:g=f=>hk (h.symm.trans e))]
   ·have hb:(g==k)=false:=beq_eq_false_iff_ne.mpr h
    simp only [List.lookup,hb]
    exact ih
theorem jP (f:Str) (v:V):∀ fs:List (Str×V),f∈(a7 f v fs).map (·.1)/\∀ g,g∈fs.map (·.1)->g∈(a7 f v fs).map (·.1)
 |[]=>⟨by simp [a7],λg h=>by simp at h⟩
 |(k,x)::r=>by
  obtain ⟨i1,i2⟩:=jP f v r
  rw [show a7 f v ((k,x)::r)=(if k=f then (k,v)::r else (k,x)::a7 f v r) from rfl]
  by_cases hk:k=f
  ·rw [if_pos hk]
   subst hk
   exact ⟨by simp,λg h=>by simpa using h⟩
  ·rw [if_neg hk]
   refine ⟨?_,λg h=>?_⟩
   ·rw [List.map_cons]
    exact List.mem_cons_of_mem _ i1
   ·rw [List.map_cons] at h ⊢
    rcases List.mem_cons.mp h with e|e
    ·exact List.mem_cons.mpr (.inl e)
    ·exact List.mem_cons_of_mem _ (i2 g e)
theorem nq (f:Str) (v:V):∀ fs:List (Str×V),(a7 f v fs).length<=fs.length+1
 |[]=>by simp [a7]
 |(k,x)::r=>by
  have ih:=nq f v r
  rw [show a7 f v ((k,x)::r)=(if k=f then (k,v)::r else (k,x)::a7 f v r) from rfl]
  by_cases hk:k=f
  ·rw [if_pos hk,List.length_cons,List.length_cons];omega
  ·rw [if_neg hk,List.length_cons,List.length_cons];omega
theorem bB.some_of {v:V}{o:Option Value}(r:bB (some v) o):∃ u,o=some u/\ak v u:=by
 cases o with
 |none=>exact (show False from r).elim
 |some u=>exact ⟨u,rfl,r⟩
theorem bB.none_of {o:Option Value}(r:bB none o):o=none:=by
 cases o with
 |none=>rfl
 |some u=>exact (show False from r).elim
theorem vk {v:V}{u:Value}(r:ak v u):PySem.W.handedIn u=true:=by
 cases v with
 |non=>cases (show u=Value.none from r);rfl
 |bl b=>cases (show u=Value.bool b from r);rfl
 |int i=>obtain ⟨t,e⟩:=(show ∃ t,u=Value.int i t from r);cases e;rfl
 |str x=>obtain ⟨t,e⟩:=(show ∃ t,u=Value.str x t from r);cases e;rfl
 |byt b=>obtain ⟨t,e⟩:=(show ∃ t,u=Value.bytes b t from r);cases e;rfl
 |flt b=>obtain ⟨t,e⟩:=(show ∃ t,u=Value.float b t from r);cases e;rfl
 |ref a=>cases (show u=Value.ref a from r);rfl
 |ty n=>cases (show u=Value.type n from r);rfl
section
variable {P:Program}{w:World}{H H':Hp}{h h':Heap}{a C dx:Addr}{fs fs':List (Str×V)}
theorem iJ (hok:HOk P w H h) (e:H a=some (.ins C dx fs)):∃ mA,ObjM h a dx C mA/\(∀ f,bB (fs.lookup f) (mA f))/\PySem.Within mA (fs.map (·.1))/\fs.length<=1000/\H dx=some (.own a):=by
 obtain ⟨d,z,ne,ob,mA,n,r,q⟩:=(show aM P w H h a (.ins C dx fs) from hok a _ e)
 exact ⟨mA,⟨ob,n,ne⟩,r,q,z,d⟩
end
structure Cls (K:PySem.W.Frag) (C:Addr):Prop where
 pg:PySem.W.plainGet K C Str.empty=true
 hd:PySem.W.hasDictIn K C=true
 po:PySem.W.plainOver K C=true
 sa:PySem.W.findIn K (.ref C) "__setattr__"=some (some (.builtin "object.__setattr__"))
theorem Cls.get {K:PySem.W.Frag}{C:Addr}(c:Cls K C) (f:Str):PySem.W.plainGet K C f=true:=c.pg
def bF (K:PySem.W.Frag) (C:Addr) (f:Str):Prop:=PySem.W.findIn K (.ref C) f=some none
theorem bF.taker {K:PySem.W.Frag}{C:Addr}{f:Str}(n:bF K C f):PySem.W.takerIn K C f=some none:=by
 unfold PySem.W.takerIn
 rw [show PySem.W.findIn K (.ref C) f=some none from n]
 rfl
structure Con (K:PySem.W.Frag) (C:Addr) (f:Str) (v:V) (u:Value):Prop where
 at_:PySem.W.findIn K (.ref C) f=some (some u)
 rel:ak v u
 get:PySem.W.specialIn K u "__get__"=some none
 cp:PySem.W.copiedNames.contains f=false
structure Meth (K:PySem.W.Frag) (C:Addr) (m:Str) (f:Addr):Prop where
 at_:PySem.W.findIn K (.ref C) m=some (some (.ref f))
 fn:PySem.W.isFn K (.ref f)=true
 kp:PySem.W.keepIn K (.ref f)=true
section
variable {X:Cx}{pins:List (Addr×Obj)}{σ:St}{H:Hp}{s:Shared}{a C dx:Addr}{fs:List (Str×V)}{f:Str}{v:V}{A:Around}{E:Value->Shared->Prop}
theorem nJ {b:Bool}{Q:Value->Shared->Prop}(I:Inv X pins σ H s) (e:H a=some (.ins C dx fs)) (c:Cls X.K C) (n:bF X.K C f) (l:fs.lookup f=some v)
  (h:∀ u s',Inv X pins σ H s'->ak v u->Q u s'):wpAny (model X.prog X.w) A (getAttr (.ref a) f b) Q E s:=by
 obtain ⟨mA,O,r,_,_,_⟩:=iJ I.hok e
 obtain ⟨u,hu,ru⟩:=bB.some_of (v:=v) (o:=mA f) (by rw [<- l];exact r f)
 exact ye I.kIn O (c.get f) c.hd n hu (vk ru) (h u _ (I.tok _) ru)
theorem jL {m:Str}{g:Addr}{pl:Sem Bool}{Q:Value×List Value->Shared->Prop}(I:Inv X pins σ H s) (e:H a=some (.ins C dx fs)) (c:Cls X.K C) (k:Meth X.K C m g) (l:fs.lookup m=none)
  (h:Q (.ref g,[.ref a]) s):wpAny (model X.prog X.w) A (getMethod (.ref a) m pl) Q E s:=by
 obtain ⟨mA,O,r,_,_,_⟩:=iJ I.hok e
 have hn:mA m=none:=bB.none_of (by rw [<- l];exact r m)
 exact wE I.kIn O (c.get m) k.at_ k.fn hn h
theorem nK {y:V}{u:Value}{Q:Unit->Shared->Prop}(I:Inv X pins σ H s) (e:H a=some (.ins C dx fs)) (c:Cls X.K C) (n:bF X.K C f) (hl:fs.length<1000) (ry:ak y u)
  (h:∀ s',Inv X pins σ (upd H a (.ins C dx (a7 f y fs))) s'->Q () s'):wpAny (model X.prog X.w) A (setAttr (.ref a) f u) Q E s:=by
 obtain ⟨mA,O,r,wi,_,ho⟩:=iJ I.hok e
 have hz:(fs.map (·.1)).length<=sizeLine:=by rw [List.length_map,sizeLine_eq];omega
 refine yf I.kIn O c.sa c.po n.taker c.hd wi hz λh' O' sb=>h _ ?_
 have hd:∃ o,h'.get? dx=some o:=let ⟨o,_,_,e',_⟩:=O'.ns;⟨o,e'⟩
 refine I.write (x:=a) (e:=dx) (by rw [e];exact True.intro) (.inr ho) (λb q hb z=>(sb.2 b hb).trans z) hd ?_
 refine ⟨by rw [ap O.ne];exact ho,?_,O.ne,O'.obj,_,O'.ns,λg=>?_,λg hg=>?_⟩
 ·have:=nq f y fs;omega
 ·show bB ((a7 f y fs).lookup g) (if g=f then some u else mA g)
  rw [nj]
  by_cases q:g=f
  ·rw [if_pos q,if_pos q];exact ry
  ·rw [if_neg q,if_neg q];exact r g
 ·by_cases q:g=f
  ·rw [q];exact (jP f y fs).1
  ·refine (jP f y fs).2 g (wi g λz=>hg ?_)
   show (if g=f then some u else mA g)=none
   rw [if_neg q];exact z
theorem Inv.made (I:Inv X pins σ H s):Inv X pins σ (upd (upd H s.heap.objs.size (.own (s.heap.objs.size+1))) (s.heap.objs.size+1) (.ins C s.heap.objs.size []))
  { s with heap:=(s.heap.push PySem.W.emptyDict).push (PySem.W.instObj C s.heap.objs.size) }:=by
 have e1:(s.heap.push PySem.W.emptyDict).get? s.heap.objs.size=some PySem.W.emptyDict:=Heap.get?_push_size s.heap rfl
 have e2:((s.heap.push PySem.W.emptyDict).push (PySem.W.instObj C s.heap.objs.size)).get? (s.heap.objs.size+1)=some (PySem.W.instObj C s.heap.objs.size):=by
  have:=Heap.get?_push_size (s.heap.push PySem.W.emptyDict) (o:=PySem.W.instObj C s.heap.objs.size) rfl
  rwa [Heap.size_push] at this
 have e3:(s.heap.push PySem.W.emptyDict).Ns s.heap.objs.size (λ_=>none):=⟨PySem.W.emptyDict,#[],_,e1,rfl,(λe he=>absurd he (by simp)),λ_=>rfl⟩
 have I1:=I.laid (a:=s.heap.objs.size) (o:=.own (s.heap.objs.size+1)) (h':=s.heap.push PySem.W.emptyDict) (t':=s.toks) (λb u q=>Heap.get?_push_of_some _ q) (Nat.le_refl _) ⟨_,e1⟩
 refine I1.laid (a:=s.heap.objs.size+1) (o:=.ins C s.heap.objs.size []) (t':=s.toks) (λb u q=>Heap.get?_push_of_some _ q) (Nat.le_of_eq (Heap.size_push _ _)) ?_
 have ne:s.heap.objs.size≠s.heap.objs.size+1:=Nat.ne_of_lt (Nat.lt_succ_self _)
 refine ⟨by rw [ap ne,aA],Nat.zero_le _,ne,e2,λ_=>none,(Heap.Ns1.of_empty e3).at λo q=>Heap.get?_push_of_some _ q,λ_=>True.intro,λy hy=>absurd rfl hy⟩
theorem yg {prog:Program}{w:World}{env:Env}{e:Expr}{f:Str}{pos:Pos}{s:Shared}{Q:Value->Shared->Prop}(hb:attributeBase e f env (eval e env)=eval e env)
  (h:wpAny (model prog w) A (eval e env) (λo s₁=>wpAny (model prog w) A (getAttr o f true) Q E s₁) E s):wpAny (model prog w) A (eval (.Attribute e f pos) env) Q E s :=
 Attribute_any_ h (by rw [arm_eval_Attribute,hb])
end
def EV (K:PySem.W.Frag) (ta:TE) (f:Str):TE:=λσ H Q=>ta σ H λx H1=>∃ a C dx fs v,x=.ref a/\H1 a=some (.ins C dx fs)/\Cls K C/\bF K C f/\fs.lookup f=some v/\Q v H1
def EW (K:PySem.W.Frag) (ta tv:TE) (f:Str):TS:=λD σ H=>tv σ H λy H1=>ta σ H1 λx H2=>∃ a C dx fs,x=.ref a/\H2 a=some (.ins C dx fs)/\Cls K C/\bF K C f/\fs.length<1000 /\
 D.nx σ (upd H2 a (.ins C dx (a7 f y fs)))
def tf (X:Cx) (op:Operator) (rd:V->V->Hp->VK->Prop):Prop :=
 ∀ (pins:List (Addr×Obj)) (s:Shared) (σ:St) (H:Hp) (x y:V) (u v:Value) (Q:VK),Inv X pins σ H s->ak x u->ak y v->rd x y H Q->wpAny (model X.prog X.w) X.A (inplaceOp op u v) (EP X pins σ Q) X.xe s
def yh (K:PySem.W.Frag) (ta tv:TE) (rd:V->V->Hp->VK->Prop) (f:Str):TS:=λD σ H=>ta σ H λx H1=>∃ a C dx fs v,x=.ref a/\H1 a=some (.ins C dx fs)/\Cls K C/\bF K C f/\fs.lookup f=some v /\
 tv σ H1 λy H2=>rd v y H2 λz H3=>∃ dx' fs',H3 a=some (.ins C dx' fs')/\fs'.length<1000/\D.nx σ (upd H3 a (.ins C dx' (a7 f z fs')))
section
variable {X:Cx}{o e value:Expr}{f:Str}{pos pos' tpos:Pos}{ta tv:TE}
theorem AE (he:PE X e ta) (hb:attributeBase e f X.env (eval e X.env)=eval e X.env):PE X (.Attribute e f pos) (EV X.K ta f):=by
 intro pins s σ H Q I h
 refine yg hb (thn (he pins s σ H _ I h) λu s1 zz23=>?_)
 obtain ⟨x,H1,I1,rx,a,C,dx,fs,v,ex,ea,c,n,l,q⟩:=zz23
 subst ex
 obtain rfl:u=Value.ref a:=rx
 exact nJ I1 ea c n l λu' s2 I2 ru=>⟨v,H1,I2,ru,q⟩
theorem AF (ha:PE X o ta) (hv:PE X value tv) (hs:swapsWith value (some (.Attribute o f pos')) pos.line X.env=pure false):PS X (.Assign [.Attribute o f pos'] value pos) (EW X.K ta tv f):=by
 intro pins s σ H D I h
 refine plainObj_wpAny_Assign_Attribute (thn (hv pins s σ H _ I h) λu s1 ⟨y,H1,I1,ry,q⟩=>thn (ha pins s1 σ H1 _ I1 q) λov s2 ⟨x,H2,I2,rx,a,C,dx,fs,ex,ea,c,n,l,q2⟩=>?_) hs
 subst ex
 obtain rfl:ov=Value.ref a:=rx
 exact nK I2 ea c n l ry λs3 I3=>⟨σ,_,I3,q2⟩
theorem vm {op:Operator}{rd:V->V->Hp->VK->Prop}(ha:PE X o ta) (hv:PE X value tv) (hop:tf X op rd):PS X (.AugAssign (.Attribute o f tpos) op value pos) (yh X.K ta tv rd f):=by
 intro pins s σ H D I h
 refine wpAny_AugAssign_AttributeAny (thn (ha pins s σ H _ I h) λov s1 zz24=>?_)
 obtain ⟨x,H1,I1,rx,a,C,dx,fs,v,ex,ea,c,n,l,q⟩:=zz24
 subst ex
 obtain rfl:ov=Value.ref a:=rx
 refine nJ I1 ea c n l λu s2 I2 ru=>thn (hv pins s2 σ H1 _ I2 q) λw3 s3 zz25=>?_
 obtain ⟨y,H2,I3,ry,q3⟩:=zz25
 refine thn (hop pins s3 σ H2 v y u w3 _ I3 ru ry q3) λw4 s4 zz26=>?_
 obtain ⟨z,H3,I4,rz,dx',fs',ea',l',q4⟩:=zz26
 exact nK I4 ea' c n l' rz λs5 I5=>⟨σ,_,I5,q4⟩
def EX:V->V->Hp->VK->Prop:=λx y H Q=>∃ i j,x=.int i/\y=.int j/\Q (.int (i+j)) H
theorem AG:tf X .Add EX:=by
 rintro pins s σ H x y u v Q I rx ry ⟨i,j,rfl,rfl,q⟩
 obtain ⟨t,rfl⟩:=(show ∃ t,u=Value.int i t from rx)
 obtain ⟨t',rfl⟩:=(show ∃ t',v=Value.int j t' from ry)
 exact PyProof.Rows.iadd_int ⟨.int (i+j),H,I.tok _,⟨_,rfl⟩,q⟩
end
section
variable {X:Cx}{pins:List (Addr×Obj)}{σ:St}{H:Hp}{s:Shared}{A:Around}{E:Value->Shared->Prop}{Q:Value->Shared->Prop}{c:Value}{b:Bool}
inductive TyOf (K:PySem.W.Frag) (H:Hp):V->Value->Prop where
 |non:TyOf K H .non (.type "NoneType")
 |bl (x:Bool):TyOf K H (.bl x) (.type "bool")
 |int (i:Int):TyOf K H (.int i) (.type "int")
 |str (x:Str):TyOf K H (.str x) (.type "str")
 |flt (x:UInt64):TyOf K H (.flt x) (.type "float")
 |lst {a:Addr}{xs:List V}(e:H a=some (.lst xs)):TyOf K H (.ref a) (.type "list")
 |frz {a:Addr}{o:Obj}{xs:List V}(e:H a=some (.frz o (.lst xs))):TyOf K H (.ref a) (.type "list")
 |tup {a:Addr}{xs:List V}(e:H a=some (.tup xs)):TyOf K H (.ref a) (.type "tuple")
 |dK {a:Addr}{kvs:List (Key×V)}(e:H a=some (.dK kvs)):TyOf K H (.ref a) (.type "dict")
 |dT {a:Addr}{kvs:List (List Key×V)}(e:H a=some (.dT kvs)):TyOf K H (.ref a) (.type "dict")
 |ins {a C dx:Addr}{fs:List (Str×V)}(e:H a=some (.ins C dx fs)) (cl:Cls K C) (ha:PySem.W.findIn K (.ref C) "__class__"=some (some (.builtin "object.__class__")))
   (hn:PySem.W.specialIn K (.builtin "object.__class__") "__get__"=some (some (.builtin "getset_descriptor.__get__"))) (htk:PySem.W.takesIn K (.builtin "object.__class__")=some true)
   (hm:PySem.W.mroIn K C (.type "object")=some true):TyOf K H (.ref a) (.ref C)
theorem vo {x:V}{u t:Value}(I:Inv X pins σ H s) (rx:ak x u) (ty:TyOf X.K H x t) (e:PySem.W.kitOne X.K t c=some b) (h:∀ tk,Q (.bool b) { s with toks:=tk }) :
  wpAny (model X.prog X.w) A (call (.builtin "isinstance") [u,c]) Q E s:=by
 cases ty with
 |non=>cases (show u=Value.none from rx);exact PySem.W.kia_one PySem.W.kitx_none I.kIn True.intro e (λz=>nomatch z) h
 |bl y=>cases (show u=Value.bool y from rx);exact PySem.W.kia_one PySem.W.kitx_bool I.kIn True.intro e (λz=>nomatch z) h
 |int i=>obtain ⟨t,q⟩:=(show ∃ t,u=Value.int i t from rx);cases q;exact PySem.W.kia_one PySem.W.kitx_int I.kIn True.intro e (λz=>nomatch z) h
 |str y=>obtain ⟨t,q⟩:=(show ∃ t,u=Value.str y t from rx);cases q;exact PySem.W.kia_one PySem.W.kitx_str I.kIn True.intro e (λz=>nomatch z) h
 |flt y=>obtain ⟨t,q⟩:=(show ∃ t,u=Value.float y t from rx);cases q;exact PySem.W.kia_one PySem.W.kitx_float I.kIn True.intro e (λz=>nomatch z) h
 |@lst a xs ea =>
  cases (show u=Value.ref a from rx)
  obtain ⟨_,_,n,_,h1⟩:=(show aM X.prog X.w H s.heap a (.lst xs) from I.hok a _ ea)
  exact PySem.W.kia_one PySem.W.kitx_list I.kIn ⟨_,h1,rfl⟩ e (λz=>nomatch z) h
 |@frz a ob xs ea =>
  cases (show u=Value.ref a from rx)
  obtain ⟨_,_,_,n,_,h1⟩:=(show aM X.prog X.w H s.heap a (.frz ob (.lst xs)) from I.hok a _ ea)
  exact PySem.W.kia_one PySem.W.kitx_list I.kIn ⟨_,h1,rfl⟩ e (λz=>nomatch z) h
 |@tup a xs ea =>
  cases (show u=Value.ref a from rx)
  obtain ⟨_,_,_,p⟩:=(show aM X.prog X.w H s.heap a (.tup xs) from I.hok a _ ea)
  obtain ⟨o,h1,h2,_⟩:=p
  exact PySem.W.kia_one PySem.W.kitx_tuple I.kIn ⟨o,h1,h2⟩ e (λz=>nomatch z) h
 |@dK a kvs ea =>
  cases (show u=Value.ref a from rx)
  obtain ⟨_,_,vs,_,p⟩:=(show aM X.prog X.w H s.heap a (.dK kvs) from I.hok a _ ea)
  obtain ⟨o,es,ep,h1,h2,_⟩:=p
  exact PySem.W.kia_one PySem.W.kitx_dict I.kIn ⟨o,h1,h2.1⟩ e (λz=>nomatch z) h
 |@dT a kvs ea =>
  cases (show u=Value.ref a from rx)
  obtain ⟨_,_,xs,_,o,es,ep,h1,h2,_⟩:=(show aM X.prog X.w H s.heap a (.dT kvs) from I.hok a _ ea)
  exact PySem.W.kia_one PySem.W.kitx_dict I.kIn ⟨o,h1,h2.1⟩ e (λz=>nomatch z) h
 |@ins a C dx fs ea cl ha hn htk hm =>
  cases (show u=Value.ref a from rx)
  obtain ⟨mA,O,_⟩:=iJ I.hok ea
  obtain ⟨od,J,_⟩:=O.look
  exact PySem.W.kia_one (PySem.W.kitx_own (cl.get _) cl.hd ha hn htk hm) I.kIn J e (λz=>nomatch z) h
end
structure Room (k:Nat) (A:Around):Prop where
 hd:A.handled=none
 dp:A.depth+3 * k+5<recursionLimit
 un:A.units+16 * k+200<cLine
 gd:A.guards=some []
theorem Room.mono {j k:Nat}{A:Around}(r:Room k A) (h:j<=k):Room j A:=⟨r.hd,by have:=r.dp;omega,by have:=r.un;omega,r.gd⟩
theorem Room.m {j k:Nat} {A:Around} (r:Room k A) (h:j<=k:=by decide):Room j A:=r.mono h
theorem Room.deeper {k:Nat}{A:Around}(r:Room (k+1) A) (env:Env):Room k (A.deeper env) :=
 ⟨r.hd,by have:=r.dp;show A.depth+1+3 * k+5<_;omega,by have:=r.un;show A.units+3+16 * k+200<_;omega,r.gd⟩
theorem Room.in1 {k:Nat}{A:Around}(r:Room (k+1) A):Room k A.in1 :=
 ⟨r.hd,by have:=r.dp;show A.depth+3 * k+5<_;omega,by have:=r.un;show A.units+1+16 * k+200<_;omega,r.gd⟩
theorem uP {A:Around}{C:Addr}{us:List Value}{kw:List (Str×Value)}:(A.under (.builtin "type.__call__" ⟨.ref C::us,kw⟩)).depth=A.depth+1:=by
 first|rfl|simp [Around.under,Code.weight,Code.isCreation,Code.isGuard,Code.isCaller,Code.frames,Code.isFrame,guardIds]
theorem uQ {A:Around}{C:Addr}{us:List Value}{kw:List (Str×Value)}:(A.under (.builtin "type.__call__" ⟨.ref C::us,kw⟩)).units=A.units+1:=by
 first|rfl|simp [Around.under,Code.cUnits,Code.frames,Code.isFrame]
theorem uD {A:Around}{C:Addr}{us:List Value}{kw:List (Str×Value)}:(A.under (.builtin "type.__call__" ⟨.ref C::us,kw⟩)).guards=A.guards:=by
 first|rfl|simp [Around.under,Code.isGuard,guardIds]
theorem Room.make {k:Nat}{A:Around}(r:Room (k+1) A) (C:Addr) (us:List Value) (kw:List (Str×Value)):Room k (A.under (.builtin "type.__call__" ⟨.ref C::us,kw⟩)) :=
 ⟨r.hd,by have:=r.dp;rw [uP];omega,by have:=r.un;rw [uQ];omega,by rw [uD];exact r.gd⟩
theorem Room.depth {k:Nat}{A:Around}(r:Room k A):A.depth<recursionLimit:=by have:=r.dp;omega
theorem Room.units {k:Nat}{A:Around}(r:Room k A):A.units+64<cLine:=by have:=r.un;omega
def cY:TA:=λ_ H Q=>Q [] H
def i8 (ta:TE) (tr:TA):TA:=λσ H Q=>ta σ H λx H1=>tr σ H1 λxs H2=>Q (x::xs) H2
section
variable {X:Cx}{e:Expr}{es:List Expr}{te:TE}{t:TA}{pos:Pos}
theorem qc:PA X [] cY:=λ_ _ _ _ H Q I h=>Calls.spliced_nil ⟨[],H,I,.nil,h⟩
theorem pi (ha:PE X e te) (hr:PA X es t) (hs:starEach (e::es) X.env=(false,eval e X.env)::starEach es X.env:=by rfl):PA X (e::es) (i8 te t):=by
 intro pos pins s σ H Q I h
 rw [hs]
 show wpAny _ _ (spliced ((false,eval e X.env)::backTo pos (starEach es X.env))) _ _ s
 refine Calls.spliced_cons (thn (ha pins s σ H _ I h) λu s1 zz27=>?_)
 obtain ⟨x,H1,I1,r1,q1⟩:=zz27
 exact thn (hr pos pins s1 σ H1 _ I1 q1) λus s2 zz28=>by obtain ⟨xs,H2,I2,r2,q2⟩:=zz28;exact ⟨x::xs,H2,I2,.cons r1 r2,q2⟩
def EY (t:TA):TE:=λσ H Q=>t σ H λxs H1=>xs.length<=sizeLine/\∀ p,H1 p=none->Q (.ref p) (upd H1 p (.tup xs))
def EZ (t:TA):TE:=λσ H Q=>t σ H λxs H1=>xs.length<=sizeLine/\∀ p,H1 p=none->Q (.ref p) (upd H1 p (.lst xs))
theorem AH {x1}(h:PA X es t):PE X (.Tuple es x1 pos) (EY t):=by
 intro pins s σ H Q I hq
 refine wpAny_Tuple_spliced (thn (h pos pins s σ H _ I hq) λus s1 ⟨xs,H1,I1,r,z,q⟩=>⟨by rw [<- r.length];exact z,?_⟩)
 have hf:H1 s1.heap.objs.size=none:=I1.hok.fresh (Nat.le_refl _)
 refine ⟨.ref s1.heap.objs.size,upd H1 s1.heap.objs.size (.tup xs),I1.laid (t':=s1.toks) (λb u e=>Heap.get?_push_of_some _ e) (Nat.le_refl _) ?_,rfl,q _ hf⟩
 exact ⟨z,us,r,⟨_,Heap.get?_push_size _ rfl,rfl,_,rfl⟩⟩
theorem qd (h:PA X es t):PE X (.List es pos) (EZ t):=by
 intro pins s σ H Q I hq
 refine wpAny_List_spliced (thn (h pos pins s σ H _ I hq) λus s1 ⟨xs,H1,I1,r,z,q⟩=>⟨by rw [<- r.length];exact z,?_⟩)
 have hf:H1 s1.heap.objs.size=none:=I1.hok.fresh (Nat.le_refl _)
 refine ⟨.ref s1.heap.objs.size,upd H1 s1.heap.objs.size (.lst xs),I1.laid (t':=s1.toks) (λb u e=>Heap.get?_push_of_some _ e) (Nat.le_refl _) ?_,rfl,q _ hf⟩
 exact ⟨z,us,0,r,Heap.get?_push_size _ rfl⟩
end
abbrev Sp:=List V->Hp->VK->XK->Prop
abbrev CXT:=List Env->Hp->Shared->XK->Value->Shared->Prop
structure Env0 (P:Program) (w:World) (K:PySem.W.Frag) (mg:Str->Option Value) (base:Heap) (A:Around) (outer:List Env) (s:Shared) (H:Hp):Prop where
 frames:A.frames=some outer
 mod:Mod K mg base
 bs:∀ b o,base.get? b=some o->s.heap.get? b=some o/\H b=none
 bsz:base.objs.size<=s.heap.objs.size
 funs:s.heap.FunFrames base outer
 frf:∀ b∈frs outer,H b=none
 hok:HOk P w H s.heap
 bare:AllBare s.gens
def CE (outer:List Env) (P:Program) (w:World) (H:Hp) (s:Shared) (Q:VK) (u:Value) (s':Shared):Prop :=
 ∃ v H',s'.os=s.os/\AllBare s'.gens/\Un (frs outer) [] H H' s.heap s'.heap/\HOk P w H' s'.heap/\ak v u/\Q v H'
def CR (CX:CXT) (outer:List Env) (P:Program) (w:World) (H:Hp) (s:Shared) (Q:VK) (E:XK) (r:Result) (s':Shared):Prop :=
 match r with
 |.ok (.ret u)=>CE outer P w H s Q u s'
 |.ok _=>False
 |.error e=>CX outer H s E e s'
structure FnOk (P:Program) (w:World) (K:PySem.W.Frag) (mg:Str->Option Value) (base:Heap) (CX:CXT) (k:Nat) (f:Addr) (fd:FuncData) (ps:List Str) (sp:Sp):Prop where
 len:∀ vs H Q E,sp vs H Q E->vs.length=ps.length
 run:∀ (A:Around) (outer:List Env) (s:Shared) (H:Hp) (args:Args) (us:List Value) (vs:List V) (Q:VK) (E:XK),Room k A->Env0 P w K mg base A outer s H->BindsTo s fd args (ps.zip us)->ai vs us->sp vs H Q E ->
  codeAny (model P w) A (.call (.ref f) args) (CR CX outer P w H s Q E) s
theorem FnOk.mono {P:Program}{w:World}{K:PySem.W.Frag}{mg:Str->Option Value}{base:Heap}{CX:CXT}{j k:Nat}{f:Addr}{fd:FuncData}{ps:List Str}{sp:Sp}(F:FnOk P w K mg base CX j f fd ps sp) (h:j<=k) :
  FnOk P w K mg base CX k f fd ps sp:=⟨F.len,λA outer s H args us vs Q E hr=>F.run A outer s H args us vs Q E (hr.mono h)⟩
theorem FnOk.imp {P:Program}{w:World}{K:PySem.W.Frag}{mg:Str->Option Value}{base:Heap}{CX:CXT}{k:Nat}{f:Addr}{fd:FuncData}{ps:List Str}{sp sp':Sp}(F:FnOk P w K mg base CX k f fd ps sp)
  (h:∀ vs H Q E,sp' vs H Q E->sp vs H Q E):FnOk P w K mg base CX k f fd ps sp' :=
 ⟨λvs H Q E q=>F.len vs H Q E (h _ _ _ _ q),λA outer s H args us vs Q E hr he hb hv hs=>F.run A outer s H args us vs Q E hr he hb hv (h _ _ _ _ hs)⟩
theorem Env0.make {P:Program}{w:World}{K:PySem.W.Frag}{mg:Str->Option Value}{base:Heap}{A:Around}{outer:List Env}{s:Shared}{H:Hp}(e:Env0 P w K mg base A outer s H) (C:Addr) (us:List Value) (kw:List (Str×Value)) :
  Env0 P w K mg base (A.under (.builtin "type.__call__" ⟨.ref C::us,kw⟩)) outer s H:=⟨by first|exact e.frames|(simpa [Around.under,Code.envs,Code.isFrame,pushEnvs] using e.frames),e.mod,e.bs,e.bsz,e.funs,e.frf,e.hok,e.bare⟩
theorem Env0.in1 {P:Program}{w:World}{K:PySem.W.Frag}{mg:Str->Option Value}{base:Heap}{A:Around}{outer:List Env}{s:Shared}{H:Hp}(e:Env0 P w K mg base A outer s H) :
  Env0 P w K mg base A.in1 outer s H:=⟨e.frames,e.mod,e.bs,e.bsz,e.funs,e.frf,e.hok,e.bare⟩
section
variable {X:Cx}{pins:List (Addr×Obj)}{σ:St}{H:Hp}{s s':Shared}
theorem Inv.env0 (I:Inv X pins σ H s):Env0 X.prog X.w X.K X.mg X.base X.A X.stack s H :=
 ⟨I.ok.frames,I.ok.mod,I.bs,Nat.le_trans I.ok.bsz I.sz,I.stack,I.stkFree,I.hok,I.bare⟩
theorem Inv.after {Q:VK}{u:Value}(I:Inv X pins σ H s) (h:CE X.stack X.prog X.w H s Q u s'):EP X pins σ Q u s':=by
 obtain ⟨v,H',os,bare,un,hok,r,q⟩:=h
 obtain ⟨hh,g,d,t,os'⟩:=s'
 obtain rfl:os'=s.os:=os
 exact ⟨v,H',I.call (h':=hh) (g':=g) (d':=d) (t':=t) (ch:=[]) un hok bare (λb z=>absurd z (by simp)),r,q⟩
end
def i9 (sp:Sp) (dvs:List V) (E:XK) (t:TA):TE:=λσ H Q=>t σ H λvs H1=>sp (vs++dvs) H1 Q E
def rN (C:Addr) (sp:Sp) (dvs:List V) (E:XK) (t:TA):TE:=λσ H Q=>t σ H λvs H1=>∀ x dx,H1 x=none->H1 dx=none->dx≠x ->
 sp (.ref x::(vs++dvs)) (upd (upd H1 dx (.own x)) x (.ins C dx [])) (λv H2=>v=.non/\Q (.ref x) H2) E
def aq (K:PySem.W.Frag) (fd:FuncData) (ps:List Str) (ds:List Value):Prop :=
 ∀ (s:Shared) (us:List Value),K.In s.heap->(us++ds).length=ps.length->BindsTo s fd ⟨us,[]⟩ (ps.zip (us++ds))
theorem aq.all {K:PySem.W.Frag}{fd:FuncData}{ps:List Str}(h:∀ us:List Value,us.length=ps.length->bindArgs fd ⟨us,[]⟩=pure (ps.zip us)):aq K fd ps []:=λs us _ hl=>by
 rw [List.append_nil] at hl ⊢
 exact .of_eq (h us hl)
def cS (CX:CXT) (X:Cx) (E:XK):Prop:=∀ (pins:List (Addr×Obj)) (σ:St) (H:Hp) (s:Shared) (e:Value) (s':Shared),Inv X pins σ H s->CX X.stack H s E e s'->X.xe e s'
section
variable {X:Cx}{CX:CXT}{k:Nat}{f C:Addr}{fd:FuncData}{ps:List Str}{sp:Sp}{dvs:List V}{ds:List Value}{E:XK}{x m:Str}{p pos apos:Pos}{e o:Expr}{es:List Expr}{ta:TE}{t:TA}
theorem kU {pins:List (Addr×Obj)}{σ:St}{H:Hp}{s:Shared}{Q:VK}{us:List Value}{vs:List V}(F:FnOk X.prog X.w X.K X.mg X.base CX k f fd ps sp) (hr:Room k X.A) (hb:aq X.K fd ps ds) (hd:ai dvs ds) (hx:cS CX X E)
  (I:Inv X pins σ H s) (r:ai vs us) (h:sp (vs++dvs) H Q E):wpAny (model X.prog X.w) X.A (call (.ref f) us) (EP X pins σ Q) X.xe s:=by
 have r2:ai (vs++dvs) (us++ds):=r.append hd
 have hl:(us++ds).length=ps.length:=by rw [<- r2.length];exact F.len _ _ _ _ h
 refine wpAny_call (codeAny_mono (F.run X.A X.stack s H ⟨us,[]⟩ (us++ds) (vs++dvs) Q E hr I.env0 (hb s us I.kIn hl) r2 h) λr s' hq=>?_)
 cases r with
 |error e=>exact hx pins σ H s e s' I hq
 |ok fl =>
  cases fl with
  |ret u=>exact I.after hq
  |next=>exact False.elim hq
  |brk=>exact False.elim hq
  |cont=>exact False.elim hq
theorem yi (F:FnOk X.prog X.w X.K X.mg X.base CX k f fd ps sp) (hr:Room k X.A) (hg:Gl X x) (hm:X.mg x=some (.ref f)) (hk:PySem.W.keepIn X.K (.ref f)=true) (hb:aq X.K fd ps ds) (hd:ai dvs ds) (hx:cS CX X E)
  (ha:PA X (e::es) t) (hdb:(x==("__debug__":Str))=false:=by decide) (he:starEach (e::es) X.env=(false,eval e X.env)::starEach es X.env:=by rfl) (hpl:(backTo pos (starEach es X.env)).any (·.1)=false:=by rfl) :
  PE X (.Call (.Name x p) (e::es) [] pos) (i9 sp dvs E t):=by
 intro pins s σ H Q I h
 refine wpAny_Call_Name_kw (da I hg hm ?_ hdb)
 refine PySem.W.callWith_K (h₀:=X.base) I.ok.mod.kin hk (thn (ha pos pins s σ H _ I h) λus s1 ⟨vs,H1,I1,r,q⟩=>⟨I1.kIn,?_⟩) he hpl
 exact kU F hr hb hd hx I1 r q
structure Mk (K:PySem.W.Frag) (C f:Addr):Prop where
 makes:PySem.W.makesIn K C=true
 init:PySem.W.findIn K (.ref C) "__init__"=some (some (.ref f))
 fn:PySem.W.isFn K (.ref f)=true
 kp:PySem.W.keepIn K (.ref C)=true
theorem wG {pins:List (Addr×Obj)}{σ:St}{H:Hp}{s:Shared}{Q:VK}{us:List Value}{vs:List V}(M:Mk X.K C f) (F:FnOk X.prog X.w X.K X.mg X.base CX k f fd ps sp) (hr:Room (k+1) X.A) (hb:aq X.K fd ps ds) (hd:ai dvs ds)
  (hx:cS CX X E) (I:Inv X pins σ H s) (r:ai vs us)
  (h:∀ x dx,H x=none->H dx=none->dx≠x->sp (.ref x::(vs++dvs)) (upd (upd H dx (.own x)) x (.ins C dx [])) (λv H2=>v=.non/\Q (.ref x) H2) E) :
  wpAny (model X.prog X.w) X.A (call (.ref C) us) (EP X pins σ Q) X.xe s:=by
 have hq:=h (s.heap.objs.size+1) s.heap.objs.size (I.hok.fresh (Nat.le_succ _)) (I.hok.fresh (Nat.le_refl _)) (Nat.ne_of_lt (Nat.lt_succ_self _))
 have I2:=Inv.made (C:=C) I
 have r2:ai (V.ref (s.heap.objs.size+1)::(vs++dvs)) (Value.ref (s.heap.objs.size+1)::(us++ds)):=.cons rfl (r.append hd)
 have hl:(Value.ref (s.heap.objs.size+1)::us++ds).length=ps.length:=by
  have e:=r2.length
  rw [F.len _ _ _ _ hq] at e
  exact e.symm
 refine wpAny_call (wF (f:=f) I.kIn M.makes M.init (beq_iff_eq.mp M.fn) (codeAny_mono (F.run _ X.stack _ _ ⟨Value.ref (s.heap.objs.size+1)::us,[]⟩ (Value.ref (s.heap.objs.size+1)::(us++ds)) _ _ E (hr.make C us [])
  (I2.env0.make C us []) (hb _ (Value.ref (s.heap.objs.size+1)::us) I2.kIn hl) r2 hq) λr s' hq'=>?_))
 cases r with
 |error e=>exact hx pins σ _ _ e s' I2 hq'
 |ok fl =>
  cases fl with
  |ret u =>
   obtain ⟨v,H',I3,rv,ev,q3⟩:=I2.after hq'
   subst ev
   exact ⟨rv,⟨V.ref (s.heap.objs.size+1),H',I3,rfl,q3⟩⟩
  |next=>exact False.elim hq'
  |brk=>exact False.elim hq'
  |cont=>exact False.elim hq'
theorem wH (M:Mk X.K C f) (F:FnOk X.prog X.w X.K X.mg X.base CX k f fd ps sp) (hr:Room (k+1) X.A) (hg:Gl X x) (hm:X.mg x=some (.ref C)) (hb:aq X.K fd ps ds) (hd:ai dvs ds) (hx:cS CX X E)
  (hdb:(x==("__debug__":Str))=false:=by decide):PE X (.Call (.Name x p) [] [] pos) (rN C sp dvs E cY):=by
 intro pins s σ H Q I h
 refine wpAny_Call_Name_kw (da I hg hm ?_ hdb)
 exact PySem.W.callWith_K0 I.kIn M.kp (wG (us:=[]) M F hr hb hd hx I .nil h)
end
def PK (X:Cx) (kws:List Keyword) (t:TA):Prop :=
 ∀ (pos:Pos) (pins:List (Addr×Obj)) (s:Shared) (σ:St) (H:Hp) (Q:List V->Hp->Prop),Inv X pins σ H s->t σ H Q->wpAny (model X.prog X.w) X.A (evalAll ((backToKw pos (keywordEach kws X.env)).map (·.2))) (AP X pins σ Q) X.xe s
section
variable {X:Cx}{CX:CXT}{k:Nat}{f C:Addr}{fd:FuncData}{ps ks:List Str}{sp:Sp}{E:XK}{x m:Str}{p pos apos kpos:Pos}{e o:Expr}{es:List Expr}{kws:List Keyword}{te ta:TE}{t tk:TA}{nm:Option Str}
theorem qe:PK X [] cY:=λ_ _ _ _ H Q I h=>wpAny_evalAll_nil ⟨[],H,I,.nil,h⟩
theorem pj (ha:PE X e te) (hr:PK X kws t):PK X (⟨nm,e,kpos⟩::kws) (i8 te t):=by
 intro pos pins s σ H Q I h
 show wpAny _ _ (evalAll ((do let v <- eval e X.env;standAt pos;pure v)::(backToKw pos (keywordEach kws X.env)).map (·.2))) _ _ s
 refine wpAny_evalAll_cons (wpAny_bind (thn (ha pins s σ H _ I h) λu s1 zz29=>?_))
 obtain ⟨x,H1,I1,r1,q1⟩:=zz29
 refine wpAny_bind (wpAny_standAt (wpAny_pure ?_))
 exact thn (hr pos pins s1 σ H1 _ I1 q1) λus s2 zz30=>by obtain ⟨xs,H2,I2,r2,q2⟩:=zz30;exact ⟨x::xs,H2,I2,.cons r1 r2,q2⟩
structure KBinds (K:PySem.W.Frag) (fd:FuncData) (ps ks:List Str) (g:List Value->List Value->List Value) (gV:List V->List V->List V):Prop where
 to:∀ (s:Shared) (us ws:List Value),K.In s.heap->(g us ws).length=ps.length->BindsTo s fd ⟨us,ks.zip ws⟩ (ps.zip (g us ws))
 rel:∀ {vs:List V}{us:List Value}{zs:List V}{ws:List Value},ai vs us->ai zs ws->ai (gV vs zs) (g us ws)
variable {g:List Value->List Value->List Value}{gV:List V->List V->List V}
end
structure FnScope (N P:List Str) (sc:Scope):Prop where
 kind:sc.kind=.function
 co:sc.isCoroutine=false
 gen:sc.isGenerator=false
 nd:N.Nodup
 pre:N.take P.length=P
 par:∀ x∈P,sc.names.lookup x=some .local\/sc.names.lookup x=some .cell
 nofree:∀ y∈sc.names,y.2≠.free
theorem nY {kindOf:Str->Option NameKind}{x:Str}:∀ {binds:List (Str×Value)}{m:Str->Option Value},(∀ v,(x,v)∉binds)->bindL kindOf binds m x=m x
 |[],_,_=>rfl
 |(n,v)::r,m,h=>by
  unfold bindL
  rw [nY λw hw=>h w (List.mem_cons_of_mem _ hw)]
  split
  ·have:x≠n:=by rintro rfl;exact h v List.mem_cons_self
   simp [this]
  ·rfl
theorem nZ {kindOf:Str->Option NameKind}{x:Str}:∀ {binds:List (Str×Value)}{m:Str->Option Value},(∀ v,(x,v)∉binds)->bindC kindOf binds m x=m x
 |[],_,_=>rfl
 |(n,v)::r,m,h=>by
  unfold bindC
  rw [nZ λw hw=>h w (List.mem_cons_of_mem _ hw)]
  split
  ·rfl
  ·have:x≠n:=by rintro rfl;exact h v List.mem_cons_self
   simp [this]
theorem jQ {kindOf:Str->Option NameKind}{x:Str}{v:Value}:∀ {P:List Str}{vs:List Value}{i:Nat}{m:Str->Option Value},P.Nodup->P[i]?=some x->vs[i]?=some v->kindOf x=some .local ->
  bindL kindOf (P.zip vs) m x=some v
 |[],_,_,_,_,h,_,_=>by simp at h
 |_::_,[],_,_,_,_,h,_=>by simp at h
 |p::P,w::vs,0,m,nd,h1,h2,hk=>by
  simp at h1 h2;subst h1;subst h2
  show bindL kindOf ((p,w)::P.zip vs) m p=_
  unfold bindL
  rw [nY λv hv=>(List.nodup_cons.mp nd).1 (List.of_mem_zip hv).1,if_pos hk]
  simp
 |p::P,w::vs,i+1,m,nd,h1,h2,hk=>by
  show bindL kindOf ((p,w)::P.zip vs) m x=_
  unfold bindL
  exact jQ (i:=i) (List.nodup_cons.mp nd).2 (by simpa using h1) (by simpa using h2) hk
theorem jR {kindOf:Str->Option NameKind}{x:Str}{v:Value}:∀ {P:List Str}{vs:List Value}{i:Nat}{m:Str->Option Value},P.Nodup->P[i]?=some x->vs[i]?=some v->kindOf x≠some .local ->
  bindC kindOf (P.zip vs) m x=some v
 |[],_,_,_,_,h,_,_=>by simp at h
 |_::_,[],_,_,_,_,h,_=>by simp at h
 |p::P,w::vs,0,m,nd,h1,h2,hk=>by
  simp at h1 h2;subst h1;subst h2
  show bindC kindOf ((p,w)::P.zip vs) m p=_
  unfold bindC
  rw [nZ λv hv=>(List.nodup_cons.mp nd).1 (List.of_mem_zip hv).1,if_neg hk]
  simp
 |p::P,w::vs,i+1,m,nd,h1,h2,hk=>by
  show bindC kindOf ((p,w)::P.zip vs) m x=_
  unfold bindC
  exact jR (i:=i) (List.nodup_cons.mp nd).2 (by simpa using h1) (by simpa using h2) hk
def aY (N:List Str) (vs:List V):St:=vs.map some++List.replicate (N.length - vs.length) none
def cf (CX:CXT) (P:Program) (w:World) (K:PySem.W.Frag) (mg:Str->Option Value) (base:Heap) (N:List Str) (qual:Str) (scope:Scope) (f:Addr) (cd:Value) (A:Around) (outer:List Env) (s:Shared) (H:Hp) (E:XK):Cx where
 prog:=P
 w:=w
 K:=K
 mg:=mg
 base:=base
 A:=A.deeper (envOfC qual scope s.heap.objs.size f cd)
 N:=N
 s₀:=s
 H₀:=H
 env:=envOfC qual scope s.heap.objs.size f cd
 outer:=outer
 stack:=envOfC qual scope s.heap.objs.size f cd::outer
 ex:=[]
 calm:=true
 fn:=λ_=>true
 pn:=[]
 xe:=λe s'=>wpAny (model P w) (A.deeper (envOfC qual scope s.heap.objs.size f cd)) (leaving (envOfC qual scope s.heap.objs.size f cd) e) (λ_ s''=>CX outer H s E e s'') (λe' s''=>CX outer H s E e' s'') s'
theorem iB {sc:Scope}{n:Nat}{x:Str}(h:sc.names.lookup x=some .cell):∃ c,(cellsFrom n sc.names []).lookup x=some c:=by
 have q:=PySem.W.cellsFrom_some sc.names n [] (.inl h)
 exact Option.isSome_iff_exists.mp q
theorem vp {CX:CXT}{P:Program}{w:World}{K:PySem.W.Frag}{mg:Str->Option Value}{base:Heap}{N ps:List Str}{qual:Str}{scope:Scope}{f:Addr}{cd:Value}{A:Around}{outer:List Env}{s s1:Shared}{H:Hp}{E:XK}{us:List Value}{vs:List V}
  (S:FnScope N ps scope) (hd:A.handled=none) (e0:Env0 P w K mg base A outer s H) (hl:vs.length=ps.length) (r:ai vs us)
  (x:InCallC s s.heap.objs.size (bindL (envOfC qual scope s.heap.objs.size f cd).kindOf (ps.zip us) λ_=>none) (cellsFrom (s.heap.objs.size+1) scope.names []) (bindC (envOfC qual scope s.heap.objs.size f cd).kindOf (ps.zip us) λ_=>none) s1) :
  Inv (cf CX P w K mg base N qual scope f cd A outer s H E) [] (aY N vs) H s1:=by
 have hpl:ps.length<=N.length:=by have:=congrArg List.length S.pre;rw [List.length_take] at this;omega
 obtain ⟨h1,tk,rfl,hk⟩:=x.done
 have noA:∀ b:Addr,b∉(cf CX P w K mg base N qual scope f cd A outer s H E).ex:=λb z=>absurd (show b∈([]:List Addr) from z) (by simp)
 refine ⟨⟨e0.mod,S.kind,rfl,rfl,Nat.le_refl _,λy z c h1 h2=>?_,λy hy=>?_,λy c _ h=>?_,λ_=>hd,Around.frames_deeper e0.frames,.inr ⟨rfl,rfl⟩,λb z=>absurd z (noA b),e0.bs,e0.bsz,λb _ _=>noA b,λb z=>absurd z (noA b),e0.funs,e0.frf⟩,
  rfl,e0.bare,Un.kept hk,⟨_,x.toInCall.ns,λi y v h1 h2 h3=>?_⟩,λy c h=>⟨_,x.cell y c h⟩,e0.hok.fresh (Nat.le_refl _),λy c h=>?_,λp hp=>absurd (show p∈([]:List (Addr×Obj)) from hp) (by simp),e0.hok.kept hk,?_⟩
 ·exact name_of_addr x.apart (PySem.mem_of_lookup h1) (PySem.mem_of_lookup h2)
 ·have hy:scope.names.lookup y=some .cell\/scope.names.lookup y=some .free:=hy
  rcases hy with hy|hy
  ·exact iB hy
  ·exact absurd rfl (S.nofree _ (PySem.mem_of_lookup hy))
 ·exact Nat.le_of_lt (x.above y c (PySem.mem_of_lookup h))
 ·have hi:i<vs.length:=by
   unfold aY at h2
   by_cases hi:i<vs.length
   ·exact hi
   ·rw [List.getElem?_append_right (by simpa using hi)] at h2
    rw [List.getElem?_replicate] at h2
    split at h2<;>cases h2
  have ha:vs[i]?=some v:=by
   unfold aY at h2
   rw [List.getElem?_append_left (by simpa using hi),List.getElem?_map] at h2
   cases e:vs[i]? with
   |none=>rw [e] at h2;cases h2
   |some a=>rw [e] at h2;cases h2;rfl
  obtain ⟨u,hu,rv⟩:=r.get ha
  have hp:ps[i]?=some y:=by
   rw [<- S.pre,List.getElem?_take_of_lt (by omega)];exact h1
  have ndP:ps.Nodup:=by rw [<- S.pre];exact S.nd.sublist (List.take_sublist _ _)
  refine ⟨u,rv,?_⟩
  rcases S.par y (List.mem_of_getElem? hp) with k|k
  ·exact .inl ⟨k,jQ ndP hp hu k⟩
  ·obtain ⟨c,e⟩:=iB (n:=s.heap.objs.size+1) k
   refine .inr ⟨.inl k,c,e,?_⟩
   have q:=x.cell y c e
   rw [jR ndP hp hu (by show scope.names.lookup y≠_;rw [k];decide)] at q
   exact q
 ·exact e0.hok.fresh (Nat.le_of_lt (x.above y c (PySem.mem_of_lookup h)))
 ·unfold aY
  show _=N.length
  rw [List.length_append,List.length_map,List.length_replicate]
  omega
theorem lD {CX:CXT}{P:Program}{w:World}{K:PySem.W.Frag}{mg:Str->Option Value}{base:Heap}{k:Nat}{f:Addr}{name qual:Str}{params:Arguments}{body:List Stmt}{scope:Scope}{dV kV doc pm cdv ct oc:Value}{an od:Option Addr}
  {osl:Array (Option Value)}{N ps:List Str}{sp:Sp}(lk:K.lookup f=some ⟨oc,od,.func (PySem.W.fnOf name qual params body scope dV kV doc pm an cdv ct),osl⟩) (hcd:PySem.W.codeIn K cdv qual=true) (S:FnScope N ps scope)
  (len:∀ vs H Q E,sp vs H Q E->vs.length=ps.length)
  (hbody:∀ (A:Around) (outer:List Env) (s:Shared) (H:Hp) (vs:List V) (Q:VK) (E:XK),Room k (A.deeper (envOfC qual scope s.heap.objs.size f cdv))->sp vs H Q E ->
   ∃ t,PSs (cf CX P w K mg base N qual scope f cdv A outer s H E) body t/\t { nx:=λ_ H'=>Q .non H',rt:=Q } (aY N vs) H) :
  FnOk P w K mg base CX (k+1) f (PySem.W.fnOf name qual params body scope dV kV doc pm an cdv ct) ps sp:=by
 refine ⟨len,λA outer s H args us vs Q E hr e0 hb r hsp=>?_⟩
 have hl:=len _ _ _ _ hsp
 have KX:K.In s.heap:=e0.mod.kin.keeps λb o e=>(e0.bs b o e).1
 have lim:s.heap.NoLimit:=e0.mod.nolimit.keeps λb o e=>(e0.bs b o e).1
 have hkind:∀ y∈ps.zip us,scope.names.lookup y.1=some .local\/(scope.names.lookup y.1=some .cell/\((cellsFrom (s.heap.objs.size+1) scope.names []).lookup y.1).isSome=true):=λzz31 hy=>by
  obtain ⟨n,v⟩:=zz31
  rcases S.par n (List.of_mem_zip hy).1 with q|q
  ·exact .inl q
  ·exact .inr ⟨q,PySem.W.cellsFrom_some _ _ _ (.inl q)⟩
 refine codeAny_call_function hr.depth (KX _ _ lk) rfl S.co S.gen rfl (PySem.W.codeRec_of KX hcd) (hb _ _ _ _ ?_)
 refine wpAny_newFunctionEnv_cells S.kind hkind λenv he s1 x=>?_
 subst he
 refine ⟨lim.keeps x.toInCall.keep,codeAny_func ?_⟩
 obtain ⟨t,ht,hq⟩:=hbody A outer s H vs Q E (hr.deeper _) hsp
 have I:Inv (cf CX P w K mg base N qual scope f cdv A outer s H E) [] (aY N vs) H s1:=vp S hr.hd e0 hl r x
 refine wpAny_mono (ht [] s1 (aY N vs) H _ I hq) (λfl s' hs=>?_) λe s' hs=>hs
 have fin:∀ {σ':St}{H':Hp}{v:V}{u:Value},Inv (cf CX P w K mg base N qual scope f cdv A outer s H E) [] σ' H' s'->ak v u->Q v H'->CE outer P w H s Q u s' :=
  fun {σ' H' v u} J rv q=>⟨v,H',J.os,J.bare,J.base,J.hok,rv,q⟩
 cases fl with
 |ret u =>
  obtain ⟨v,σ',H',J,rv,q⟩:=hs
  exact fin J rv q
 |next =>
  obtain ⟨σ',H',J,q⟩:=hs
  exact fin (v:=V.non) (u:=Value.none) J rfl q
 |brk =>
  obtain ⟨_,_,_,q⟩:=hs
  exact False.elim q
 |cont =>
  obtain ⟨_,_,_,q⟩:=hs
  exact False.elim q
section
variable {X:Cx}{x:Str}{p pos:Pos}{e:Expr}{es:List Expr}{t:TA}{id T:String}{r:List V->Hp->VK->Prop}
def tCB (r:List V->Hp->VK->Prop) (t:TA):TE:=λσ H Q=>t σ H λvs H1=>r vs H1 Q
theorem wI (hc:bu X (.builtin id) r) (hg:Gl X x) (hm:X.mg x=none) (hv:bootBuiltins x=some (.builtin id)) (ha:PA X (e::es) t) (hn:x ≠ "__name__":=by decide) (hdb:(x==("__debug__":Str))=false:=by decide)
  (he:starEach (e::es) X.env=(false,eval e X.env)::starEach es X.env:=by rfl) (hpl:(backTo pos (starEach es X.env)).any (·.1)=false:=by rfl):PE X (.Call (.Name x p) (e::es) [] pos) (tCB r t):=by
 intro pins s σ H Q I h
 refine wpAny_Call_Name_kw (gc I hg hm hv ?_ hn hdb)
 exact PyProof.Rows.callWith_builtin1 (thn (ha pos pins s σ H _ I h) λus s1 zz32=>by obtain ⟨vs,H1,I1,r1,q1⟩:=zz32;exact hc pins s1 σ H1 vs us Q I1 r1 q1) he hpl
theorem vq (hc:bu X (.type T) r) (hg:Gl X x) (hm:X.mg x=none) (hv:bootBuiltins x=some (.type T)) (ha:PA X (e::es) t) (hn:x ≠ "__name__":=by decide) (hdb:(x==("__debug__":Str))=false:=by decide)
  (he:starEach (e::es) X.env=(false,eval e X.env)::starEach es X.env:=by rfl) (hpl:(backTo pos (starEach es X.env)).any (·.1)=false:=by rfl):PE X (.Call (.Name x p) (e::es) [] pos) (tCB r t):=by
 intro pins s σ H Q I h
 refine wpAny_Call_Name_kw (gc I hg hm hv ?_ hn hdb)
 exact PyProof.Rows.callWith_type1 (thn (ha pos pins s σ H _ I h) λus s1 zz33=>by obtain ⟨vs,H1,I1,r1,q1⟩:=zz33;exact hc pins s1 σ H1 vs us Q I1 r1 q1) he hpl
end
end L2
namespace HT
open PySem PyProof.Rows
section
open PySem.SeqAt
open PySem.AutoSeq1 (wpAny_loadPart')
open PySem.MeetsSeq PySem.MeetsSeq2 PySem.MeetsSeq3
end
section
variable {prog:Program}{w:World}{A:Around}{E:Value->Shared->Prop}{s:Shared}
def sIx (n d:Nat):Option Int->Nat
 |none=>d
 |some v=>if v<0 then (v+(n:Int)).toNat else min v.toNat n
theorem sIx_none (n d:Nat):sIx n d none=d:=rfl
theorem sIx_nat (n d k:Nat):sIx n d (some (k:Int))=min k n:=by
 show (if (k:Int)<0 then ((k:Int)+(n:Int)).toNat else min (k:Int).toNat n)=min k n
 rw [if_neg (by omega),Int.toNat_natCast]
end
end HT
namespace L2
open PySem PySem.Spec PyProof.Rows
abbrev TO:=St->Hp->(Option Int->Hp->Prop)->Prop
def PO (X:Cx) (e:Option Expr) (t:TO):Prop :=
 ∀ (pins:List (Addr×Obj)) (s:Shared) (σ:St) (H:Hp) (Q:Option Int->Hp->Prop),Inv X pins σ H s->t σ H Q ->
  wpAny (model X.prog X.w) X.A (evalPart e X.env) (λu s'=>∃ o H',Inv X pins σ H' s'/\IsPart u o/\Q o H') X.xe s
def yj:TO:=λ_ H Q=>Q none H
def C0 (t:TE):TO:=λσ H Q=>t σ H λx H1=>∃ i,x=.int i/\Q (some i) H1
section
variable {X:Cx}{e:Expr}{te:TE}{lo hi:Option Expr}{tl th:TO}{pos p2:Pos}
theorem yk:PO X none yj:=by
 intro pins s σ H Q I h
 rw [evalPart_none]
 exact wpAny_pure ⟨none,H,I,.none,h⟩
theorem yl (h:PE X e te):PO X (some e) (C0 te):=by
 intro pins s σ H Q I hw
 rw [evalPart_some]
 refine thn (h pins s σ H _ I hw) λu s1 zz34=>?_
 obtain ⟨x,H1,I1,r1,q1⟩:=zz34
 obtain ⟨i,rfl,q⟩:=q1
 obtain ⟨t,rfl⟩:=r1
 exact ⟨some i,H1,I1,.int i t,q⟩
def SlR (X:Cx) (r:V->Option Int->Option Int->Hp->VK->Prop):Prop :=
 ∀ (pins:List (Addr×Obj)) (s:Shared) (σ:St) (H:Hp) (x:V) (v vl vu:Value) (lo hi:Option Int) (sl:Addr) (Q:VK),Inv X pins σ H s->ak x v->s.heap.IsSliceOf sl vl vu .none->IsPart vl lo->IsPart vu hi->r x lo hi H Q ->
  ∃ T id,typeLookup (.type T) "__getitem__"=pure (some (.builtin id))/\s.TypeIs v T/\wpAny (model X.prog X.w) X.A (getItem v (.ref sl)) (EP X pins σ Q) X.xe s
def tSl (r:V->Option Int->Option Int->Hp->VK->Prop) (te:TE) (tl th:TO):TE:=λσ H Q=>te σ H λx H1=>tl σ H1 λl H2=>th σ H2 λu H3=>r x l u H3 Q
theorem wJ {r:V->Option Int->Option Int->Hp->VK->Prop}(hr:SlR X r) (he:PE X e te) (hl:PO X lo tl) (hu:PO X hi th):PE X (.Subscript e (.Slice lo hi none p2) pos) (tSl r te tl th):=by
 intro pins s σ H Q I h
 refine Subscript_ (thn (he pins s σ H _ I h) λv s1 zz35=>?_)
 obtain ⟨x,H1,I1,r1,q1⟩:=zz35
 refine wpAny_Slice (thn (hl pins s1 σ H1 _ I1 q1) λvl s2 zz36=>?_)
 obtain ⟨l,H2,I2,pl,q2⟩:=zz36
 refine thn (hu pins s2 σ H2 _ I2 q2) λvu s3 zz37=>?_
 obtain ⟨u,H3,I3,pu,q3⟩:=zz37
 rw [evalPart_none]
 refine wpAny_pure ?_
 have I4:Inv X pins σ H3 { s3 with heap:=s3.heap.push { cls:=.type "slice",data:=.fields #[vl,vu,.none] } }:=I3.kept (t':=s3.toks) λb ob q=>Heap.get?_push_of_some _ q
 obtain ⟨T,id,hT,ht,hg⟩:=hr pins { s3 with heap:=s3.heap.push { cls:=.type "slice",data:=.fields #[vl,vu,.none] } } σ H3 x v vl vu l u s3.heap.objs.size Q I4 r1 (Heap.IsSliceOf.new ..) pl pu q3
 show wpAny (model X.prog X.w) X.A (subscriptTail e (.Slice lo hi none p2) v (.ref s3.heap.objs.size)) (EP X pins σ Q) X.xe { s3 with heap:=s3.heap.push { cls:=.type "slice",data:=.fields #[vl,vu,.none] } }
 exact tail_any (ops:=[.ref s3.heap.objs.size,v]) ht hT hg (by with_unfolding_all rfl)
def fM (xs:List V) (lo hi:Option Int):List V:=(xs.drop (HT.sIx xs.length 0 lo)).take (HT.sIx xs.length xs.length hi - HT.sIx xs.length 0 lo)
theorem uE (xs:List V) (lo hi:Option Int):(fM xs lo hi).length<=xs.length:=by
 unfold fM
 rw [List.length_take,List.length_drop]
 omega
end
def ixN (n:Nat) (i:Int):Option Nat:=if 0<=i then (if i<n then some i.toNat else none) else if -(n:Int)<=i then some (i+n).toNat else none
def atI {α:Type}(xs:List α) (i:Int):Option α:=(ixN xs.length i).bind λj=>xs[j]?
theorem pk {n:Nat}{i:Int}{j:Nat}(h:ixN n i=some j):seqIndex? i n=some j/\j<n /\ -(n:Int)<=i/\i<n:=by
 unfold ixN at h
 by_cases h0:0<=i
 ·rw [if_pos h0] at h
  by_cases h1:i<n
  ·rw [if_pos h1] at h
   have e:i.toNat=j:=Option.some.inj h
   exact ⟨by rw [seqIndex_of h0 h1,e],by omega,by omega,h1⟩
  ·rw [if_neg h1] at h;cases h
 ·rw [if_neg h0] at h
  by_cases h1:-(n:Int)<=i
  ·rw [if_pos h1] at h
   have e:(i+n).toNat=j:=Option.some.inj h
   exact ⟨by rw [seqIndex_neg (by omega) h1,e],by omega,h1,by omega⟩
  ·rw [if_neg h1] at h;cases h
theorem kq {α:Type}{xs:List α}{i:Int}{v:α}(h:atI xs i=some v):∃ j,seqIndex? i xs.length=some j/\xs[j]?=some v/\j<xs.length /\ -(xs.length:Int)<=i/\i<xs.length:=by
 unfold atI at h
 cases e:ixN xs.length i with
 |none=>rw [e] at h;cases h
 |some j =>
  rw [e] at h
  obtain ⟨h1,h2,h3,h4⟩:=pk e
  exact ⟨j,h1,h,h2,h3,h4⟩
theorem ym {α:Type}{xs:List α}{j:Nat}{v:α}(h:xs[j]?=some v):atI xs (j:Int)=some v:=by
 have hj:j<xs.length:=(List.getElem?_eq_some_iff.mp h).1
 have e:ixN xs.length (j:Int)=some j:=by
  unfold ixN
  rw [if_pos (by omega),if_pos (by omega)];simp
 unfold atI;rw [e];exact h
def pq (b:Expr):Prop:=∀ o i,subscripted b false o i=operate [o,i] (getItem o i)
def IxR (X:Cx) (r:R2):Prop :=
 ∀ (value slice:Expr) (pins:List (Addr×Obj)) (s:Shared) (σ:St) (H:Hp) (x y:V) (v u:Value) (Q:VK),Inv X pins σ H s->ak x v->ak y u->r x y H Q ->
  subscripted slice false v u=operate [v,u] (getItem v u)->wpAny (model X.prog X.w) X.A (subscriptTail value slice v u) (EP X pins σ Q) X.xe s
def MtR (X:Cx) (id:String) (r:V->List V->Hp->VK->Prop):Prop :=
 ∀ (pins:List (Addr×Obj)) (s:Shared) (σ:St) (H:Hp) (x:V) (xs:List V) (v:Value) (us:List Value) (Q:VK),Inv X pins σ H s->ak x v->ai xs us->r x xs H Q ->
  wpAny (model X.prog X.w) X.A (call (.builtin id) (v::us)) (EP X pins σ Q) X.xe s
section
variable {X:Cx}{a b:Expr}{ta tb:TE}{pos:Pos}
theorem C1 {r:R2}(hr:IxR X r) (ha:PE X a ta) (hb:PE X b tb) (hs:pq b):PE X (.Subscript a b pos) (tOp r ta tb):=by
 intro pins s σ H Q I h
 exact Subscript_ (mi ha hb I h λv u s2 x y H2 I2 rx ry q=>hr a b pins s2 σ H2 x y v u Q I2 rx ry q (hs _ _))
def E1 (K:PySem.W.Frag):R2:=λx y H Q=>∃ p xs i v,x=.ref p/\y=.int i/\SqL K H p xs/\atI xs i=some v/\Q v H
def E2 (K:PySem.W.Frag):R2:=λx y H Q=>∃ p xs i v,x=.ref p/\y=.int i/\SqT K H p xs/\atI xs i=some v/\Q v H
def E3:R2:=λx y H Q=>∃ z i c,x=.str z/\y=.int i/\z.length<=sizeLine/\atI z.cps.toList i=some c/\Q (.str ⟨#[c]⟩) H
theorem yn:IxR X (E1 X.K):=by
 intro value slice pins s σ H x y v u Q I rx ry h hs
 obtain ⟨p,xs,i,z,rfl,rfl,hq,he,q⟩:=h
 cases rx
 obtain ⟨t,rfl⟩:=ry
 obtain ⟨its,r,pl,hz⟩:=I.list hq
 obtain ⟨j,h1,h2,h3,h4,h5⟩:=kq he
 obtain ⟨w,ew,rw'⟩:=r.get h2
 have hl:=r.length
 have hn:=dI
 have fin:EP X pins σ Q w s:=⟨z,H,I,rw',q⟩
 by_cases h0:0<=i
 ·have hj:i.toNat=j:=by
   rw [seqIndex_of h0 h5] at h1
   exact Option.some.inj h1
  exact item_listR pl.isList h0 (by omega) (by rw [hj];simpa using ew) fin hs
 ·have hj:(i+(its.toArray.size:Int)).toNat=j:=by
   rw [seqIndex_neg (by omega) h4] at h1
   rw [List.size_toArray,<- hl]
   exact Option.some.inj h1
  exact subscriptTail_builtinR (x:=w) pl.isList.typeIs slot_list_getitem.lookup
   (wpAny_getItem_list_neg (Q:=λr s'=>r=w/\EP X pins σ Q r s') pl.isList (by omega) (by rw [List.size_toArray]<;>omega) (by omega) (by rw [hj];simpa using ew) ⟨rfl,fin⟩) hs
theorem AI:IxR X (E2 X.K):=by
 intro value slice pins s σ H x y v u Q I rx ry h hs
 obtain ⟨p,xs,i,z,rfl,rfl,hq,he,q⟩:=h
 cases rx
 obtain ⟨t,rfl⟩:=ry
 obtain ⟨its,r,pl,hz⟩:=I.tuple hq
 obtain ⟨j,h1,h2,h3,h4,h5⟩:=kq he
 obtain ⟨w,ew,rw'⟩:=r.get h2
 have hl:=r.length
 have hn:=dI
 have fin:EP X pins σ Q w s:=⟨z,H,I,rw',q⟩
 exact subscriptTail_builtinR (x:=w) pl.typeIs slot_tuple_getitem.lookup
  (getItem_tuple (j:=j) (Q:=λr s'=>r=w/\EP X pins σ Q r s') pl (by omega) (by omega) (by rw [List.size_toArray,<- hl];exact h1) (by simpa using ew) ⟨rfl,fin⟩) hs
theorem AJ:IxR X E3:=by
 intro value slice pins s σ H x y v u Q I rx ry h hs
 obtain ⟨z,i,c,rfl,rfl,hz,he,q⟩:=h
 obtain ⟨t,rfl⟩:=rx
 obtain ⟨t',rfl⟩:=ry
 obtain ⟨j,h1,h2,h3,h4,h5⟩:=kq he
 have hl:z.cps.toList.length=z.length:=by simp [Str.length]
 rw [hl] at h1 h4 h5
 have hn:=dI
 exact tail_any (typeIs_str s z t) slot_str_getitem.lookup (getItem_str (c:=c) (by
  have e1:decide (i < -(2 ^ 63:Int))=false:=decide_eq_false (by omega)
  have e2:decide (i≥2 ^ 63)=false:=decide_eq_false (by omega)
  rw [e1,e2,Bool.or_false]) (by rw [h1];simpa using h2) ⟨.str ⟨#[c]⟩,H,I.tok _,⟨_,rfl⟩,q⟩) hs
theorem uR (its:List Value) (n j:Nat) (u:Value):Obj.mapSeq (·.setIfInBounds j u) { cls:=.type "list",data:=.seq its.toArray n }={ cls:=.type "list",data:=.seq (its.set j u).toArray n }:=by
 simp [Obj.mapSeq]
theorem Inv.lst {pins:List (Addr×Obj)}{σ:St}{H:Hp}{s:Shared}{p:Addr}{xs:List V}(I:Inv X pins σ H s) (h:H p=some (.lst xs)) :
  ∃ (its:List Value) (n:Nat),ai xs its/\s.heap.get? p=some { cls:=.type "list",data:=.seq its.toArray n }/\xs.length<=sizeLine:=by
 obtain ⟨z,its,n,r,e⟩:=I.hok p _ h
 exact ⟨its,n,r,e,z⟩
theorem Inv.lstUpd {pins:List (Addr×Obj)}{σ:St}{H:Hp}{s:Shared}{p:Addr}{xs ys:List V}{its its':List Value}{n n':Nat}{f:Obj->Obj}(I:Inv X pins σ H s) (h:H p=some (.lst xs))
  (ho:s.heap.get? p=some { cls:=.type "list",data:=.seq its.toArray n }) (hf:f { cls:=.type "list",data:=.seq its.toArray n }={ cls:=.type "list",data:=.seq its'.toArray n' }) (r:ai ys its') (hz:ys.length<=sizeLine) (t:Nat) :
  Inv X pins σ (upd H p (.lst ys)) { s with heap:=s.heap.update p f,toks:=t }:=by
 have e:(s.heap.update p f).get? p=some { cls:=.type "list",data:=.seq its'.toArray n' }:=by
  rw [Heap.get?_update_self f ho (by rw [hf]<;>rfl),hf]
 refine I.write (x:=p) (e:=p) (by rw [h];trivial) (.inl rfl) (λb u hb q=>(Heap.get?_update_other _ _ (Ne.symm hb)).trans q) ⟨_,e⟩ ?_
 exact ⟨hz,its',n',r,e⟩
def C2:V->V->V->Hp->(Hp->Prop)->Prop:=λo i v H Q=>∃ p xs k j,o=.ref p/\i=.int k/\H p=some (.lst xs)/\ixN xs.length k=some j/\Q (upd H p (.lst (xs.set j v)))
theorem wK:dU X C2:=by
 intro pins s σ H o i v ov iv u Q I ro ri rv h
 obtain ⟨p,xs,k,j,rfl,rfl,hp,hj,q⟩:=h
 cases ro
 obtain ⟨t,rfl⟩:=ri
 obtain ⟨its,n,r,ho,hz⟩:=I.lst hp
 obtain ⟨h1,h2,h3,h4⟩:=pk hj
 have hl:=r.length
 have hn:=dI
 have I':Inv X pins σ (upd H p (.lst (xs.set j v))) { s with heap:=s.heap.update p (Obj.mapSeq (·.setIfInBounds j u)) } :=
  I.lstUpd hp ho (uR its n j u) (r.set rv j) (by rw [List.length_set];exact hz) s.toks
 by_cases h0:0<=k
 ·have hk:k.toNat=j:=by
   rw [seqIndex_of h0 h4] at h1
   exact Option.some.inj h1
  exact PySem.W.ki_setAt ho h0 (by omega) (by rw [List.size_toArray,<- hl];exact h4) (by rw [hk];exact ⟨_,I',q⟩)
 ·have hk:(k+(its.toArray.size:Int)).toNat=j:=by
   rw [seqIndex_neg (by omega) h3] at h1
   rw [List.size_toArray,<- hl]
   exact Option.some.inj h1
  exact PySem.W.ki_setBack ho (by omega) (by rw [List.size_toArray,<- hl];exact h3) (by omega) (by rw [hk];exact ⟨_,I',q⟩)
theorem ur (lo hi:Option Int) (n:Nat):(sliceBounds lo hi none n).1=((HT.sIx n 0 lo:Nat):Int)/\(sliceBounds lo hi none n).2.1=((HT.sIx n n hi:Nat):Int)/\(sliceBounds lo hi none n).2.2=1:=by
 refine ⟨?_,?_,rfl⟩
 ·cases lo with
  |none=>simp [sliceBounds,HT.sIx]
  |some i =>
   simp only [sliceBounds,HT.sIx,Option.getD_none,show (1:Int)>0 by decide,if_true]
   by_cases h:i<0
   ·simp only [h,if_true]<;>omega
   ·simp only [h,if_false]<;>omega
 ·cases hi with
  |none=>simp [sliceBounds,HT.sIx]
  |some i =>
   simp only [sliceBounds,HT.sIx,Option.getD_none,show (1:Int)>0 by decide,if_true]
   by_cases h:i<0
   ·simp only [h,if_true]<;>omega
   ·simp only [h,if_false]<;>omega
theorem uh (its:List Value) (lo hi:Option Int):slicePick its.toArray lo hi none=((its.drop (HT.sIx its.length 0 lo)).take (HT.sIx its.length its.length hi - HT.sIx its.length 0 lo)).toArray:=by
 obtain ⟨h1,h2,h3⟩:=ur lo hi its.toArray.size
 unfold slicePick
 rw [h1,h2,h3]
 simp only [sliceRange_one,pick_run,List.size_toArray]<;>rfl
def tj (K:PySem.W.Frag):V->Option Int->Option Int->Hp->VK->Prop:=λx lo hi H Q=>∃ a xs,x=.ref a/\SqL K H a xs/\∀ p,H p=none->Q (.ref p) (upd H p (.lst (fM xs lo hi)))
theorem yo:SlR X (tj X.K):=by
 intro pins s σ H x v vl vu lo hi sl Q I rx hs pl pu h
 obtain ⟨a,xs,rfl,hx,q⟩:=h
 cases rx
 obtain ⟨its,r,ht,hz⟩:=I.list hx
 have hlen:=r.length
 refine ⟨"list",_,slot_list_getitem.lookup,ht.isList.typeIs,?_⟩
 refine wpAny_getItem_list_slice ht.isList hs pl pu .none (by simp) ?_ (by rw [List.size_toArray]<;>omega)
 rw [uh,<- hlen]
 refine ⟨.ref s.heap.objs.size,_,I.laid (t':=s.toks) (o:=.lst (fM xs lo hi)) (λb ob q=>Heap.get?_push_of_some _ q) (Nat.le_refl _) ?_,rfl,q _ (I.hok.fresh (Nat.le_refl _))⟩
 exact ⟨Nat.le_trans (uE xs lo hi) hz,_,0,(r.drop (HT.sIx xs.length 0 lo)).take (HT.sIx xs.length xs.length hi - HT.sIx xs.length 0 lo),Heap.get?_push_size _ rfl⟩
def bA:V->Bool
 |.non=>true
 |.bl _=>true
 |.int _=>true
 |.str _=>true
 |_=>false
def eqV:V->V->Bool
 |.non,.non=>true
 |.bl a,.bl b=>a==b
 |.bl a,.int b=>(if a then 1 else 0)==b
 |.int a,.bl b=>a==(if b then 1 else 0)
 |.int a,.int b=>a==b
 |.str a,.str b=>a==b
 |_,_=>false
theorem AK {A:Around}{s:Shared}{y x:V}{u v:Value}(ry:ak y u) (rx:ak x v) (fy:bA y=true) (fx:bA x=true):SeqAt.EqAt A s u v (eqV y x):=by
 cases y with
 |non =>
  cases ry
  cases x with
  |non=>cases rx;exact SeqAt.EqAt.same _
  |bl b=>cases rx;exact SeqAt.EqAt.none_bool b
  |int b=>obtain ⟨t,rfl⟩:=rx;exact SeqAt.EqAt.none_int b t
  |str b=>obtain ⟨t,rfl⟩:=rx;exact SeqAt.EqAt.none_str b t
  |_=>exact absurd (show false=true from fx) Bool.false_ne_true
 |bl a =>
  cases ry
  cases x with
  |non=>cases rx;exact SeqAt.EqAt.bool_none a
  |bl b=>cases rx;exact SeqAt.EqAt.bool_bool a b
  |int b=>obtain ⟨t,rfl⟩:=rx;exact SeqAt.EqAt.bool_int a b t
  |str b=>obtain ⟨t,rfl⟩:=rx;exact SeqAt.EqAt.bool_str a b t
  |_=>exact absurd (show false=true from fx) Bool.false_ne_true
 |int a =>
  obtain ⟨t',rfl⟩:=ry
  cases x with
  |non=>cases rx;exact SeqAt.EqAt.int_none a t'
  |bl b=>cases rx;exact SeqAt.EqAt.int_bool a t' b
  |int b=>obtain ⟨t,rfl⟩:=rx;exact SeqAt.EqAt.int_int a t' b t
  |str b=>obtain ⟨t,rfl⟩:=rx;exact SeqAt.EqAt.int_str a t' b t
  |_=>exact absurd (show false=true from fx) Bool.false_ne_true
 |str a =>
  obtain ⟨t',rfl⟩:=ry
  cases x with
  |non=>cases rx;exact SeqAt.EqAt.str_none a t'
  |bl b=>cases rx;exact SeqAt.EqAt.str_bool a t' b
  |int b=>obtain ⟨t,rfl⟩:=rx;exact SeqAt.EqAt.str_int a t' b t
  |str b=>obtain ⟨t,rfl⟩:=rx;exact SeqAt.EqAt.str_str a t' b t
  |_=>exact absurd (show false=true from fx) Bool.false_ne_true
 |_=>exact absurd (show false=true from fy) Bool.false_ne_true
def eqU (x:V) (u:Value):Bool:=match u with
 |.none=>eqV .non x
 |.bool b=>eqV (.bl b) x
 |.int i _=>eqV (.int i) x
 |.str z _=>eqV (.str z) x
 |_=>false
theorem iT {x y:V}{u:Value}(r:ak y u) (f:bA y=true):eqU x u=eqV y x:=by
 cases y with
 |non=>cases r;rfl
 |bl b=>cases r;rfl
 |int i=>obtain ⟨t,rfl⟩:=r;rfl
 |str z=>obtain ⟨t,rfl⟩:=r;rfl
 |_=>exact absurd (show false=true from f) Bool.false_ne_true
theorem fW {x:V}:∀ {xs:List V}{us:List Value},ai xs us->xs.all bA=true->us.any (eqU x)=xs.any λy=>eqV y x
 |_,_,.nil,_=>rfl
 |y::xs,u::us,.cons r t,f=>by
  rw [List.all_cons,Bool.and_eq_true] at f
  rw [List.any_cons,List.any_cons,iT r f.1,fW t f.2]
theorem dA {A:Around}{s:Shared}{x:V}{v:Value}(rx:ak x v) (fx:bA x=true):∀ {xs:List V}{us:List Value},ai xs us->xs.all bA=true->∀ u∈us,SeqAt.EqAt A s u v (eqU x u)
 |_,_,.nil,_=>λu hu=>by cases hu
 |y::xs,u::us,.cons r t,f=>λu' hu=>by
  rw [List.all_cons,Bool.and_eq_true] at f
  rcases List.mem_cons.mp hu with rfl|hu
  ·rw [iT r f.1];exact AK r rx f.1 fx
  ·exact dA rx fx t f.2 u' hu
def inV (x:V) (xs:List V):Bool:=xs.any λy=>eqV y x
def rIn (K:PySem.W.Frag) (neg:Bool):R2:=λx y H Q=>∃ p xs,y=.ref p/\(SqL K H p xs\/SqT K H p xs)/\bA x=true/\xs.all bA=true/\Q (.bl (if neg then !inV x xs else inV x xs)) H
theorem n4:OpR X (compareOp .In) (rIn X.K false):=by
 intro pins s σ H x y v u Q I rx ry h
 obtain ⟨p,xs,rfl,hq,fx,fs,q⟩:=h
 cases ry
 rcases hq with hq|hq
 ·obtain ⟨its,r,pl,hz⟩:=I.list hq
  refine SeqAt.in_listAt (eqU x) pl.isList (λw hw=>dA rx fx r fs w (by simpa using hw)) ⟨.bl _,H,I,rfl,?_⟩
  rw [show its.toArray.any (eqU x)=its.any (eqU x) by simp,fW r fs]
  exact q
 ·obtain ⟨its,r,pl,hz⟩:=I.tuple hq
  refine SeqAt.in_tupleAt (eqU x) pl (λw hw=>dA rx fx r fs w (by simpa using hw)) ⟨.bl _,H,I,rfl,?_⟩
  rw [show its.toArray.any (eqU x)=its.any (eqU x) by simp,fW r fs]
  exact q
theorem mU:OpR X (compareOp .NotIn) (rIn X.K true):=by
 intro pins s σ H x y v u Q I rx ry h
 obtain ⟨p,xs,rfl,hq,fx,fs,q⟩:=h
 cases ry
 rcases hq with hq|hq
 ·obtain ⟨its,r,pl,hz⟩:=I.list hq
  refine SeqAt.notIn_listAt (eqU x) pl.isList (λw hw=>dA rx fx r fs w (by simpa using hw)) ⟨.bl _,H,I,rfl,?_⟩
  rw [show its.toArray.any (eqU x)=its.any (eqU x) by simp,fW r fs]
  exact q
 ·obtain ⟨its,r,pl,hz⟩:=I.tuple hq
  refine SeqAt.notIn_tupleAt (eqU x) pl (λw hw=>dA rx fx r fs w (by simpa using hw)) ⟨.bl _,H,I,rfl,?_⟩
  rw [show its.toArray.any (eqU x)=its.any (eqU x) by simp,fW r fs]
  exact q
theorem mV:bu X (.builtin "len") (λxs H Q=>∃ p ys,xs=[.ref p]/\(SqL X.K H p ys\/SqT X.K H p ys)/\Q (.int ys.length) H):=by
 intro pins s σ H xs us Q I r h
 obtain ⟨p,ys,rfl,hq,q⟩:=h
 obtain ⟨u,rfl,rx⟩:=bi r
 cases rx
 have hn:=dI
 rcases hq with hq|hq
 ·obtain ⟨its,r',pl,hz⟩:=I.list hq
  have hlen:=r'.length
  exact Calls.call_len_list pl.isList (by simp only [List.size_toArray]<;>omega) ⟨.int ys.length,H,I.tok _,⟨s.toks+1,by rw [List.size_toArray,hlen]⟩,q⟩
 ·obtain ⟨its,r',pl,hz⟩:=I.tuple hq
  have hlen:=r'.length
  exact len_tuple pl (by simp only [List.size_toArray]<;>omega) ⟨.int ys.length,H,I.tok _,⟨s.toks+1,by rw [List.size_toArray,hlen]⟩,q⟩
theorem ut:bu X (.builtin "len") (λxs H Q=>∃ z,xs=[.str z]/\z.length<=sizeLine/\Q (.int z.length) H):=by
 intro pins s σ H xs us Q I r h
 obtain ⟨z,rfl,hz,q⟩:=h
 obtain ⟨u,rfl,t,rfl⟩:=bi r
 have hn:=dI
 exact len_str (by omega) ⟨.int z.length,H,I.tok _,⟨_,rfl⟩,q⟩
theorem mW:bu X (.type "list") (λxs H Q=>∃ p ys,xs=[.ref p]/\(SqL X.K H p ys\/SqT X.K H p ys)/\∀ l,H l=none->Q (.ref l) (upd H l (.lst ys))):=by
 intro pins s σ H xs us Q I r h
 obtain ⟨p,ys,rfl,hq,q⟩:=h
 obtain ⟨u,rfl,rx⟩:=bi r
 cases rx
 have fin:∀ (its:List Value),ai ys its->ys.length<=sizeLine->∀ (h':Heap) (c':Nat),(∀ b o',s.heap.get? b=some o'->h'.get? b=some o') ->
   h'.get? s.heap.objs.size=some { cls:=.type "list",dict:=none,data:=.seq its.toArray c',slots:=#[] }->EP X pins σ Q (.ref s.heap.objs.size) { s with heap:=h' }:=λits r' hz h' c' kp e =>
  ⟨.ref s.heap.objs.size,_,I.laid (t':=s.toks) kp (Nat.le_refl _) (show aM X.prog X.w _ h' _ (.lst ys) from ⟨hz,its,c',r',e⟩),rfl,q _ (I.hok.fresh (Nat.le_refl _))⟩
 rcases hq with hq|hq
 ·obtain ⟨its,r',pl,hz⟩:=I.list hq
  have hlen:=r'.length
  obtain ⟨o,ho,hc,n,hd⟩:=pl.isList
  exact call_list_seq p (.inl rfl) ho hc hd (λh' c' kp e=>fin its r' hz h' c' kp e) (by simp only [List.size_toArray]<;>omega)
 ·obtain ⟨its,r',pl,hz⟩:=I.tuple hq
  have hlen:=r'.length
  obtain ⟨o,ho,hc,n,hd⟩:=pl
  exact call_list_seq p (.inr rfl) ho hc hd (λh' c' kp e=>fin its r' hz h' c' kp e) (by simp only [List.size_toArray]<;>omega)
def tyV (K:PySem.W.Frag) (T:String) (x:V) (H:Hp):Prop:=match x with
 |.str _=>T="str"
 |.int _=>T="int"
 |.ref p=>(T="list" /\ ∃ xs,SqL K H p xs)\/(T="tuple" /\ ∃ o,K.lookup p=some o/\o.cls=.type "tuple" /\ o.dict=none) \/
   (T="dict" /\ ((∃ kvs,H p=some (.dK kvs))\/∃ kvs,H p=some (.dT kvs)))\/(T="set" /\ ∃ S n,H p=some (.set S n))
 |_=>False
theorem qf {pins:List (Addr×Obj)}{σ:St}{H:Hp}{s:Shared}{T:String}{x:V}{v:Value}(I:Inv X pins σ H s) (r:ak x v) (ty:tyV X.K T x H) :
  s.TypeIs v T/\∀ a,v=.ref a->∃ ob,s.heap.get? a=some ob/\ob.dict=none:=by
 cases x with
 |str z =>
  obtain ⟨t,rfl⟩:=r
  cases (show T="str" from ty)
  exact ⟨typeIs_str s z t,λ_ e=>nomatch e⟩
 |int i =>
  obtain ⟨t,rfl⟩:=r
  cases (show T="int" from ty)
  exact ⟨typeIs_int s i t,λ_ e=>nomatch e⟩
 |ref p =>
  cases r
  rcases ty with ⟨rfl,xs,hq⟩|⟨rfl,o,hk,hc,hd⟩|⟨rfl,hk⟩|⟨rfl,S,n,hk⟩
  ·obtain ⟨its,_,pl,_⟩:=I.list hq
   refine ⟨pl.isList.typeIs,λa e=>?_⟩
   cases e
   obtain ⟨o,n,e,c,hd,_⟩:=pl
   exact ⟨o,e,hd⟩
  ·refine ⟨⟨o,I.kIn p o hk,hc⟩,λa e=>?_⟩
   cases e
   exact ⟨o,I.kIn _ o hk,hd⟩
  ·have z:∃ o,s.heap.get? p=some o/\o.ExactDict:=by
    rcases hk with ⟨kvs,hk⟩|⟨kvs,hk⟩
    ·obtain ⟨_,_,_,_,o,_,_,e,ex,_⟩:=I.hok p _ hk
     exact ⟨o,e,ex⟩
    ·obtain ⟨_,_,_,_,o,_,_,e,ex,_⟩:=I.hok p _ hk
     exact ⟨o,e,ex⟩
   obtain ⟨o,e,ex⟩:=z
   refine ⟨⟨o,e,ex.1⟩,λa e2=>?_⟩
   cases e2
   exact ⟨o,e,ex.2.1⟩
  ·obtain ⟨o,_,_,_,e,ex,_⟩:=I.hok p _ hk
   refine ⟨⟨o,e,ex.1⟩,λa e2=>?_⟩
   cases e2
   exact ⟨o,e,ex.2.1⟩
 |_=>exact False.elim ty
def jt (K:PySem.W.Frag) (T:String) (r:V->List V->Hp->VK->Prop) (to:TE):TE:=λσ H Q=>to σ H λx H1=>tyV K T x H1/\r x [] H1 Q
def tBM (K:PySem.W.Frag) (T:String) (r:V->List V->Hp->VK->Prop) (to:TE) (t:TA):TE:=λσ H Q=>to σ H λx H1=>tyV K T x H1/\t σ H1 λxs H2=>r x xs H2 Q
variable {o e:Expr}{es:List Expr}{to:TE}{t:TA}{name:Str}{apos cpos:Pos}{T id:String}{r:V->List V->Hp->VK->Prop}
theorem qg (pa:PlainAttrs T) (slot:Slot T name id) (hty:typeOf (.builtin id)=pure (.type "method_descriptor")) (hm:MtR X id r) (ho:PE X o to)
  (hbase:attributeBase o name X.env (eval o X.env)=eval o X.env:=by rfl) (hline:(apos.endLine==cpos.line)=true:=by rfl):PE X (.Call (.Attribute o name apos) [] [] cpos) (jt X.K T r to):=by
 intro pins s σ H Q I h
 refine wpAny_Call_method0_late hbase hline (thn (ho pins s σ H _ I h) λv s1 zz38=>?_)
 obtain ⟨x,H1,I1,r1,ty,q1⟩:=zz38
 obtain ⟨h1,h2⟩:=qf I1 r1 ty
 exact ⟨T,id,pa,slot,hty,h1,h2,Calls.callWith_builtin rfl (PySem.evalArgs_none (hm pins s1 σ H1 x [] v [] Q I1 r1 .nil q1))⟩
theorem bj (pa:PlainAttrs T) (slot:Slot T name id) (hty:typeOf (.builtin id)=pure (.type "method_descriptor")) (hm:MtR X id r) (ho:PE X o to) (ha:PA X (e::es) t)
  (hbase:attributeBase o name X.env (eval o X.env)=eval o X.env:=by rfl)
  (hfew:((backTo cpos (starEach (e::es) X.env)).all (λx=>!x.1)&&(backToKw cpos (keywordEach [] X.env)).all (λx=>x.1.isSome)
   && decide ((e::es).length+([]:List Keyword).length+(if ([]:List Keyword).isEmpty then 0 else 1)<30))=true:=by rfl)
  (hline:(apos.endLine==cpos.line)=true:=by rfl) (hs:starEach (e::es) X.env=(false,eval e X.env)::starEach es X.env:=by rfl) (hplain:(backTo cpos (starEach es X.env)).any (·.1)=false:=by rfl) :
  PE X (.Call (.Attribute o name apos) (e::es) [] cpos) (tBM X.K T r to t):=by
 intro pins s σ H Q I h
 refine wpAny_Call_method_late hbase hfew hline rfl (thn (ho pins s σ H _ I h) λv s1 zz39=>?_)
 obtain ⟨x,H1,I1,r1,ty,q1⟩:=zz39
 obtain ⟨h1,h2⟩:=qf I1 r1 ty
 refine ⟨T,id,pa,slot,hty,h1,h2,?_⟩
 have hA:=ha cpos pins s1 σ H1 _ I1 q1
 rw [hs] at hA ⊢
 refine Calls.callWith_builtin (by show (false || (backTo cpos (starEach es X.env)).any (·.1))=false;rw [hplain]<;>rfl) (Calls.evalArgs_plain ?_)
 exact thn hA λus s2 zz40=>by obtain ⟨vs,H2,I2,r2,q2⟩:=zz40;exact hm pins s2 σ H2 x vs v us Q I2 r1 r2 q2
end
def MtM (X:Cx) (id:String) (r:V->List V->Hp->VK->Prop):Prop :=
 ∀ (pins:List (Addr×Obj)) (s:Shared) (σ:St) (H:Hp) (x:V) (xs:List V) (v:Value) (us:List Value) (Q:VK),Inv X pins σ H s->ak x v->ai xs us->r x xs H Q ->
  wpAny (model X.prog X.w) X.A (call (.builtin id) (v::us)) (EP X pins σ Q) X.xe s
theorem ai.one:∀ {x:V}{us:List Value},ai [x] us->∃ u,us=[u]/\ak x u
 |_,_,.cons r .nil=>⟨_,rfl,r⟩
theorem ai.zero:∀ {us:List Value},ai [] us->us=[]
 |_,.nil=>rfl
theorem ai.eraseIdx:∀ {xs:List V}{us:List Value}(i:Nat),ai xs us->ai (xs.eraseIdx i) (us.eraseIdx i)
 |_,_,_,.nil=>.nil
 |_,_,0,.cons _ t=>t
 |_,_,i+1,.cons r t=>.cons r (ai.eraseIdx i t)
theorem ai.rep {xs:List V}{us:List Value}(h:ai xs us):∀ k:Nat,ai (List.replicate k xs).flatten (List.replicate k us).flatten
 |0=>.nil
 |k+1=>by
  rw [List.replicate_succ,List.replicate_succ,List.flatten_cons,List.flatten_cons]
  exact ai.append h (ai.rep h k)
theorem n5 (its:List Value):∀ (k:Nat) (acc:List Value),
  List.foldl (λx1 x2=>x1++x2) acc.toArray (List.replicate k its.toArray)=(acc++(List.replicate k its).flatten).toArray
 |0,acc=>by simp
 |k+1,acc=>by
  have e:acc.toArray++its.toArray=(acc++its).toArray:=by simp
  have e2:(acc++its)++(List.replicate k its).flatten=acc++(List.replicate (k+1) its).flatten:=by
   rw [List.replicate_succ,List.flatten_cons,List.append_assoc]
  rw [<- e2,<- n5 its k (acc++its),<- e,List.replicate_succ,List.foldl_cons]
section
variable {X:Cx}{pins:List (Addr×Obj)}{σ:St}{H:Hp}{s:Shared}{l b:Addr}{xs ys zs:List V}
theorem Inv.lset {its its':List Value}{n:Nat}{f:Array Value->Array Value}{t':Nat}(I:Inv X pins σ H s) (hH:H l=some (.lst xs))
  (e:s.heap.get? l=some { cls:=.type "list",data:=.seq its.toArray n }) (hf:f its.toArray=its'.toArray) (hv:ai ys its') (hz:ys.length<=sizeLine) :
  Inv X pins σ (upd H l (.lst ys)) { s with heap:=s.heap.update l (Obj.mapSeq f),toks:=t' }:=by
 have q:=PySem.IsL.update e f
 rw [hf] at q
 refine I.write (x:=l) (e:=l) (by rw [hH];exact trivial) (.inl rfl) (λb' u hb hu=>(Heap.get?_update_other s.heap (Obj.mapSeq f) (Ne.symm hb)).trans hu) ⟨_,q⟩ ?_
 exact ⟨hz,its',_,hv,q⟩
theorem Inv.lnew {its:List Value}{t':Nat}(I:Inv X pins σ H s) (hv:ai ys its) (hz:ys.length<=sizeLine) :
  Inv X pins σ (upd H s.heap.objs.size (.lst ys)) { s with heap:=s.heap.push { cls:=.type "list",data:=.seq its.toArray },toks:=t' } :=
 I.laid (λ_ _ q=>Heap.get?_push_of_some _ q) (Nat.le_refl _) ⟨hz,its,0,hv,Heap.get?_push_size _ rfl⟩
theorem Inv.fresh (I:Inv X pins σ H s):H s.heap.objs.size=none:=I.hok.fresh (Nat.le_refl _)
theorem Inv.lstM (I:Inv X pins σ H s) (hH:H l=some (.lst xs)):xs.length<=sizeLine/\∃ (its:List Value) (n:Nat),ai xs its/\xs.length=its.length/\s.heap.get? l=some { cls:=.type "list",data:=.seq its.toArray n }:=by
 obtain ⟨z,its,n,r,e⟩:=I.hok l _ hH
 exact ⟨z,its,n,r,r.length,e⟩
theorem wL {n:Nat}(h:n<=sizeLine):Builtin.List.listTooLong n=false:=by
 unfold Builtin.List.listTooLong
 exact decide_eq_false (by omega)
end
section
variable {X:Cx}
def yp:V->List V->Hp->VK->Prop:=λx vs H Q=>∃ l xs y,x=.ref l/\vs=[y]/\H l=some (.lst xs)/\xs.length<sizeLine/\Q .non (upd H l (.lst (xs++[y])))
theorem n6:MtM X "list.append" yp:=by
 intro pins s σ H x vs v us Q I rx rv h
 obtain ⟨l,xs,y,rfl,rfl,hH,hz,q⟩:=h
 cases rx
 obtain ⟨u,rfl,ru⟩:=rv.one
 obtain ⟨z,its,n,r,hl,e⟩:=I.lstM hH
 refine call_meets F.slot_list_append ⟨_,e,rfl⟩ F.entry_list_append (F.args_list_append_2 _ _) (PySem.list_append l its.toArray n u (by rw [List.size_toArray];omega)) ⟨e,?_⟩
 refine ⟨.non,_,I.lset (its':=its++[u]) hH e (by simp) (r.append (.cons ru .nil)) ?_,rfl,q⟩
 rw [List.length_append,List.length_singleton]
 omega
def E4:R2:=λx y H Q=>∃ l b xs zs,x=.ref l/\y=.ref b/\H l=some (.lst xs)/\H b=some (.lst zs)/\xs.length+zs.length<=sizeLine/\∀ p,H p=none->Q (.ref p) (upd H p (.lst (xs++zs)))
theorem AL:OpR X (binaryOp .Add) E4:=by
 intro pins s σ H x y v u Q I rx ry h
 obtain ⟨l,b,xs,zs,rfl,rfl,hH,hB,hz,q⟩:=h
 cases rx
 cases ry
 obtain ⟨z,its,n,r,hl,e⟩:=I.lstM hH
 obtain ⟨z2,its2,n2,r2,hl2,e2⟩:=I.lstM hB
 refine PySem.P.add_list e e2 ?_ (by rw [List.size_toArray,List.size_toArray];omega)
 have ea:its.toArray++its2.toArray=(its++its2).toArray:=by simp
 rw [ea]
 exact ⟨.ref _,_,I.lnew (t':=s.toks) (r.append r2) (by rw [List.length_append];omega),rfl,q _ I.fresh⟩
def E5:R2:=λx y H Q=>∃ l k xs,x=.ref l/\y=.int k/\H l=some (.lst xs) /\ -(2 ^ 63)<=k/\k<2 ^ 63/\xs.length * k.toNat<=sizeLine /\
 ∀ p,H p=none->Q (.ref p) (upd H p (.lst (List.replicate k.toNat xs).flatten))
theorem yq {α:Type}(xs:List α) (k:Nat):(List.replicate k xs).flatten.length=k * xs.length:=by
 induction k with
 |zero=>simp
 |succ k ih=>rw [List.replicate_succ,List.flatten_cons,List.length_append,ih,Nat.succ_mul,Nat.add_comm]
theorem AM:OpR X (binaryOp .Mult) E5:=by
 intro pins s σ H x y v u Q I rx ry h
 obtain ⟨l,k,xs,rfl,rfl,hH,h1,h2,hz,q⟩:=h
 cases rx
 obtain ⟨t,rfl⟩:=ry
 obtain ⟨z,its,n,r,hl,e⟩:=I.lstM hH
 have hlen:its.toArray.size * k.toNat<=sizeLine:=by rw [List.size_toArray,<- hl];exact hz
 have hcap:¬ its.toArray.size * k.toNat>(2 ^ 63 - 1) / 8:=by
  have:(sizeLine:Nat)<=(2 ^ 63 - 1) / 8:=by decide
  omega
 have hfit:¬ (!Builtin.List.listFitsIndex k)=true:=by
  rw [fitsIndex_both h1 h2]
  exact Bool.false_ne_true
 have hlong:¬ Builtin.List.listTooLong (its.toArray.size * k.toNat)=true:=by
  rw [wL hlen]
  exact Bool.false_ne_true
 have hnew:List.foldl (λx1 x2=>x1++x2) #[] (List.replicate (if its.toArray.isEmpty=true then 0 else k.toNat) its.toArray)=(List.replicate k.toNat its).flatten.toArray:=by
  have f0:∀ m:Nat,List.foldl (λx1 x2=>x1++x2) #[] (List.replicate m its.toArray)=(List.replicate m its).flatten.toArray:=λm=>by
   have:=n5 its m []
   rw [List.nil_append] at this
   exact this
  rw [f0]
  cases its with
  |nil=>simp
  |cons a r'=>rw [if_neg (by simp)]
 refine wpAny_binaryOp_repeat_ref (T:="list") (U:="int") (by decide) ⟨_,e,rfl⟩ (λs'=>typeIs_int s' k t) noFill_list_mul F.fills_int_mul F.slot_int_rmul repeat_list F.slot_int_index.lookup
  (call_meets F.slot_int_rmul (typeIs_int s k t) F.entry_int_rmul (F.args_int_rmul_2 _ _) (int___rmul___int_list k t l its.toArray n)
   ⟨e,rfl,⟨_,e,rfl⟩,call_meets F.slot_list_mul ⟨_,e,rfl⟩ F.entry_list_mul (F.args_list_mul_2 _ _) (AutoListH.list___mul___list_int_3 l its.toArray n k t hfit hcap hlong) ⟨e,?_⟩⟩)
 rw [hnew]
 exact ⟨.ref _,_,I.lnew (t':=s.toks) (r.rep k.toNat) (by rw [yq,Nat.mul_comm];exact hz),rfl,q _ I.fresh⟩
end
section
variable {prog:Program}{w:World}{A:Around}{E:Value->Shared->Prop}{s:Shared}
end
section
variable {X:Cx}
end
end L2
namespace Att
open PySem PySem.W PySem.Calls PyProof.Rows
theorem uc {P:Params}{h:Heap}:∀ (ns:List Int) (vs:List Value),WellAll P h vs (ns.map WData.int)->IntsAre vs ns:=by
 intro ns
 induction ns with
 |nil =>
  intro vs w
  rw [List.map_nil] at w
  cases w
  exact .nil
 |cons n ns ih =>
  intro vs w
  rw [List.map_cons] at w
  cases w with
  |cons a b =>
   cases a
   exact .cons _ _ (ih _ b)
theorem vv {l:OpenLaw}{n:Nat}(hn:l.most=some n){P:Params}{h:Heap}{args:List WData}{vals:List Value}
  (hpre:l.row.toRowW.claim.pre args=true) (hwl:WellAll P h vals args) :
  ∃ a vs ns,vals=[Value.ref a]/\args=[WData.list (ns.map WData.int)]/\h.get? a=some { cls:=.type "list",data:=.seq vs.toArray }/\IntsAre vs ns/\ns.length<=n:=by
 have hsh:WShape.hasAll [] args [.list .int]=true:=(pre_splitW hpre).1
 have hc:l.pre.holds [] { args:=args }=true:=(pre_splitW hpre).2
 obtain ⟨d,r,rfl,h1,h2⟩:=hasAllW_cons hsh
 obtain rfl:=hasAllW_nil h2
 obtain ⟨xs,rfl,h3⟩:=hasW_list h1
 obtain ⟨ns,rfl⟩:=items_int h3
 have hlen:ns.length<=n:=by
  unfold OpenLaw.pre at hc
  have h4:(WTm.not (.lt (.lit (.int (n:Int))) (.len (.arg 0)))).holds [] { args:=[.list (ns.map .int)] }=true:=by
   have h4:=(holds_andW hc).1
   rw [hn] at h4
   exact h4
  have h5:=condW_of h4 (w_not (w_lt w_lit (w_len_list (w_arg rfl))))
  rw [List.length_map] at h5
  refine Nat.le_of_not_lt λq=>?_
  have q':(n:Int)<((ns.length:Nat):Int):=by omega
  first
   |(rw [decide_eq_true q'] at h5;exact absurd h5 (by decide))
   |(simp at h5;omega)
 cases hwl with
 |cons w1 w2 =>
  cases w2
  cases w1 with
  |list ho hall=>exact ⟨_,_,ns,rfl,rfl,ho,uc ns _ hall,hlen⟩
theorem vw (l:OpenLaw) (args:List WData):l.row.toRowW.claim.post args (.bool true) args=true :=
 postW_of (r:=l.row.toRowW) (X:=(true==true))
  (show WShape.has [] (.bool true) .bool=true by first|rfl|decide|simp [WShape.has,WShape.arms,WShape.armsAll])
  (show (WTm.eq .res (.lit (.bool true))).value [] { args:=args,res:=some (.bool true),after:=args }=some (.bool (true==true)) from w_eq_bool (w_res rfl) w_lit) rfl
theorem attach_call {l:OpenLaw}{n:Nat}{q:Program}{loose:List Str}{XP:(Str->Option Value)->Heap->Prop}{YP:World->Heap->Prop}{d:DefRec}
  (hn:l.most=some n) (hdf:d.params.defaults=[])
  (call:∀ (w:World) (s₀ s₁:Shared) (mg mb:Str->Option Value) (fa:Addr) (o:Obj) (pm cd doc:Value) (a:Addr) (vs:List Value) (ns:List Int),
   Ground q loose [] XP w s₀ mg mb s₁.heap->YP w s₁.heap ->
   s₁.heap.get? fa=some o->o.data=.func (docDef d.name d.params d.body d.scope pm cd doc)->s₁.heap.CodeRec cd d.name->mg d.name=some (.ref fa) ->
   s₁.heap.get? a=some { cls:=.type "list",data:=.seq vs.toArray }->IntsAre vs ns->ns.length<=n->s₁.gens=#[] ->
   codeAny (model l.prog w) callerA (.call (.ref fa) ⟨[.ref a],[]⟩) (λr s'=>r=.ok (.ret (.bool true))/\OldK s₁.heap s'.heap/\s'.os=s₁.os/\AllBare s'.gens) s₁) :
  WalkO q loose XP YP l.row.toRowW d [] (λf vs=>PySem.call f vs):=by
 intro w s₀ s₁ mg mb G Y fa o pm cd doc dV kV ho hd hcd hD hmg hg args vals as hpre hlay hrd hwl hlo
 obtain rfl:dV=.none:=Dflts.none hD hdf
 obtain rfl:kV=.none:=Dflts.noKw hD
 obtain ⟨a,vs,ns,rfl,rfl,hobj,hints,hlen⟩:=vv hn hpre hwl
 refine enter_call (codeAny_mono (call w s₀ s₁ mg mb fa o pm cd doc a vs ns G Y ho (fd_plain hd) hcd hmg hobj hints hlen hg) λr s' hq=>?_)
 obtain ⟨rfl,h2,h3,h4⟩:=hq
 exact ⟨.inl ⟨.bool true,.bool true,[],rfl,λ_=>rfl,.bool true,vw l _,λ_=>⟨List.Pairwise.nil,λ_ hm=>(nomatch hm)⟩⟩,h2,h3,h4⟩
section
variable {prog:Program}{w:World}{A:Around}{E:Value->Shared->Prop}{s:Shared}{K:Frag}
end
end Att
namespace L2
open PySem PySem.Spec PyProof.Rows
theorem n9:∀ {vs:List Value}{ns:List Int},IntsAre vs ns->ai (ns.map V.int) vs
 |_,_,.nil=>.nil
 |_,_,.cons n t h=>.cons ⟨t,rfl⟩ (n9 h)
def ju (H:Hp):Prop:=∀ b,H b=none\/∃ o xs,H b=some (.frz o (.lst xs))
theorem wM {P:Program}{w:World}{K:PySem.W.Frag}{mg mb:Str->Option Value}{CX:CXT}{k:Nat}{fa a:Addr}{fd:FuncData}{x:Str}{sp:Sp}{s₁:Shared}{vs:List Value}{ns:List Int}
  (KX:K.In s₁.heap) (hns:s₁.heap.Ns mainGlobals mg) (hb:s₁.heap.Ns builtinsNs mb) (hbb:∀ x:Str,x ≠ "__name__"->mb x=bootBuiltins x) (hlim:s₁.heap.NoLimit) (hg:s₁.gens=#[])
  (ha:s₁.heap.get? a=some { cls:=.type "list",data:=.seq vs.toArray }) (hi:IntsAre vs ns) (hl:ns.length<=sizeLine) (hr:Room k callerA)
  (F:∀ base:Heap,K.In base->base.Ns mainGlobals mg->FnOk P w K mg base CX k fa fd [x] sp) (hbind:∀ (s:Shared) (u:Value),BindsTo s fd ⟨[u],[]⟩ [(x,u)])
  (hsp:∀ H:Hp,ju H->SqL K H a (ns.map V.int)->sp [.ref a] H (λv _=>v=.bl true) λ_ _ _=>False)
  (hCX:∀ H e s',CX [] H s₁ (λ_ _ _=>False) e s'->False) :
  codeAny (model P w) callerA (.call (.ref fa) ⟨[.ref a],[]⟩) (λr s'=>r=.ok (.ret (.bool true))/\OldK s₁.heap s'.heap/\s'.os=s₁.os/\AllBare s'.gens) s₁:=by
 have rv:=n9 hi
 have lenV:=hi.length
 -- from an abstract heap in which nothing but the script may be tracked
 have core:∀ H:Hp,ju H->SqL K H a (ns.map V.int)->HOk P w H s₁.heap->(∀ b,H b≠none->b=a)->(H a≠none->K.lookup a=none) ->
   codeAny (model P w) callerA (.call (.ref fa) ⟨[.ref a],[]⟩) (λr s'=>r=.ok (.ret (.bool true))/\OldK s₁.heap s'.heap/\s'.os=s₁.os/\AllBare s'.gens) s₁:=by
  intro H hO hS hok hA hK
  have base_of:∀ {b:Addr}{o:Obj},s₁.heap.get? b=some o->H b=none->(cX s₁.heap H).get? b=some o:=λe n=>wu e n
  have noA:∀ {b:Addr}{o:Obj}{es:Array DictEntry}{ep:Nat},s₁.heap.get? b=some o->o.data=.dict es ep->H b=none:=fun {b o es ep} e d=>by
   cases q:H b with
   |none=>rfl
   |some u =>
    have e':b=a:=hA b (by rw [q];simp)
    subst e'
    rw [ha] at e;cases e
    have d':Data.seq vs.toArray _=Data.dict es ep:=d
    cases d'
  have nsK:∀ {b:Addr}{m:Str->Option Value},s₁.heap.Ns b m->(cX s₁.heap H).Ns b m:=fun {b m} ⟨o,es,ep,e,d,r⟩=>⟨o,es,ep,base_of e (noA e d),d,r⟩
  have hKb:K.In (cX s₁.heap H):=λb o e=>base_of (KX b o e) (by
   cases q:H b with
   |none=>rfl
   |some u =>
    have e':b=a:=hA b (by rw [q];simp)
    subst e'
    rw [hK (by rw [q];simp)] at e;cases e)
  have hM:Mod K mg (cX s₁.heap H):=⟨hKb,nsK hns,⟨mb,nsK hb,hbb⟩,let ⟨mc,h1,h2⟩:=hlim;⟨mc,nsK h1,h2⟩⟩
  have e0:Env0 P w K mg (cX s₁.heap H) callerA [] s₁ H:=⟨rfl,hM,λb o e=>xX e,Nat.le_of_eq (u8 _ _),trivial,λb hb=>absurd (show b∈([]:List Addr) from hb) (by simp),hok,.of_eq hg⟩
  refine codeAny_mono ((F _ hKb (nsK hns)).run callerA [] s₁ H ⟨[.ref a],[]⟩ [.ref a] [.ref a] _ _ hr e0 (hbind s₁ (.ref a)) (.cons rfl .nil) (hsp H hO hS)) λr s' h=>?_
  cases r with
  |error e=>exact (hCX H e s' h).elim
  |ok fl =>
   cases fl with
   |next=>exact False.elim h
   |brk=>exact False.elim h
   |cont=>exact False.elim h
   |ret u =>
    obtain ⟨v,H',os,bare,un,hok',r',q⟩:=h
    have q':v=.bl true:=q
    subst q'
    obtain rfl:u=Value.bool true:=r'
    refine ⟨rfl,OldK.of_keep λb o e=>?_,os,bare⟩
    cases q:H b with
    |none=>exact un.keep b o e q (by intro z;exact absurd (show b∈([]:List Addr) from z) (by simp)) (by simp)
    |some u =>
     rcases hO b with z|⟨ob,xs,z⟩
     ·rw [q] at z;cases z
     ·have z2:=un.frzs b ob _ z
      obtain ⟨e1,_⟩:=hok b _ z
      obtain ⟨e2,_⟩:=hok' b _ z2
      rw [e] at e1;cases e1
      exact e2
 cases hk:K.lookup a with
 |some o =>
  -- the script is one of the module's own objects
  have e:=KX a o hk
  rw [ha] at e
  cases e
  refine core (λ_=>none) (λ_=>.inl rfl) (.inr ⟨_,vs.toArray,_,hk,rfl,rfl,rfl,by rw [List.size_toArray,lenV];exact hl,by simpa using rv⟩) (λb u z=>by have z':(none:Option HO)=some u:=z;cases z') (λb z=>absurd rfl z) λz=>absurd rfl z
 |none =>
  refine core (λb=>if b=a then some (.frz { cls:=.type "list",data:=.seq vs.toArray } (.lst (ns.map V.int))) else none) (λb=>?_) (.inl (.inr ⟨{ cls:=.type "list",data:=.seq vs.toArray },if_pos rfl⟩)) (λb u z=>?_) (λb z=>?_) λ_=>hk
  ·by_cases hb:b=a
   ·exact .inr ⟨_,_,if_pos hb⟩
   ·exact .inl (if_neg hb)
  ·by_cases hb:b=a
   ·have z':=(if_pos hb).symm.trans z
    cases z'
    subst hb
    exact ⟨ha,by rw [List.length_map];exact hl,vs,_,rv,ha⟩
   ·have z':=(if_neg hb).symm.trans z
    cases z'
  ·by_cases hb:b=a
   ·exact hb
   ·exact absurd (if_neg hb) z
theorem yr {l:PySem.W.OpenLaw}{n k:Nat}{q:Program}{loose:List Str}{XP:(Str->Option Value)->Heap->Prop}{YP:World->Heap->Prop}{d:DefRec}{K:Params->PySem.W.Frag}{CX:World->CXT}{sp:World->Sp}{x:Str}
  (hn:l.most=some n) (hn2:n<=sizeLine) (hdf:d.params.defaults=[]) (hr:Room k callerA)
  (hY:∀ (w:World) (h:Heap),YP w h->(K w.params).In h)
  (F:∀ (w:World) (mg:Str->Option Value) (fa:Addr) (h:Heap),(K w.params).In h->h.Ns mainGlobals mg->mg d.name=some (.ref fa) ->
   ∃ fd:FuncData,(∀ (s:Shared) (u:Value),BindsTo s fd ⟨[u],[]⟩ [(x,u)]) /\
    ∀ base:Heap,(K w.params).In base->base.Ns mainGlobals mg->FnOk l.prog w (K w.params) mg base (CX w) k fa fd [x] (sp w))
  (hsp:∀ (w:World) (H:Hp) (a:Addr) (ns:List Int),ns.length<=n->ju H->SqL (K w.params) H a (ns.map V.int)->sp w [.ref a] H (λv _=>v=.bl true) λ_ _ _=>False)
  (hCX:∀ (w:World) (H:Hp) (s:Shared) (e:Value) (s':Shared),CX w [] H s (λ_ _ _=>False) e s'->False) :
  PySem.W.WalkO q loose XP YP l.row.toRowW d [] (λf vs=>PySem.call f vs):=by
 refine Att.attach_call hn hdf λw s₀ s₁ mg mb fa o pm cd doc a vs ns G Y ho hd hcd hmg hobj hints hlen hg=>?_
 have KX:=hY w _ Y
 obtain ⟨fd,hb,hF⟩:=F w mg fa _ KX G.T.g hmg
 exact wM KX G.T.g G.T.b G.T.builtins G.T.nolimit hg hobj hints (Nat.le_trans hlen hn2) hr hF hb (λH hO hS=>hsp w H a ns hlen hO hS) λH e s'=>hCX w H s₁ e s'
abbrev CX0:CXT:=λ_ _ _ _ _ _=>False
abbrev E0:XK:=λ_ _ _=>False
theorem fq {X:Cx}:cS CX0 X E0:=λ_ _ _ _ _ _ _ h=>h.elim
structure Fun (K:PySem.W.Frag) (x qual:Str) (st:Stmt) (f:Addr) (fd:FuncData):Prop where
 ex:∃ (oc:Value) (od:Option Addr) (kV doc pm:Value) (an:Option Addr) (cdv ct:Value) (osl:Array (Option Value)),
  fd=PySem.W.fnOf x qual (av st) (ao st) (aj st) .none kV doc pm an cdv ct/\K.lookup f=some ⟨oc,od,.func fd,osl⟩/\PySem.W.codeIn K cdv qual=true
 kp:PySem.W.keepIn K (.ref f)=true
section
variable {P:Program}{w:World}{K:PySem.W.Frag}{mg:Str->Option Value}{base:Heap}
theorem Fun.ok {x qual:Str}{st:Stmt}{f:Addr}{fd:FuncData}{N ps:List Str}{k:Nat}{sp:Sp}(F:Fun K x qual st f fd) (S:FnScope N ps (aj st)) (len:∀ vs H Q E,sp vs H Q E->vs.length=ps.length)
  (hbody:∀ (cdv:Value) (A:Around) (outer:List Env) (s:Shared) (H:Hp) (vs:List V) (Q:VK) (E:XK),Room k (A.deeper (envOfC qual (aj st) s.heap.objs.size f cdv))->sp vs H Q E ->
   ∃ t,PSs (cf CX0 P w K mg base N qual (aj st) f cdv A outer s H E).nox (ao st) t/\t { nx:=λ_ H'=>Q .non H',rt:=Q } (aY N vs) H):FnOk P w K mg base CX0 (k+1) f fd ps sp:=by
 obtain ⟨oc,od,kV,doc,pm,an,cdv,ct,osl,rfl,lk,hcd⟩:=F.ex
 refine lD lk hcd S len λA outer s H vs Q E hr hsp=>?_
 obtain ⟨t,h,q⟩:=hbody cdv A outer s H vs Q E hr hsp
 exact ⟨t,h.nox,q⟩
theorem Fun.binds {x qual:Str}{st:Stmt}{f:Addr}{fd:FuncData}{ps:List Str}(F:Fun K x qual st f fd)
  (h:∀ (kV doc pm:Value) (an:Option Addr) (cdv ct:Value) (us:List Value),us.length=ps.length->bindArgs (PySem.W.fnOf x qual (av st) (ao st) (aj st) .none kV doc pm an cdv ct) ⟨us,[]⟩=pure (ps.zip us)):aq K fd ps []:=by
 obtain ⟨oc,od,kV,doc,pm,an,cdv,ct,osl,rfl,lk,hcd⟩:=F.ex
 exact .all (h kV doc pm an cdv ct)
theorem bc {x qual:Str}{st:Stmt}{f:Addr}{oc:Value}{od an:Option Addr}{osl:Array (Option Value)}{kV doc pm cdv ct:Value}(l:K.lookup f=some ⟨oc,od,.func (PySem.W.fnOf x qual (av st) (ao st) (aj st) .none kV doc pm an cdv ct),osl⟩)
  (c:PySem.W.codeIn K cdv qual=true) (k:PySem.W.keepIn K (.ref f)=true):Fun K x qual st f (PySem.W.fnOf x qual (av st) (ao st) (aj st) .none kV doc pm an cdv ct):=⟨⟨oc,od,kV,doc,pm,an,cdv,ct,osl,rfl,l,c⟩,k⟩
end
theorem rO {A:Around}{k:Nat}(hr:Room k A):A.units+1<cLine:=Nat.lt_of_le_of_lt (Nat.add_le_add_left (by decide:1<=64) _) hr.units
section
variable {X:Cx}
end
def FI (H H':Hp):Prop:=∀ b o,H b=some o->H' b=some o
def AN:Expr->Bool
 |.Starred ..=>true
 |_=>false
theorem ac {e:Expr}{es:List Expr}{env:Env}(h:AN e=false):starEach (e::es) env=(false,eval e env)::starEach es env:=by
 cases e<;>first|rfl|cases h
section
variable {X:Cx}
theorem wN:OpR X (binaryOp .FloorDiv) (rI (λ_ j=>0<j/\j<18446744073709551616) λi j=>.int (i / j)):=opI λi j _ _ _ _ _ hc q=>by
 have h1:(0:Int)<j:=hc.1
 have h2:j<18446744073709551616:=hc.2
 refine floordiv_int (by omega) (by rw [Int.fdiv_eq_ediv_of_nonneg i (by omega)];exact q) (.inl (PyProof.noPylong_of_log2 ?_))
 have h0:j.natAbs≠0:=by omega
 have h3:j.natAbs<2 ^ 64:=by
  have e:(2:Nat) ^ 64=18446744073709551616:=by decide
  omega
 have h4:j.natAbs.log2<64:=(Nat.log2_lt h0).mpr h3
 omega
def yt (K:PySem.W.Frag):List V->Hp->VK->Prop:=λxs H Q=>∃ x c t b,xs=[x,c]/\(∃ u,ak c u/\(∀ z,ak c z->z=u)/\PySem.W.kitOne K t u=some b)/\TyOf K H x t/\Q (.bl b) H
theorem uF:bu X (.builtin "isinstance") (yt X.K):=by
 intro pins s σ H xs us Q I r h
 obtain ⟨x,c,t,b,rfl,⟨u,rc,hu,e⟩,ty,q⟩:=h
 obtain ⟨u1,u2,rfl,r1,r2⟩:=rM r
 obtain rfl:=hu _ r2
 exact vo I r1 ty e λtk=>⟨.bl b,H,I.tok tk,rfl,q⟩
end
def Kp (p:Addr) (H H':Hp):Prop:=∀ b o,H b=some o->b≠p->H' b=some o
def lF (H:Hp) (p:Addr):Prop:=∃ a b c d:Int,H p=some (.lst [.int a,.int b,.int c,.int d])
structure Df (K:PySem.W.Frag) (mg:Str->Option Value) (x:Str) (f:Addr) (fd:FuncData) (ps:List Str):Prop where
 hm:mg x=some (.ref f)
 kp:PySem.W.keepIn K (.ref f)=true
 b:aq K fd ps []
def Oth (p:Addr) (H H':Hp):Prop:=∀ b,b≠p->H' b=H b
def dc:Sp:=λvs H Q _=>∃ (p:Addr) (m:Int),vs=[.ref p,.int m]/\0<m/\m<18446744073709551616/\lF H p /\
 ∀ (r:Int) (H':Hp),0<=r->r<m->lF H' p->Oth p H H'->Q (.int r) H'
def jc:Sp:=λvs H Q _=>∃ c:Int,vs=[.int c]/\∀ p H',H p=none->lF H' p->Oth p H H'->Q (.ref p) H'
def iU (K:PySem.W.Frag):Sp:=λvs H Q _=>∃ (a:Addr) (k:Int) (ns:List Int),vs=[.ref a,.int k]/\SqL K H a (ns.map V.int)/\0<=k/\∀ z:Int,Q (.int z) H
def dC:Sp:=λvs H Q _=>∃ (t:Addr) (c e f:Int),vs=[.ref t,.int f]/\H t=some (.tup [.int c,.int e])/\e<=f/\Q (.int (c / 2 ^ (f - e).toNat)) H
def iV:Sp:=λvs H Q _=>∃ (t:Addr) (c e f n:Int),vs=[.ref t,.int f,.int n]/\H t=some (.tup [.int c,.int e])/\e<=f /\
 ∀ p,H p=none->Q (.ref p) (upd H p (.tup [.int (c / 2 ^ (f - e).toNat+n),.int f]))
section
variable {prog:Program}{w:World}{A:Around}{R:Result->Shared->Prop}{s:Shared}
theorem uG {elt target iter:Expr}{ifs:List Expr}{scope:Scope}{pos:Pos}{it acc:Value}{env:Env}(I:Nat->Shared->Prop)
  (turn:∀ n s,I n s->wpAny (model prog w) A (pyNext it) (λr s₁=>match r with
   |none=>R (.ok .next) s₁
   |some v=>wpAny (model prog w) A (letOwnedTupleGo target it v) (λ_ s₁'=>wpAny (model prog w) A (assign target env v) (λ_ s₂ =>
     wpAny (model prog w) A (forIn ifs true λc r=>if r=true then do let ok <- isTrue c env (eval c env);pure (ForInStep.yield ok) else pure (ForInStep.yield r)) (λok s₃ =>
      if ok=true then wpAny (model prog w) A (eval elt env) (λx s₄ =>
       wpAny (model prog w) A (call (.builtin "list.append") [acc,x]) (λ_ s₅=>∃ m,m<n/\I m s₅) (λ_ _=>False) s₄) (λ_ _=>False) s₃
      else ∃ m,m<n/\I m s₃) (λ_ _=>False) s₂) (λ_ _=>False) s₁') (λ_ _=>False) s₁) (λ_ _=>False) s)
  (n:Nat) (h:I n s) :
  codeAny (model prog w) A (.compLoop (.ListComp elt [⟨target,iter,ifs,0⟩] scope pos) 0 it acc env) R s:=by
 refine codeAny_loop rfl I (λn s hI=>?_) n h
 show wpAny _ A ((compTurn (.ListComp elt [⟨target,iter,ifs,0⟩] scope pos) 0 it acc env).onRaise (λx=>do noteFrame x env;theTreesLotGoes x)) _ _ s
 refine wpAny_noted ?_
 rw [compTurn_list]
 refine wpAny_bind (wpAny_standAt (wpAny_bind (wpAny_mono (turn n s hI) (λr s₁ h₁=>?_) λ_ _ h'=>h'.elim)))
 cases r with
 |none=>exact wpAny_pure h₁
 |some v =>
  refine wpAny_bind (wpAny_mono h₁ (λ_ s₁' h₁'=>?_) λ_ _ h'=>h'.elim)
  refine wpAny_bind (wpAny_mono h₁' (λ_ s₂ h₂=>wpAny_bind (wpAny_mono h₂ (λok s₃ h₃=>?_) λ_ _ h'=>h'.elim)) λ_ _ h'=>h'.elim)
  cases ok with
  |false=>exact wpAny_pure ⟨rfl,h₃⟩
  |true =>
   exact wpAny_bind (wpAny_bind (wpAny_mono h₃ (λx s₄ h₄=>wpAny_bind (wpAny_mono h₄ (λ_ s₅ h₅=>wpAny_pure (wpAny_pure ⟨rfl,h₅⟩)) λ_ _ h'=>h'.elim)) λ_ _ h'=>h'.elim))
end
def dm (cells:List (Str×Addr)):List (Str×NameKind)->List (Str×Addr)->List (Str×Addr)
 |[],cs=>cs
 |(n,k)::r,cs=>dm cells r (if k==.free then (match cells.lookup n with|some a=>(n,a)::cs|none=>cs) else cs)
def cq (scope:Scope) (env:Env):List (Str×Addr):=dm env.cells scope.names []
theorem pt (env:Env):∀ (ns:List (Str×NameKind)) (cs:List (Str×Addr)),(∀ y∈ns,y.2=.free->∃ a,env.cells.lookup y.1=some a) ->
  (forIn ns cs λ(x:Str×NameKind) (r:List (Str×Addr))=>(if (x.2==NameKind.free)=true then (do let a <- cellOf env x.1;pure (ForInStep.yield ((x.1,a)::r))) else pure (ForInStep.yield r):Sem (ForInStep (List (Str×Addr)))))=(pure (dm env.cells ns cs):Sem (List (Str×Addr)))
 |[],cs,_=>rfl
 |(n,k)::r,cs,h=>by
  rw [List.forIn_cons]
  have ih:=λcs'=>pt env r cs' λy hy=>h y (List.mem_cons_of_mem _ hy)
  by_cases hk:(k==NameKind.free)=true
  ·obtain ⟨a,ha⟩:=h (n,k) List.mem_cons_self (by simpa using hk)
   have ha':env.cells.lookup n=some a:=ha
   have e:cellOf env n=pure a:=by unfold cellOf;rw [ha']
   simp only [hk,if_true,e,pure_bind]
   rw [ih]
   show _=pure (dm env.cells r (if k==.free then (match env.cells.lookup n with|some a=>(n,a)::cs|none=>cs) else cs))
   rw [hk,ha']
   rfl
  ·have hk':(k==NameKind.free)=false:=by simpa using hk
   simp only [hk',Bool.false_eq_true,if_false,pure_bind]
   rw [ih]
   show _=pure (dm env.cells r (if k==.free then (match env.cells.lookup n with|some a=>(n,a)::cs|none=>cs) else cs))
   rw [hk']
   rfl
theorem yu {scope:Scope}{env:Env}(h:∀ y∈scope.names,y.2=.free->∃ a,env.cells.lookup y.1=some a):closureFor scope env=pure (cq scope env):=by
 have e:=pt env scope.names [] h
 unfold closureFor cq
 show (forIn scope.names ([]:List (Str×Addr)) _ >>= λcs=>pure cs)=_
 rw [bind_pure]
 exact e
theorem oH (cells:List (Str×Addr)){x:Str}{c:Addr}:∀ (ns:List (Str×NameKind)) (cs:List (Str×Addr)),(∀ c,cs.lookup x=some c->cells.lookup x=some c)->(dm cells ns cs).lookup x=some c->cells.lookup x=some c
 |[],cs,h,e=>h c e
 |(n,k)::r,cs,h,e=>by
  refine oH cells r _ (λc' e'=>?_) e
  by_cases hk:(k==NameKind.free)=true
  ·rw [if_pos hk] at e'
   cases ha:cells.lookup n with
   |none=>rw [ha] at e';exact h c' e'
   |some a =>
    rw [ha] at e'
    by_cases hx:x==n
    ·have hx':x=n:=by simpa using hx
     subst hx'
     simp only [List.lookup_cons,beq_self_eq_true] at e'
     rw [<- e'];exact ha
    ·have hx':(x==n)=false:=by simpa using hx
     simp only [List.lookup_cons,hx'] at e'
     exact h c' e'
  ·rw [if_neg hk] at e'
   exact h c' e'
theorem fO (cells:List (Str×Addr)){x:Str}{a:Addr}(ha:cells.lookup x=some a):∀ (ns:List (Str×NameKind)) (cs:List (Str×Addr)),(cs.lookup x=some a\/ns.lookup x=some .free)->(∀ c,cs.lookup x=some c->c=a)->(dm cells ns cs).lookup x=some a
 |[],cs,h,_=>by
  rcases h with h|h
  ·exact h
  ·simp at h
 |(n,k)::r,cs,h,hu=>by
  have step:(if k==.free then (match cells.lookup n with|some a=>(n,a)::cs|none=>cs) else cs)=cs\/∃ b,k=.free/\cells.lookup n=some b/\(if k==.free then (match cells.lookup n with|some a=>(n,a)::cs|none=>cs) else cs)=(n,b)::cs:=by
   by_cases hk:(k==NameKind.free)=true
   ·rw [if_pos hk]
    cases hb:cells.lookup n with
    |none=>exact .inl rfl
    |some b=>exact .inr ⟨b,by simpa using hk,rfl,rfl⟩
   ·exact .inl (by rw [if_neg hk])
  show (dm cells r _).lookup x=some a
  by_cases hx:x=n
  ·subst hx
   rcases step with e|⟨b,hk,hb,e⟩
   ·rw [e]
    refine fO cells ha r cs ?_ hu
    rcases h with h|h
    ·exact .inl h
    ·simp only [List.lookup_cons,beq_self_eq_true] at h
     injection h with h
     subst h
     rw [if_pos (by decide),ha] at e
     have:(x,a)::cs=cs:=e
     exact absurd (congrArg List.length this) (by simp)
   ·rw [e]
    rw [ha] at hb
    injection hb with hb
    subst hb
    refine fO cells ha r _ (.inl (by simp)) λc hc=>?_
    simp at hc
    exact hc.symm
  ·have hxb:(x==n)=false:=by simpa using hx
   rcases step with e|⟨b,hk,hb,e⟩
   ·rw [e]
    refine fO cells ha r cs ?_ hu
    rcases h with h|h
    ·exact .inl h
    ·simp only [List.lookup_cons,hxb] at h
     exact .inr h
   ·rw [e]
    refine fO cells ha r _ ?_ λc hc=>?_
    ·rcases h with h|h
     ·exact .inl (by simp only [List.lookup_cons,hxb];exact h)
     ·simp only [List.lookup_cons,hxb] at h
      exact .inr h
    ·simp only [List.lookup_cons,hxb] at hc
     exact hu c hc
def eZ (sc scope:Scope):Bool:=(scope.kind==.function)&&scope.names.all λy=>(y.2 != .cell)&&((y.2 != .local) || (scope.names.lookup y.1==some .local)) &&
 ((y.2 != .free) || ((scope.names.lookup y.1==some .free)&&((sc.names.lookup y.1==some .cell) || (sc.names.lookup y.1==some .free))))
def dO (N Nc:List Str) (scope:Scope) (n:Nat) (caps:List Nat):Bool:=(n+caps.length==Nc.length)&&(List.range caps.length).all λj=>(Nc[n+j]?==(caps[j]?).bind λi=>N[i]?)&&((Nc[n+j]?).bind (λy=>scope.names.lookup y)==some NameKind.free)
def e7 (n:Nat) (caps:List Nat) (σ:St):St:=List.replicate n none++caps.map λi=>(σ[i]?).join
def Cx.comp (X:Cx) (scope:Scope) (Nc:List Str) (C:Addr) (s₀:Shared) (H₀:Hp) (ex:List Addr):Cx :=
 { X with N:=Nc,s₀:=s₀,H₀:=H₀,env:=compEnvC scope (cq scope X.env) C X.env,outer:=X.stack,ex:=ex,fn:=λ_=>false,pn:=[],xe:=λ_ _=>False }
theorem mZ {env:Env}:∀ {names:List (Str×NameKind)}{x:Str},names.lookup x=some .free ->
  (names.map λ(n,k)=>if (k==NameKind.free&&env.scope.kind==.function&&env.kindOf n==some .cell) then (n,NameKind.cell) else (n,k)).lookup x=some .cell \/
  (names.map λ(n,k)=>if (k==NameKind.free&&env.scope.kind==.function&&env.kindOf n==some .cell) then (n,NameKind.cell) else (n,k)).lookup x=some .free
 |[],_,h=>by simp at h
 |(n,k)::r,x,h=>by
  have ih:=@mZ env r x
  show List.lookup x ((if (k==NameKind.free&&env.scope.kind==.function&&env.kindOf n==some .cell)=true then (n,NameKind.cell) else (n,k))::_)=_\/List.lookup x ((if (k==NameKind.free&&env.scope.kind==.function&&env.kindOf n==some .cell)=true then (n,NameKind.cell) else (n,k))::_)=_
  cases hx:x==n with
  |true =>
   simp only [List.lookup_cons,hx] at h
   cases h
   by_cases hc:(NameKind.free==NameKind.free&&env.scope.kind==.function&&env.kindOf n==some .cell)=true
   ·rw [if_pos hc];simp [List.lookup_cons,hx]
   ·rw [if_neg hc];simp [List.lookup_cons,hx]
  |false =>
   simp only [List.lookup_cons,hx] at h
   by_cases hc:(k==NameKind.free&&env.scope.kind==.function&&env.kindOf n==some .cell)=true
   ·rw [if_pos hc];simp only [List.lookup_cons,hx];exact ih h
   ·rw [if_neg hc];simp only [List.lookup_cons,hx];exact ih h
theorem m3 {env:Env}:∀ {names:List (Str×NameKind)}{x:Str},(∀ y∈names,y.2≠.cell) ->
  ((names.map λ(n,k)=>if (k==NameKind.free&&env.scope.kind==.function&&env.kindOf n==some .cell) then (n,NameKind.cell) else (n,k)).lookup x=some .cell \/
  (names.map λ(n,k)=>if (k==NameKind.free&&env.scope.kind==.function&&env.kindOf n==some .cell) then (n,NameKind.cell) else (n,k)).lookup x=some .free)->names.lookup x=some .free
 |[],_,_,h=>by simp at h
 |(n,k)::r,x,hc,h=>by
  have ih:=@m3 env r x λy hy=>hc y (List.mem_cons_of_mem _ hy)
  have hk:k≠.cell:=hc (n,k) List.mem_cons_self
  have h':List.lookup x ((if (k==NameKind.free&&env.scope.kind==.function&&env.kindOf n==some .cell)=true then (n,NameKind.cell) else (n,k))::_)=some NameKind.cell\/List.lookup x ((if (k==NameKind.free&&env.scope.kind==.function&&env.kindOf n==some .cell)=true then (n,NameKind.cell) else (n,k))::_)=some NameKind.free:=h
  cases hx:x==n with
  |true =>
   simp only [List.lookup_cons,hx]
   by_cases hq:(k==NameKind.free&&env.scope.kind==.function&&env.kindOf n==some .cell)=true
   ·have:k=.free:=by
     simp only [Bool.and_eq_true] at hq
     simpa using hq.1.1
    rw [this]
   ·rw [if_neg hq] at h'
    simp only [List.lookup_cons,hx] at h'
    rcases h' with h'|h'
    ·injection h' with h';exact absurd h' hk
    ·exact h'
  |false =>
   simp only [List.lookup_cons,hx]
   by_cases hq:(k==NameKind.free&&env.scope.kind==.function&&env.kindOf n==some .cell)=true
   ·rw [if_pos hq] at h'
    simp only [List.lookup_cons,hx] at h'
    exact ih h'
   ·rw [if_neg hq] at h'
    simp only [List.lookup_cons,hx] at h'
    exact ih h'
structure CompSc (X:Cx) (scope:Scope):Prop where
 kind:scope.kind=.function
 nocell:∀ y∈scope.names,y.2≠.cell
 loc:∀ y∈scope.names,y.2=.local->scope.names.lookup y.1=some .local
 fr:∀ x,scope.names.lookup x=some .free->X.env.kindOf x=some .cell\/X.env.kindOf x=some .free
 fr2:∀ y∈scope.names,y.2=.free->X.env.kindOf y.1=some .cell\/X.env.kindOf y.1=some .free
theorem mem_of_lookup {α β:Type}[BEq α] [LawfulBEq α]:∀ {l:List (α×β)}{x:α}{b:β},l.lookup x=some b->(x,b)∈l
 |[],_,_,h=>by simp at h
 |(n,k)::r,x,b,h=>by
  cases hx:x==n with
  |true =>
   simp only [List.lookup_cons,hx] at h
   injection h with h
   have:x=n:=by simpa using hx
   subst this;subst h
   exact List.mem_cons_self
  |false =>
   simp only [List.lookup_cons,hx] at h
   exact List.mem_cons_of_mem _ (mem_of_lookup h)
theorem oa {X:Cx}{scope:Scope}(h:eZ X.env.scope scope=true):CompSc X scope:=by
 unfold eZ at h
 rw [Bool.and_eq_true] at h
 obtain ⟨h1,h2⟩:=h
 rw [List.all_eq_true] at h2
 have h3:∀ y∈scope.names,y.2=.free->X.env.kindOf y.1=some .cell\/X.env.kindOf y.1=some .free:=λy hy e=>by
  have q:=h2 y hy
  simp only [Bool.and_eq_true,e,bne_self_eq_false,Bool.false_or,Bool.or_eq_true,beq_iff_eq] at q
  exact q.2.2
 refine ⟨by simpa using h1,λy hy e=>?_,λy hy e=>?_,λx e=>h3 _ (mem_of_lookup e) rfl,h3⟩
 ·have q:=h2 y hy
  simp [e] at q
 ·have q:=h2 y hy
  simp only [Bool.and_eq_true,e,bne_self_eq_false,Bool.false_or,beq_iff_eq] at q
  exact q.1.2
section
variable {X:Cx}{pins:List (Addr×Obj)}{σ:St}{H:Hp}{s:Shared}{scope:Scope}{Nc:List Str}{fp:List Addr}{C:Addr}
theorem e8 {env:Env}{x:Str}{c:Addr}(h:(cq scope env).lookup x=some c):env.cells.lookup x=some c :=
 oH env.cells scope.names [] (λc e=>by simp at e) h
theorem pv {env:Env}{x:Str}{c:Addr}(h:env.cells.lookup x=some c) (hf:scope.names.lookup x=some .free):(cq scope env).lookup x=some c :=
 fO env.cells h scope.names [] (.inr hf) (λc e=>by simp at e)
theorem CompSc.clos (S:CompSc X scope) (ok:X.Ok):closureFor scope X.env=pure (cq scope X.env) :=
 yu λy hy e=>ok.has y.1 (S.fr2 y hy e)
theorem yv (I:Inv X pins σ H s) (S:CompSc X scope) (hf:∀ b∈fp,bH X pins H b) (hC:s.heap.objs.size<=C) (hCf:C∉fp):(X.comp scope Nc C s H fp).Ok where
 mod:=I.ok.mod
 kind:=S.kind
 glob:=I.ok.glob
 blt:=I.ok.blt
 above:=hC
 inj:=λx y c h1 h2=>I.ok.inj x y c (e8 h1) (e8 h2)
 has:=λx h=>by
  have e:scope.names.lookup x=some .free:=m3 S.nocell h
  obtain ⟨c,hc⟩:=I.ok.has x (S.fr x e)
  exact ⟨c,pv hc e⟩
 cab:=λx c h=>by cases h
 hd:=I.ok.hd
 frames:=I.ok.frames
 stk:=.inl rfl
 exf:=λb hb=>⟨λe=>hCf ((show b=C from e) ▸ (show b∈fp from hb)),λx c h=>(hf b hb).2.2.2.2.1 x c (e8 h)⟩
 bs:=I.bs
 bsz:=Nat.le_trans I.ok.bsz I.sz
 noex:=λb o e hb=>by
  rcases (hf b hb).2.2.2.1 with z|z
  ·exact I.ok.noex b o e z
  ·exact absurd (Nat.lt_of_lt_of_le (Heap.lt_size e) (Nat.le_trans I.ok.bsz z)) (Nat.lt_irrefl _)
 exfs:=λb hb hs=>by
  rcases List.mem_cons.mp (I.stkSub b hs) with z|z
  ·exact (hf b hb).2.1 z
  ·exact (hf b hb).2.2.1 z
 funs:=I.stack
 frf:=I.stkFree
theorem uS {n:Nat}{caps:List Nat}{h₁:Heap}{tk:Nat}(I:Inv X pins σ H s) (S:CompSc X scope) (hcp:dO X.N Nc scope n caps=true) (hf:∀ b∈fp,bH X pins H b) (hlt:∀ b∈fp,b<s.heap.objs.size)
  (hns:h₁.Ns (s.heap.objs.size+1) λ_=>none) (old:∀ b o,s.heap.get? b=some o->h₁.get? b=some o) (hD:h₁.get? s.heap.objs.size=some { cls:=.type "list",data:=.seq #[] 0 }) :
  Inv (X.comp scope Nc (s.heap.objs.size+1) s H fp) [] (e7 n caps σ) (upd H s.heap.objs.size (.lst [])) { s with heap:=h₁,toks:=tk }:=by
 have hCf:s.heap.objs.size+1∉fp:=λz=>Nat.not_succ_lt_self (hlt _ z)
 unfold dO at hcp
 rw [Bool.and_eq_true,List.all_eq_true] at hcp
 obtain ⟨hl,hc⟩:=hcp
 have hl':n+caps.length=Nc.length:=by simpa using hl
 refine ⟨yv I S hf (Nat.le_succ _) hCf,rfl,I.bare,Un.laid old (Nat.le_refl _) I.fresh,⟨_,hns,?_⟩,?_,?_,?_,?_,I.hok.laid old (Nat.le_refl _) ⟨Nat.zero_le _,[],0,.nil,hD⟩,?_⟩
 ·intro i x v hN hv _
  have hi:n<=i:=by
   rcases Nat.lt_or_ge i n with z|z
   ·exfalso
    have hv':(List.replicate n (none:Option V)++caps.map λi=>(σ[i]?).join)[i]?=some (some v):=hv
    rw [List.getElem?_append_left (by simpa using z)] at hv'
    simp [z] at hv'
   ·exact z
  obtain ⟨j,rfl⟩:∃ j,i=n+j:=⟨i - n,by omega⟩
  have hv':(List.replicate n (none:Option V)++caps.map λi=>(σ[i]?).join)[n+j]?=some (some v):=hv
  rw [List.getElem?_append_right (by simp)] at hv'
  have e1:n+j - (List.replicate n (none:Option V)).length=j:=by simp
  rw [e1,List.getElem?_map] at hv'
  cases ec:caps[j]? with
  |none=>rw [ec] at hv';cases hv'
  |some i0 =>
   rw [ec] at hv'
   have hv2:(σ[i0]?).join=some v:=by simpa using hv'
   have hv3:σ[i0]?=some (some v):=by
    cases es:σ[i0]? with
    |none=>rw [es] at hv2;cases hv2
    |some o=>rw [es] at hv2;simp at hv2;rw [hv2]
   have hj:j<caps.length:=(List.getElem?_eq_some_iff.mp ec).1
   have q:=hc j (List.mem_range.mpr hj)
   have hN':Nc[n+j]?=some x:=hN
   rw [Bool.and_eq_true,hN',ec] at q
   obtain ⟨q1,q2⟩:=q
   have q1':X.N[i0]?=some x:=by simpa using (beq_iff_eq.mp q1).symm
   have q2':scope.names.lookup x=some .free:=by simpa using q2
   obtain ⟨m,_,hm⟩:=I.loc
   have hk:=S.fr x q2'
   obtain ⟨u,ru,lk⟩:=hm i0 x v q1' hv3 (.inr hk)
   refine ⟨u,ru,?_⟩
   rcases lk with ⟨kl,_⟩|⟨_,c,hcl,ic⟩
   ·rcases hk with z|z
    ·rw [kl] at z;cases z
    ·rw [kl] at z;cases z
   ·exact .inr ⟨mZ q2',c,pv hcl q2',ic.keeps old⟩
 ·intro x c h
  obtain ⟨v,ic⟩:=I.cell x c (e8 h)
  exact ⟨v,ic.keeps old⟩
 ·show upd H s.heap.objs.size (.lst []) (s.heap.objs.size+1)=none
  rw [ap (Nat.succ_ne_self _)]
  exact I.hok.fresh (Nat.le_succ _)
 ·intro x c h
  obtain ⟨v,ic⟩:=I.cell x c (e8 h)
  rw [ap (Nat.ne_of_lt ic.lt)]
  exact I.freeC x c (e8 h)
 ·intro p hp
  exact absurd (show p∈([]:List (Addr×Obj)) from hp) (by simp)
 ·show (List.replicate n (none:Option V)++caps.map λi=>(σ[i]?).join).length=Nc.length
  rw [List.length_append,List.length_replicate,List.length_map]
  exact hl'
theorem vx {pins':List (Addr×Obj)}{σ':St}{H':Hp}{s':Shared}(I:Inv X pins σ H s) (hf:∀ b∈fp,bH X pins H b) (J:Inv (X.comp scope Nc C s H fp) pins' σ' H' s'):Inv X pins σ H' s' :=
 I.call' J.os J.base J.hok J.bare λb hb=>⟨(hf b hb).2.2.2.1,(hf b hb).2.1,(hf b hb).2.2.2.2.1,(hf b hb).2.2.2.2.2⟩
theorem Inv.but {h':Heap}(I:Inv X pins σ H s) (hs:Heap.SameBut C s.heap h') (hn:H C=none) (h0:X.s₀.heap.objs.size<=C) (hl:C≠X.env.locals) (hc:∀ x c,X.env.cells.lookup x=some c->c≠C)
  (hp:∀ p∈X.pn++pins,p.1≠C):Inv X pins σ H { s with heap:=h' }:=by
 refine I.call' (s':={ s with heap:=h' }) (ch:=[C]) rfl ⟨λb o e _ _ hb=>hs.extBut b o (by simpa using hb) e,λb o e _ _ hb=>⟨o.slots,hs.extBut b o (by simpa using hb) e⟩,λb o _ n _=>n,λb o e hb=>⟨o,hs.extBut b o (by simpa using hb) e⟩,
  λ_ _ z=>z,λ_ _ _ z=>z,λb ps z=>⟨#[],by simpa using z⟩⟩ (λa o e=>?_) I.bare ?_
 ·refine (I.hok a o e).stay (λb u hb q=>hs.extBut b u ?_ q) (λ_ z=>z) λ_ _ z=>z
  rcases hb with rfl|hb
  ·exact λz=>by rw [z,hn] at e;cases e
  ·exact λz=>by rw [z,hn] at hb;cases hb
 ·intro b hb
  obtain rfl:b=C:=by simpa using hb
  exact ⟨.inr h0,hl,hc,hp⟩
def PTs (X:Cx) (ifs:List Expr) (t:TT):Prop :=
 ∀ (pins:List (Addr×Obj)) (s:Shared) (σ:St) (H:Hp) (Q:Bool->Hp->Prop),Inv X pins σ H s->t σ H Q ->
  wpAny (model X.prog X.w) X.A (forIn ifs true λc r=>if r=true then do let ok <- isTrue c X.env (eval c X.env);pure (ForInStep.yield ok) else pure (ForInStep.yield r)) (TP X pins σ Q) X.xe s
def C3:TT:=λ_ H Q=>Q true H
theorem yw:PTs X [] C3:=λ_ _ _ H _ I h=>wpAny_tests_nil ⟨H,I,h⟩
theorem yx {c:Expr}{t:TT}(h:PT X c t):PTs X [c] t:=λpins s σ H Q I hw=>wpAny_tests_one (h pins s σ H Q I hw)
variable {elt iter target:Expr}{ifs:List Expr}{pos:Pos}{n:Nat}{caps:List Nat}{wi:TI}{g:TG}{tt:TT}{te:TE}
end
section
variable {X:Cx}{K:PySem.W.Frag}
theorem pz {es:List Expr}{k:Nat}{pos:Pos}{t:TGs}{n:Nat}(hK:X.K=K) (hc:X.calm=true) (h:PGs X es t)
  (hn:(assignEach es X.env).length=n:=by rfl) (hst:(assignEach es X.env).findIdx? (·.1)=none:=by rfl):PG X (.Tuple es k pos) (mh K n t):=by subst hK;exact Au hc h hn hst
end
section
variable {K:PySem.W.Frag}{a D:Addr}{xs:List V}{n:Nat}{caps:List Nat}{g:TG}{tt:TT}{te:TE}{σ:St}{H1:Hp}{Q:Hp->Prop}
end
mutual
inductive DatV (K:PySem.W.Frag) (H:Hp):V->PyData->Prop
 |non:DatV K H .non .none
 |bl (b:Bool):DatV K H (.bl b) (.bool b)
 |int (i:Int):DatV K H (.int i) (.int i)
 |str (x:Str):DatV K H (.str x) (.str x)
 |lst {a:Addr}{xs:List V}{ds:List PyData}:SqL K H a xs->DatVs K H xs ds->DatV K H (.ref a) (.list ds)
 |tup {a:Addr}{xs:List V}{ds:List PyData}:SqT K H a xs->DatVs K H xs ds->DatV K H (.ref a) (.tuple ds)
inductive DatVs (K:PySem.W.Frag) (H:Hp):List V->List PyData->Prop
 |nil:DatVs K H [] []
 |cons {x:V}{xs:List V}{d:PyData}{ds:List PyData}:DatV K H x d->DatVs K H xs ds->DatVs K H (x::xs) (d::ds)
end
section
variable {X:Cx}{pins:List (Addr×Obj)}{σ:St}{H:Hp}{s:Shared}
mutual
theorem dB (I:Inv X pins σ H s):∀ {v:V}{d:PyData}{u:Value},DatV X.K H v d->ak v u->∃ as,Reads s.heap u d as
 |_,_,_,.non,r=>by cases (show _=Value.none from r);exact ⟨_,.none⟩
 |_,_,_,.bl b,r=>by cases (show _=Value.bool b from r);exact ⟨_,.bool b⟩
 |_,_,_,.int i,r=>by obtain ⟨t,rfl⟩:=r;exact ⟨_,.int i t⟩
 |_,_,_,.str x,r=>by obtain ⟨t,rfl⟩:=r;exact ⟨_,.str x t⟩
 |_,_,_,.lst (a:=a) hq hs,r=>by
  cases (show _=Value.ref a from r)
  obtain ⟨its,rv,pl,_⟩:=I.list hq
  obtain ⟨o,n,e,c,_,dd⟩:=pl
  obtain ⟨as,ra⟩:=jJ I hs rv
  exact ⟨_,.list e c dd (by simpa using ra)⟩
 |_,_,_,.tup (a:=a) hq hs,r=>by
  cases (show _=Value.ref a from r)
  obtain ⟨its,rv,pl,_⟩:=I.tuple hq
  obtain ⟨o,e,c,n,dd⟩:=pl
  obtain ⟨as,ra⟩:=jJ I hs rv
  exact ⟨_,.tuple e c dd (by simpa using ra)⟩
theorem jJ (I:Inv X pins σ H s):∀ {xs:List V}{ds:List PyData}{us:List Value},DatVs X.K H xs ds->ai xs us->∃ as,ReadsAll s.heap us ds as
 |_,_,_,.nil,.nil=>⟨_,.nil⟩
 |_,_,_,.cons h hs,.cons r rs=>by
  obtain ⟨as,ra⟩:=dB I h r
  obtain ⟨bs,rb⟩:=jJ I hs rs
  exact ⟨_,.cons ra rb⟩
end
def tm (K:PySem.W.Frag) (neg:Bool):R2:=λx y H Q=>∃ dx dy,DatV K H x dx/\DatV K H y dy/\dx.canLay0=true/\dy.canLay0=true/\min dx.depth dy.depth<=64/\Q (.bl (neg ^^ PyData.eqv dx dy)) H
theorem AO (hu:X.A.units+64<cLine):OpR X (compareOp .Eq) (tm X.K false):=by
 intro pins s σ H x y v u Q I rx ry h
 obtain ⟨dx,dy,h1,h2,c1,c2,hd,q⟩:=h
 obtain ⟨as,ra⟩:=dB I h1 rx
 obtain ⟨bs,rb⟩:=dB I h2 ry
 exact PySem.SeqAt.compareEq_reads ra rb c1 c2 (by omega) ⟨.bl (PyData.eqv dx dy),H,I,rfl,by simpa using q⟩
theorem AQ (hu:X.A.units+64<cLine):OpR X (compareOp .NotEq) (tm X.K true):=by
 intro pins s σ H x y v u Q I rx ry h
 obtain ⟨dx,dy,h1,h2,c1,c2,hd,q⟩:=h
 obtain ⟨as,ra⟩:=dB I h1 rx
 obtain ⟨bs,rb⟩:=dB I h2 ry
 exact PySem.SeqAt.compareNe_reads ra rb c1 c2 (by omega) ⟨.bl (!PyData.eqv dx dy),H,I,rfl,by simpa using q⟩
end
section
variable {prog:Program}{w:World}{A:Around}{R:Result->Shared->Prop}{I:Addr}{fp wr:List Addr}{n:Nat}{P:Nat->Value->Prop}{St:Nat->Heap->Prop}
theorem jI {E:Value->Shared->Prop}{s:Shared}{id:String}{b:Builtin}{args:List Value}{kw:List (Str×Value)}{Q:Value->Shared->Prop}(hk:builtinKind id=none) (hp:plainId id=true)
  (hb:entryFor table id=some b) (ha:argsOk id ⟨args,kw⟩)
  (hc:wpAny (model prog w) A.in1 (b ⟨args,kw⟩) (λfin s'=>match fin with
   |.done f=>(match (Except.ok f:Result) with|.ok (.ret v)=>Q v s'|.ok _=>False|.error e=>E e s')
   |.again c'=>c'.quiet=true/\codeAny (model prog w) A c' (λr s'=>match r with|.ok (.ret v)=>Q v s'|.ok _=>False|.error e=>E e s') s') E s) :
  wpAny (model prog w) A (call (.builtin id) args kw) Q E s:=by
 refine wpAny_call (codeAny_call_builtin hp hb ?_)
 simp only [checkBuiltinCall,hk]
 cases hsig:Manifest.signature? id with
 |none=>exact wpAny_pure hc
 |some sig =>
  simp only [argsOk,hsig] at ha
  have h2:Bind.checkArgs id sig ⟨args,kw⟩=pure ():=ha
  show wpAny _ A.in1 (Bind.checkArgs id sig ⟨args,kw⟩) _ _ s
  rw [h2];exact wpAny_pure hc
theorem vy (a d:Value):argsOk "max" ⟨[a],[(Str.ofString "default",d)]⟩:=by unfold argsOk;kernel_rfl
theorem vA (W:Walks prog w A.in1 I fp wr n P St) (bt:Nat->Nat->Bool) (hcmp:CmpOf prog w A.in1 .Gt P bt) (S:Addr) (hSf:S∉fp) (d:Value) :
  ∀ (k j:Nat) (s:Shared) (vb:Value) (c:Nat),n - (j+1)=k->j+1<=n->St (j+1) s.heap->P (argBest bt j) vb ->
  s.heap.get? S=some { cls:=.type "list",dict:=none,data:=.seq #[vb,vb] c,slots:=#[] } ->
  (∀ v h' tk,P (argBest bt (n - 1)) v->(∀ b o,b∉wr->b≠S->s.heap.get? b=some o->h'.get? b=some o)->R (.ok (.ret v)) { s with heap:=h',toks:=tk }) ->
  codeAny (model prog w) A (.builtin "max.loop" ⟨[.ref I,.none,.ref S],[(Str.ofString "default",d)]⟩) R s:=by
 have hSw:S∉wr:=λh=>hSf (W.sub _ h)
 have hname:(toString "max" ++ toString ".loop":String)="max.loop":=by decide
 intro k
 induction k with
 |zero =>
  intro j s vb c hk hj hst hPb hS hR
  have hin:j+1=n:=by omega
  refine codeAny_builtin F.entry_max_loop ?_
  rw [Around.under_plainId F.plain_max_loop _]
  show wpAny _ A.in1 (seqItems? (.ref S) >>= _) _ _ s
  refine wpAny_bind (wpAny_seqItems hS rfl ?_)
  show wpAny _ A.in1 (tryCatch (pyNext (.ref I)) _ >>= _) _ _ s
  refine wpAny_bind (wpAny_tryCatch (W.done s _ _ (hin ▸ hst) λh' tk hk'=>?_))
  have hS':=hk' S _ hSw hS
  show wpAny _ A.in1 (updateSeq S (λ_=>#[]) >>= _) _ _ _
  refine wpAny_bind ?_
  refine wpAny_updateSeq hS' rfl (wpAny_bind (wpAny_letGo (wpAny_pure ?_)))
  refine hR vb _ tk (by rw [<- hin];exact hPb) λb o hbw hbS e=>(Heap.get?_update_other _ _ (Ne.symm hbS)).trans (hk' b o hbw e)
 |succ k ih =>
  intro j s vb c hk hj hst hPb hS hR
  have hlt:j+1<n:=by omega
  refine codeAny_builtin F.entry_max_loop ?_
  rw [Around.under_plainId F.plain_max_loop _]
  show wpAny _ A.in1 (seqItems? (.ref S) >>= _) _ _ s
  refine wpAny_bind (wpAny_seqItems hS rfl ?_)
  show wpAny _ A.in1 (tryCatch (pyNext (.ref I)) _ >>= _) _ _ s
  refine wpAny_bind (wpAny_tryCatch (W.item (j+1) s _ _ hlt hst λv h' tk hP hst' hk'=>?_))
  have hS':=hk' S _ hSw hS
  show wpAny _ A.in1 (tryCatch (holding [v,v] (richCompare .Gt v vb >>= _)) _ >>= _) _ _ _
  refine wpAny_bind (wpAny_tryCatch (wpAny_holding (wpAny_bind (hcmp (j+1) (argBest bt j) v vb _ _ _ hP hPb ?_))))
  refine wpAny_bind (wpAny_holding (wpAny_truthy_bool ?_))
  refine wpAny_bind (wpAny_letGo (wpAny_pure ?_))
  cases hb:bt (j+1) (argBest bt j) with
  |true =>
   simp only [if_true]
   refine wpAny_bind ?_
   refine wpAny_updateSeq hS' rfl (wpAny_bind (wpAny_letGo ?_))
   rw [hname]
   refine wpAny_pure ⟨plainId_quiet F.plain_max_loop _,ih (j+1) _ v _ (by omega) hlt (W.frame _ _ _ hst' λb hbf o e=>?_) (by simp only [argBest,hb,if_true];exact hP) (Heap.get?_update_self _ hS' rfl)
    λv' h'' tk'' hP' hk''=>?_⟩
   ·exact (Heap.get?_update_other _ _ (λh:S=b=>hSf (by rw [h];exact hbf))).trans e
   ·exact hR v' h'' tk'' hP' λb o hbw hbS e=>hk'' b o hbw hbS ((Heap.get?_update_other _ _ (Ne.symm hbS)).trans (hk' b o hbw e))
  |false =>
   simp only [Bool.false_eq_true,if_false]
   refine wpAny_bind (wpAny_letGo ?_)
   rw [hname]
   refine wpAny_pure ⟨plainId_quiet F.plain_max_loop _,ih (j+1) _ vb c (by omega) hlt hst' (by simp only [argBest,hb,Bool.false_eq_true,if_false];exact hPb) hS' λv' h'' tk'' hP' hk''=>?_⟩
   exact hR v' h'' tk'' hP' λb o hbw hbS e=>hk'' b o hbw hbS (hk' b o hbw e)
theorem uf {E:Value->Shared->Prop}{s:Shared}{x d:Value}{Q:Value->Shared->Prop}
  (h:wpAny (model prog w) A.in1 (pyIter x) (λit s₂=>∃ I fp wr n P St bt,it=.ref I/\Walks prog w A.in1 I fp wr n P St/\St 0 s₂.heap/\(∀ b∈fp,b<s₂.heap.objs.size)/\CmpOf prog w A.in1 .Gt P bt /\
   (n=0->∀ h' tk,(∀ b o,b∉wr->s₂.heap.get? b=some o->h'.get? b=some o)->Q d { s₂ with heap:=h',toks:=tk }) /\
   (0<n->∀ v h' tk,P (argBest bt (n - 1)) v->(∀ b o,b∉wr->s₂.heap.get? b=some o->h'.get? b=some o)->Q v { s₂ with heap:=h',toks:=tk })) E s) :
  wpAny (model prog w) A (call (.builtin "max") [x] [(Str.ofString "default",d)]) Q E s:=by
 have hname:(toString "max" ++ toString ".loop":String)="max.loop":=by decide
 refine jI F.kind_max F.plain_max F.entry_max (vy _ _) ?_
 show wpAny _ A.in1 (Builtin.Builtins.bindParams "max" ["key","default"] 0 ⟨[],[(Str.ofString "default",d)]⟩ >>= _) _ _ s
 refine wpAny_bind (wpAny_of_eq (show Builtin.Builtins.bindParams "max" ["key","default"] 0 ⟨[],[(Str.ofString "default",d)]⟩=pure [none,some d] from rfl) ?_)
 refine wpAny_bind (wpAny_pure ?_)
 refine wpAny_bind (wpAny_mono h (λit s₂ h₂=>?_) λ_ _ e=>e)
 obtain ⟨I,fp,wr,n,P,St,bt,rfl,W,hst,hfp,hcmp,hQ0,hQ⟩:=h₂
 refine wpAny_bind (wpAny_newObj_type ?_)
 have hSf:s₂.heap.objs.size∉fp:=λhm=>Nat.lt_irrefl _ (hfp _ hm)
 have hSw:s₂.heap.objs.size∉wr:=λh=>hSf (W.sub _ h)
 rw [hname]
 have hst1:St 0 (s₂.heap.push { cls:=.type "list",dict:=none,data:=.seq #[] 0 }):=W.frame _ _ _ hst λb _ o e=>Heap.get?_push_of_some _ e
 refine wpAny_pure ⟨plainId_quiet F.plain_max_loop _,?_⟩
 refine codeAny_builtin F.entry_max_loop ?_
 rw [Around.under_plainId F.plain_max_loop _]
 show wpAny _ A.in1 (seqItems? (.ref s₂.heap.objs.size) >>= _) _ _ _
 refine wpAny_bind (wpAny_seqItems (Heap.get?_push_size _ rfl) rfl ?_)
 show wpAny _ A.in1 (tryCatch (pyNext (.ref I)) _ >>= _) _ _ _
 rcases Nat.eq_zero_or_pos n with hn|hn
 ·refine wpAny_bind (wpAny_tryCatch (W.done _ _ _ (hn ▸ hst1) λh' tk hk'=>?_))
  show wpAny _ A.in1 (rule _ >>= _) _ _ _
  refine wpAny_bind (wpAny_rule (wpAny_pure ?_))
  exact hQ0 hn h' tk λb o hbw e=>hk' b o hbw (Heap.get?_push_of_some _ e)
 ·refine wpAny_bind (wpAny_tryCatch (W.item 0 _ _ _ hn hst1 λv h' tk hP hst' hk'=>?_))
  have hS':=hk' s₂.heap.objs.size _ hSw (Heap.get?_push_size _ rfl)
  show wpAny _ A.in1 (updateSeq s₂.heap.objs.size (λ_=>#[v,v]) >>= _) _ _ _
  refine wpAny_bind ?_
  refine wpAny_updateSeq hS' rfl ?_
  rw [hname]
  refine wpAny_pure ⟨plainId_quiet F.plain_max_loop _,vA W bt hcmp s₂.heap.objs.size hSf d _ 0 _ v _ rfl hn (W.frame _ _ _ hst' λb hbf o e=>?_) hP (Heap.get?_update_self _ hS' rfl) λv' h'' tk'' hP' hk''=>?_⟩
  ·exact (Heap.get?_update_other _ _ (λh:s₂.heap.objs.size=b=>hSf (by rw [h];exact hbf))).trans e
  ·exact hQ hn v' h'' tk'' hP' λb o hbw e=>hk'' b o hbw (Nat.ne_of_lt (Heap.lt_size e)) ((Heap.get?_update_other _ _ (Nat.ne_of_lt (Heap.lt_size e)).symm).trans (hk' b o hbw (Heap.get?_push_of_some _ e)))
end
theorem iK {α:Type}{l:List α}{i:Nat}{d:α}(h:i<l.length):l.getD i d=l[i]:=by simp [h]
def gR (ns:List Int) (i j:Nat):Bool:=decide (ns.getD j 0<ns.getD i 0)
theorem jK (ns:List Int):∀ k i,i<=k->ns.getD i 0<=ns.getD (argBest (gR ns) k) 0
 |0,i,h=>by
  obtain rfl:i=0:=by omega
  exact Int.le_refl _
 |k+1,i,h=>by
  unfold argBest
  by_cases hb:gR ns (k+1) (argBest (gR ns) k)=true
  ·rw [if_pos hb]
   have hb':=of_decide_eq_true hb
   by_cases e:i=k+1
   ·rw [e];exact Int.le_refl _
   ·have:=jK ns k i (by omega)
    omega
  ·rw [if_neg hb]
   by_cases e:i=k+1
   ·have hb':=of_decide_eq_false (Bool.eq_false_iff.mpr hb)
    rw [e];omega
   ·exact jK ns k i (by omega)
theorem kW {us:List Value}{ns:List Int}(r:ai (ns.map V.int) us){i:Nat}{v:Value}(h:us.toArray[i]?=some v):i<ns.length/\∃ t,v=.int (ns.getD i 0) t:=by
 have h':us[i]?=some v:=by simpa using h
 have hl:i<us.length:=(List.getElem?_eq_some_iff.mp h').1
 have hn:=r.length
 rw [List.length_map] at hn
 have hi:i<ns.length:=by omega
 obtain ⟨u,h1,h2⟩:=r.get (i:=i) (x:=.int (ns.getD i 0)) (by simp [hi])
 rw [h'] at h1
 injection h1 with h1
 subst h1
 exact ⟨hi,h2⟩
theorem kx {s:Shared}{b:Addr}{o:Obj}(e:s.heap.get? b=some o):b∉[s.heap.objs.size]:=λz=>by
 have h:=Heap.lt_size e
 rw [List.mem_singleton.mp z] at h
 exact Nat.lt_irrefl _ h
theorem wO {s:Shared}{p:Addr}{its:Array Value}{o':Obj}(il:s.heap.IsList p its):∀ b∈[s.heap.objs.size,p],b<(s.heap.push o').objs.size:=λb hb=>by
 obtain ⟨o,e,_⟩:=il
 rw [Heap.size_push]
 rcases List.mem_cons.mp hb with h|h
 ·rw [h];exact Nat.lt_succ_self _
 ·rw [List.mem_singleton.mp h];exact Nat.lt_succ_of_lt (Heap.lt_size e)
section
variable {X:Cx}
theorem wP {pins:List (Addr×Obj)}{σ:St}{H:Hp}{s:Shared}{p:Addr}{ns:List Int}(hc:X.calm=true) (I:Inv X pins σ H s) (hS:SqL X.K H p (ns.map V.int)) :
  ∃ its:List Value,ai (ns.map V.int) its/\its.length=ns.length/\s.heap.IsList p its.toArray/\CmpOf X.prog X.w X.A.in1 .Gt (λi v=>its.toArray[i]?=some v) (gR ns) /\
   Walks X.prog X.w X.A.in1 s.heap.objs.size [s.heap.objs.size,p] [s.heap.objs.size] its.toArray.size (λi v=>its.toArray[i]?=some v) (λi h=>h.IsListIter s.heap.objs.size p i/\h.IsList p its.toArray):=by
 obtain ⟨its,rv,pl,hz⟩:=I.list hS
 have hl:=rv.length
 rw [List.length_map] at hl
 refine ⟨its,rv,hl.symm,pl.isList,λi j vi vj s Q E hi hj q=>?_,Walks.list (A:=X.A.in1) (I.ok.hd hc) _ _ ?_ _⟩
 ·obtain ⟨_,t,rfl⟩:=kW rv hi
  obtain ⟨_,t',rfl⟩:=kW rv hj
  exact gt_int q
 ·obtain ⟨o,n,e,_⟩:=pl
  exact Nat.ne_of_lt (Heap.lt_size e)
def gj (X:Cx) (f:Value) (ks:List Str) (r:List V->List V->Hp->VK->Prop):Prop :=
 ∀ (pins:List (Addr×Obj)) (s:Shared) (σ:St) (H:Hp) (xs zs:List V) (us ws:List Value) (Q:VK),Inv X pins σ H s->ai xs us->ai zs ws->r xs zs H Q ->
  wpAny (model X.prog X.w) X.A (call f us (ks.zip ws)) (EP X pins σ Q) X.xe s
def mm (r:List V->List V->Hp->VK->Prop) (t tk:TA):TE:=λσ H Q=>t σ H λvs H1=>tk σ H1 λzs H2=>r vs zs H2 Q
theorem og {x:Str}{p pos:Pos}{e:Expr}{es:List Expr}{kws:List Keyword}{t tk:TA}{id:String}{ks:List Str}{r:List V->List V->Hp->VK->Prop}(hc:gj X (.builtin id) ks r) (hg:Gl X x) (hm:X.mg x=none)
  (hv:bootBuiltins x=some (.builtin id)) (ha:PA X (e::es) t) (hkw:PK X kws tk) (hks:(backToKw pos (keywordEach kws X.env)).filterMap (·.1)=ks:=by rfl) (hn:x ≠ "__name__":=by decide) (hdb:(x==("__debug__":Str))=false:=by decide)
  (he:backTo pos (starEach (e::es) X.env)=(false,eval e X.env)::backTo pos (starEach es X.env):=by rfl)
  (hplain:(backTo pos (starEach (e::es) X.env)).any (·.1)=false:=by rfl)
  (hall:(backToKw pos (keywordEach kws X.env)).all (·.1.isSome)=true:=by rfl)
  (hkw2:(backToKw pos (keywordEach kws X.env)).any (·.1.isNone)=false:=by rfl):PE X (.Call (.Name x p) (e::es) kws pos) (mm r t tk):=by
 intro pins s σ H Q I h
 refine wpAny_Call_Name_kw (gc I hg hm hv ?_ hn hdb)
 refine PyProof.Rows.callWith_kw (thn (ha pos pins s σ H _ I h) λus s1 ⟨vs,H1,I1,r1,q1⟩=>thn (hkw pos pins s1 σ H1 _ I1 q1) λws s2 ⟨zs,H2,I2,r2,q2⟩=>?_) he hplain hall hkw2
 rw [hks]
 exact hc pins s2 σ H2 vs zs us ws Q I2 r1 r2 q2
theorem vB (hc:X.calm=true):gj X (.builtin "max") ["default"] (λxs zs H Q=>∃ p ns d,xs=[.ref p]/\zs=[d]/\SqL X.K H p (ns.map V.int)/\(ns=[]->Q d H)/\(ns≠[]->∀ m,m∈ns->(∀ x∈ns,x<=m)->Q (.int m) H)):=by
 intro pins s σ H xs zs us ws Q I r rz h
 obtain ⟨p,ns,d,rfl,rfl,hS,q0,q⟩:=h
 obtain ⟨u,rfl,ru⟩:=bi r
 obtain ⟨v,rfl,rv'⟩:=bi rz
 cases ru
 obtain ⟨its,rv,hl,il,hcmp,W⟩:=wP hc I hS
 show wpAny _ _ (call (.builtin "max") [.ref p] [(Str.ofString "default",v)]) _ _ s
 refine uf (wpAny_pyIter_list il ⟨_,_,_,_,_,_,gR ns,rfl,W,⟨⟨_,Heap.get?_push_size _ rfl,rfl,rfl⟩,il.push _⟩,wO il,hcmp,λh0 h' tk hk=>?_,λh0 v h' tk hP hk=>?_⟩)
 ·have hn:ns=[]:=List.length_eq_zero_iff.mp (hl.symm.trans (by simpa using h0))
  exact ⟨d,H,I.kept λb o e=>hk b o (kx e) (Heap.get?_push_of_some _ e),rv',q0 hn⟩
 ·have hn:ns≠[]:=λe=>by
   rw [e] at hl
   have h0':0<its.length:=by simpa using h0
   rw [hl] at h0'
   exact Nat.lt_irrefl _ h0'
  obtain ⟨hi,t,rfl⟩:=kW rv hP
  refine ⟨.int _,H,I.kept λb o e=>hk b o (kx e) (Heap.get?_push_of_some _ e),⟨t,rfl⟩,q hn _ ?_ λx hx=>?_⟩
  ·rw [iK hi];exact List.getElem_mem hi
  ·obtain ⟨j,hj,rfl⟩:=List.mem_iff_getElem.mp hx
   have:=jK ns (its.toArray.size - 1) j (by rw [List.size_toArray];omega)
   rw [iK hj] at this
   exact this
end
def Its (x:Str):It:=⟨λi _=>i<x.cps.toList.length,λi H v H'=>H'=H/\∃ c,x.cps.toList[i]?=some c/\v=.str ⟨#[c]⟩,λi _=>x.cps.toList.length<=i⟩
theorem oI {P:Program}{w:World}{K:PySem.W.Frag}{tg:Expr}(it:Addr) (x:Str) (t:Tok) (ty:String) (hty:ty="str_ascii_iterator" \/ ty="str_iterator"):Turn P w K tg (Its x) [it] it (λi h=>h.IsStrIter it ty x t i) where
 mem:=by simp
 obj:=λi h st b hb=>by
  have e:b=it:=by simpa using hb
  subst e
  obtain ⟨o,e,c,d⟩:=st
  exact ⟨o,e,λv z=>by rw [d] at z;cases z⟩
 keep:=λi h h' st k=>let ⟨o,ho,r⟩:=st;⟨o,k it (by simp) o ho,r⟩
 item:=by
  intro X hP hw hK hc i pins s σ H E I hf st hg
  subst hP hw hK
  obtain ⟨f0,f1,f2,f3,f4,f5⟩:=hf it (by simp)
  have hi:i<x.cps.size:=by simpa [Its] using hg
  have hx:x.cps[i]?=some x.cps[i]:=by simp [hi]
  have fin:∀ h',h'.IsStrIter it ty x t (i+1)->Heap.SameBut it s.heap h'->(∃ u,some (Value.str ⟨#[x.cps[i]]⟩ s.toks)=some u /\
    wpAny (model X.prog X.w) X.A (letOwnedTupleGo tg (.ref it) u) (λ_ s2=>∃ y H',Inv X pins σ H' s2/\ak y u/\(Its x).yld i H y H'/\s2.heap.IsStrIter it ty x t (i+1)/\∀ b∈[it],H' b=none) E { s with heap:=h',toks:=s.toks+1 }):=λh' st' sb=>by
   have I1:Inv X pins σ H { s with heap:=h',toks:=s.toks+1 }:=I.turned (λb o hb e=>(sb.2 b hb).trans e) f0 f1 f3 f4 f5
   obtain ⟨o,e,c,d⟩:=id st'
   refine ⟨_,rfl,lq (s:={ s with heap:=h',toks:=s.toks+1 }) (n:=ty) e c d (by rcases hty with rfl|rfl<;>decide) ⟨.str ⟨#[x.cps[i]]⟩,H,I1,⟨_,rfl⟩,⟨rfl,x.cps[i],by simp [hi],rfl⟩,st',λb hb=>(hf b hb).1⟩⟩
  rcases hty with rfl|rfl
  ·exact wpAny_pyNext_ascii_item st hx λh' st' sb=>fin h' st' sb
  ·exact wpAny_pyNext_wide_item st hx λh' st' sb=>fin h' st' sb
 done:=by
  intro X hP hw hK hc i pins s σ H E I hf st hg
  subst hP hw hK
  obtain ⟨f0,f1,f2,f3,f4,f5⟩:=hf it (by simp)
  have hi:x.cps.size<=i:=by simpa [Its] using hg
  have hx:x.cps[i]?=none:=by simp [hi]
  rcases hty with rfl|rfl
  ·exact wpAny_pyNext_ascii_end (I.ok.hd hc) st hx λh' eb=>⟨rfl,I.turned (t':=s.toks) (λb o hb e=>eb b o hb e) f0 f1 f3 f4 f5⟩
  ·exact wpAny_pyNext_wide_end (I.ok.hd hc) st hx λh' eb=>⟨rfl,I.turned (t':=s.toks) (λb o hb e=>eb b o hb e) f0 f1 f3 f4 f5⟩
 self:=λ_ _ _ _ _ st h=>by
  rcases hty with rfl|rfl
  ·exact wpAny_pyIter_striter_ascii st h
  ·exact wpAny_pyIter_striter_wide st h
section
variable {X:Cx}{tg:Expr}
def E6 (tl:TE):TI:=λσ H R=>tl σ H λx H1=>∃ z,x=.str z/\R (Its z) H1
theorem AR {l:Expr}{tl:TE}(hl:PE X l tl):PI X tg l (E6 tl):=by
 intro pins s σ H R I h
 refine thn (hl pins s σ H _ I h) λv s1 zz41=>?_
 obtain ⟨x,H1,I1,r1,q1⟩:=zz41
 obtain ⟨z,e,q⟩:=q1
 subst e
 obtain ⟨t,rfl⟩:=r1
 have fp:∀ b∈[s1.heap.objs.size],bH X pins H1 b:=λb hb=>by
  have e:b=s1.heap.objs.size:=by simpa using hb
  subst e
  exact I1.fpOk (Nat.le_refl _) (I1.hok.fresh (Nat.le_refl _))
 cases ha:z.cps.all (·<128)
 ·exact wpAny_pyIter_wide ha ⟨s1.heap.objs.size,[s1.heap.objs.size],_,_,H1,rfl,I1.kept (t':=s1.toks) λb o e=>Heap.get?_push_of_some _ e,oI _ z t "str_iterator" (.inr rfl),⟨_,Heap.get?_push_size _ rfl,rfl,rfl⟩,fp,q⟩
 ·exact wpAny_pyIter_ascii ha ⟨s1.heap.objs.size,[s1.heap.objs.size],_,_,H1,rfl,I1.kept (t':=s1.toks) λb o e=>Heap.get?_push_of_some _ e,oI _ z t "str_ascii_iterator" (.inl rfl),⟨_,Heap.get?_push_size _ rfl,rfl,rfl⟩,fp,q⟩
end
section
variable {X:Cx}
theorem vC:OpR X (compareOp .LtE) (λx y H Q=>∃ i j,x=.str i/\y=.str j/\Q (.bl (!decide (j.cps.toList<i.cps.toList))) H):=by
 intro pins s σ H x y v u Q I rx ry h
 obtain ⟨i,j,rfl,rfl,q⟩:=h
 obtain ⟨t,rfl⟩:=rx
 obtain ⟨t',rfl⟩:=ry
 exact PySem.P.le_str (aF I q rfl)
def E7:V->Option Int->Option Int->Hp->VK->Prop:=λx lo hi H Q=>∃ z,x=.str z/\z.length<=sizeLine/\Q (.str (Txt.slice z lo hi)) H
theorem iL {v:Value}{o:Option Int}(p:IsPart v o):∃ q:Option (Int×Tok),v=partValue q/\q.map (·.1)=o:=by
 cases p with
 |none=>exact ⟨none,rfl,rfl⟩
 |int i t=>exact ⟨some (i,t),rfl,rfl⟩
theorem AS:SlR X E7:=by
 intro pins s σ H x v vl vu lo hi sl Q I rx hs pl pu h
 obtain ⟨z,rfl,hz,q⟩:=h
 obtain ⟨t,rfl⟩:=rx
 obtain ⟨ql,rfl,rfl⟩:=iL pl
 obtain ⟨qu,rfl,rfl⟩:=iL pu
 obtain ⟨o,ho,hc,hd⟩:=hs
 refine ⟨"str",_,F.slot_str_getitem.lookup,typeIs_str _ _ _,wpAny_getItem_str_slice (l:=ql) (u:=qu) (st:=none) ⟨o,ho,hc,hd⟩ rfl (post_val_or_str ⟨Nat.le_trans (Txt.slice_le z _ _) hz,λt' k=>?_⟩)⟩
 exact ⟨.str (Txt.slice z (ql.map (·.1)) (qu.map (·.1))),H,I.tok k,⟨t',rfl⟩,q⟩
theorem vD (hc:X.calm=true):bu X (.builtin "all") (λxs H Q=>∃ (p:Addr) (bs:List Bool),xs=[.ref p]/\SqL X.K H p (bs.map V.bl)/\Q (.bl (bs.all id)) H):=by
 intro pins s σ H xs us Q I r h
 obtain ⟨p,bs,rfl,hS,q⟩:=h
 obtain ⟨u,rfl,ru⟩:=bi r
 cases ru
 obtain ⟨its,rv,pl,hz⟩:=I.list hS
 have il:=pl.isList
 have hl:=rv.length
 rw [List.length_map] at hl
 have bAt:∀ {i:Nat}{v:Value},its.toArray[i]?=some v->v=.bool (bs.getD i true):=fun {i v} h=>by
  have h':its[i]?=some v:=by simpa using h
  have hi:i<its.length:=(List.getElem?_eq_some_iff.mp h').1
  have hb:i<bs.length:=by omega
  obtain ⟨u,h1,h2⟩:=rv.get (i:=i) (x:=.bl (bs.getD i true)) (by simp [hb])
  rw [h'] at h1
  injection h1 with h1
  subst h1
  exact h2
 have W:=Walks.list (prog:=X.prog) (w:=X.w) (A:=X.A.in1) (I.ok.hd hc) s.heap.objs.size p (by
  obtain ⟨o,n,e,_⟩:=pl
  exact Nat.ne_of_lt (Heap.lt_size e)) its.toArray
 refine call_all_walk (wpAny_pyIter_list il ⟨_,_,_,_,_,_,λi=>bs.getD i true,rfl,W,⟨⟨_,Heap.get?_push_size _ rfl,rfl,rfl⟩,il.push _⟩,λi v s Q E hv hq=>?_,λh' tk hk=>?_⟩)
 ·rw [bAt hv]
  exact wpAny_truthy_bool hq
 ·refine ⟨.bl _,H,I.kept λb o e=>hk b o (kx e) (Heap.get?_push_of_some _ e),?_,q⟩
  show Value.bool _=Value.bool _
  congr 1
  have e1:its.toArray.size=bs.length:=by rw [List.size_toArray];omega
  rw [e1]
  clear q hS rv bAt W hl e1
  rw [Bool.eq_iff_iff,List.all_eq_true,List.all_eq_true]
  constructor
  ·intro h b hb
   obtain ⟨i,hi,rfl⟩:=List.mem_iff_getElem.mp hb
   have:=h i (List.mem_range.mpr hi)
   rw [iK hi] at this
   exact this
  ·intro h i hi
   have hi':=List.mem_range.mp hi
   rw [iK hi']
   exact h _ (List.getElem_mem hi')
def AT:V->List V->Hp->VK->Prop:=λx vs H Q=>∃ a b,x=.str a/\vs=[.str b]/\b.length≠0/\a.length<=1000/\∀ l,H l=none->Q (.ref l) (upd H l (.lst ((Txt.split a b).map V.str)))
theorem oh:∀ {l:List (Str×Tok)},ai (l.map λp=>V.str p.1) (strValues l)
 |[]=>.nil
 |(x,t)::r=>.cons ⟨t,rfl⟩ oh
theorem wQ:MtR X "str.split" AT:=by
 intro pins s σ H x vs v us Q I rx rv h
 obtain ⟨a,b,rfl,rfl,hb,hz,q⟩:=h
 obtain ⟨t,rfl⟩:=rx
 obtain ⟨u,rfl,t2,rfl⟩:=bi rv
 have hlen:=PyProof.Rows.split_le a b
 have hy:(b.length==0)=false:=by simpa using hb
 have hbig:1002<=sizeLine:=by decide
 have hsz:a.length<=sizeLine:=by omega
 have fin:∀ (l:List (Str×Tok)) (k:Nat),l.map (·.1)=Txt.split a b->EP X pins σ Q (.ref s.heap.objs.size) { s with heap:=s.heap.push { cls:=.type "list",data:=.seq (strValues l).toArray },toks:=k }:=λl k e=>by
  have e1:l.length=(Txt.split a b).length:=by rw [<- e,List.length_map]
  have e2:(l.map λp=>V.str p.1)=(Txt.split a b).map V.str:=by rw [<- e,List.map_map];rfl
  refine ⟨.ref _,_,I.lnew (its:=strValues l) (ys:=l.map λp=>V.str p.1) oh (by rw [List.length_map];omega),rfl,?_⟩
  rw [e2]
  exact q _ I.fresh
 cases h1:(decide (a.length<b.length) || decide (Builtin.Str.strKind a<Builtin.Str.strKind b))
 ·cases hf:(Builtin.Str.occurrences a b 0 a.length (a.length+1)).isEmpty
  ·have e3:Txt.split a b=Builtin.Str.partsBetween a (Builtin.Str.occurrences a b 0 a.length (a.length+1)) b.length:=(if_neg (ne_true_of_eq_false h1)).trans (if_neg (ne_true_of_eq_false hf))
   have hsz2:(Builtin.Str.partsBetween a (Builtin.Str.occurrences a b 0 a.length (a.length+1)) b.length).length<=sizeLine:=by rw [<- e3];omega
   refine call_meets F.slot_str_split (typeIs_str _ _ _) F.entry_str_split (F.args_str_split_2 _ _) (meets_str_split_sep a b t t2 h1 hy hf hsz hsz2) ?_
   show wants _ _ _ { s with toks:=_,heap:=s.heap.push { cls:=.type "list",data:=.seq (strsFrom s.toks (Builtin.Str.partsBetween a (Builtin.Str.occurrences a b 0 a.length (a.length+1)) b.length)).toArray } }
   rw [strsFrom_eq]
   exact fin (numbered s.toks _) _ ((numbered_texts _ _).trans e3.symm)
  ·exact call_meets F.slot_str_split (typeIs_str _ _ _) F.entry_str_split (F.args_str_split_2 _ _) (meets_str_split_not_found a b t t2 h1 hy hf)
    (fin [(a,t)] s.toks ((if_neg (ne_true_of_eq_false h1)).trans (if_pos hf)).symm)
 ·exact call_meets F.slot_str_split (typeIs_str _ _ _) F.entry_str_split (F.args_str_split_2 _ _) (meets_str_split_cannot_occur a b t t2 h1)
   (fin [(a,t)] s.toks (if_pos h1).symm)
theorem pA:∀ {zs:List Str}{its:List Value},ai (zs.map V.str) its->∃ l:List (Str×Tok),its=strValues l/\l.map (·.1)=zs
 |[],_,r=>by
  rw [List.map_nil] at r
  cases r
  exact ⟨[],rfl,rfl⟩
 |z::zs,_,r=>by
  rw [List.map_cons] at r
  cases r with
  |cons r1 r2 =>
   obtain ⟨t,rfl⟩:=r1
   obtain ⟨l,rfl,e⟩:=pA r2
   exact ⟨(z,t)::l,rfl,by rw [List.map_cons,e]⟩
def C4 (K:PySem.W.Frag):V->List V->Hp->VK->Prop:=λx vs H Q=>∃ (a:Str) (p:Addr) (zs:List Str),x=.str a/\vs=[.ref p]/\SqL K H p (zs.map V.str)/\JoinOk a zs=true/\Q (.str (Txt.join a zs)) H
theorem yy:MtR X "str.join" (C4 X.K):=by
 intro pins s σ H x vs v us Q I rx rv h
 obtain ⟨a,p,zs,rfl,rfl,hS,hok,q⟩:=h
 obtain ⟨t,rfl⟩:=rx
 obtain ⟨u,rfl,ru⟩:=bi rv
 cases ru
 obtain ⟨its,r,pl,hz⟩:=I.list hS
 obtain ⟨l,rfl,e⟩:=pA r
 exact SC.join pl.isList e hok λt' k=>⟨.str (Txt.join a zs),H,I.tok k,⟨t',rfl⟩,q⟩
def AU:V->List V->Hp->VK->Prop:=λx vs H Q=>∃ a b,x=.str a/\vs=[.str b]/\a.length<=sizeLine/\Q (.str (Txt.stripChars a b)) H
theorem wR:MtR X "str.strip" AU:=by
 intro pins s σ H x vs v us Q I rx rv h
 obtain ⟨a,b,rfl,rfl,hz,q⟩:=h
 obtain ⟨t,rfl⟩:=rx
 obtain ⟨u,rfl,t2,rfl⟩:=bi rv
 exact SC.stripChars (λt' k=>⟨.str (Txt.stripChars a b),H,I.tok k,⟨t',rfl⟩,q⟩) hz
end
section
variable {κ:Type}[DecidableEq κ]
def aZ (kvs:List (κ×V)) (k:κ):Option V:=(kvs.find? λkv=>decide (kv.1=k)).map (·.2)
def bL (kvs:List (κ×V)) (k:κ) (v:V):List (κ×V) :=
 if (kvs.any λkv=>decide (kv.1=k))=true then kvs.map (λkv=>if kv.1=k then (kv.1,v) else kv) else kvs++[(k,v)]
def dP (kvs:List (κ×V)) (k:κ):List (κ×V):=kvs.filter λkv=>decide (kv.1≠k)
theorem jX {p:κ×V}{r:List (κ×V)}{k:κ}(e:p.1=k):aZ (p::r) k=some p.2:=by simp [aZ,List.find?_cons,e]
theorem jY {p:κ×V}{r:List (κ×V)}{k:κ}(e:¬ p.1=k):aZ (p::r) k=aZ r k:=by simp [aZ,List.find?_cons,e]
theorem oJ (k:κ):∀ kvs:List (κ×V),(kvs.any λkv=>decide (kv.1=k))=(aZ kvs k).isSome
 |[]=>rfl
 |p::r=>by
  rw [List.any_cons]
  by_cases e:p.1=k
  ·simp only [jX e,decide_eq_true e,Bool.true_or,Option.isSome_some]
  ·rw [jY e,decide_eq_false e,Bool.false_or];exact oJ k r
theorem nt (kvs:List (κ×V)) (k:κ) (v:V):(bL kvs k v).length<=kvs.length+1:=by
 unfold bL
 split
 ·rw [List.length_map];omega
 ·rw [List.length_append,List.length_cons,List.length_nil];omega
theorem bB.isSome_eq {o:Option V}{u:Option Value}(r:bB o u):o.isSome=u.isSome:=by
 cases o with
 |none=>cases u with
  |none=>rfl
  |some _=>exact (show False from r).elim
 |some _=>cases u with
  |none=>exact (show False from r).elim
  |some _=>rfl
theorem KV.val {kvs:List (κ×V)}{vs:List (κ×Value)}(r:KV kvs vs) (k:κ):bB (aZ kvs k) (valueAt vs k):=by
 unfold KV at r
 induction r with
 |nil=>exact True.intro
 |@cons p q ps qs h t ih =>
  obtain ⟨h1,h2⟩:=h
  by_cases e:p.1=k
  ·have e':q.1=k:=h1.symm.trans e
   have b:valueAt (q::qs) k=some q.2:=by simp [valueAt,List.find?_cons,e']
   rw [jX e,b];exact h2
  ·have e':¬ q.1=k:=λz=>e (h1.trans z)
   have b:valueAt (q::qs) k=valueAt qs k:=by simp [valueAt,List.find?_cons,e']
   rw [jY e,b];exact ih
theorem KV.any {kvs:List (κ×V)}{vs:List (κ×Value)}(r:KV kvs vs) (k:κ):(kvs.any λkv=>decide (kv.1=k))=vs.any λkv=>decide (kv.1=k):=by
 unfold KV at r
 induction r with
 |nil=>rfl
 |cons h t ih=>rw [List.any_cons,List.any_cons,ih,h.1]
theorem KV.repl {kvs:List (κ×V)}{vs:List (κ×Value)}(r:KV kvs vs) (k:κ){y:V}{u:Value}(ry:ak y u) :
  KV (kvs.map λkv=>if kv.1=k then (kv.1,y) else kv) (vs.map λkv=>if kv.1=k then (kv.1,u) else kv):=by
 unfold KV at r ⊢
 induction r with
 |nil=>exact .nil
 |@cons p q ps qs h t ih =>
  rw [List.map_cons,List.map_cons]
  refine .cons ?_ ih
  obtain ⟨h1,h2⟩:=h
  by_cases e:p.1=k
  ·rw [if_pos e,if_pos (h1.symm.trans e)];exact ⟨h1,ry⟩
  ·rw [if_neg e,if_neg (λz=>e (h1.trans z))];exact ⟨h1,h2⟩
theorem KV.put {kvs:List (κ×V)}{vs:List (κ×Value)}(r:KV kvs vs) (k:κ){y:V}{u:Value}(ry:ak y u):KV (bL kvs k y) (stored vs k u):=by
 unfold bL stored
 rw [r.any k]
 by_cases e:(vs.any λkv=>decide (kv.1=k))=true
 ·rw [if_pos e,if_pos e];exact r.repl k ry
 ·rw [if_neg e,if_neg e];exact Paired.snoc r ⟨rfl,ry⟩
theorem KV.drop {kvs:List (κ×V)}{vs:List (κ×Value)}(r:KV kvs vs) (k:κ):KV (dP kvs k) (without vs k):=by
 unfold KV at r ⊢
 unfold dP without
 induction r with
 |nil=>exact .nil
 |@cons p q ps qs h t ih =>
  obtain ⟨h1,h2⟩:=h
  rw [List.filter_cons,List.filter_cons]
  by_cases e:p.1=k
  ·have a:¬ decide (p.1≠k)=true:=by simp [e]
   have b:¬ decide (q.1≠k)=true:=by simp [h1.symm.trans e]
   rw [if_neg a,if_neg b];exact ih
  ·have e':¬ q.1=k:=λz=>e (h1.trans z)
   have a:decide (p.1≠k)=true:=by simp [e]
   have b:decide (q.1≠k)=true:=by simp [e']
   rw [if_pos a,if_pos b];exact .cons ⟨h1,h2⟩ ih
theorem KV.length {kvs:List (κ×V)}{vs:List (κ×Value)}(r:KV kvs vs):kvs.length=vs.length:=Paired.length r
theorem wS (kvs:List (κ×V)) (k:κ):(dP kvs k).length<=kvs.length:=List.length_filter_le _ _
end
theorem fu {P:Program}{w:World}{k:Key}{u:Value}(r:ak (kV k) u):(aS P w).is k u=true:=by
 cases k with
 |inl i=>obtain ⟨t,e⟩:=(show ∃ t,u=Value.int i t from r);subst e;exact uB P w i t
 |inr x=>obtain ⟨t,e⟩:=(show ∃ t,u=Value.str x t from r);subst e;exact uC P w x t
theorem oi {P:Program}{w:World}:∀ {ks:List Key}{us:List Value},ai (ks.map kV) us->ItemsAre (aS P w) ks us
 |[],_,r=>by rw [List.map_nil] at r;cases r;exact .nil
 |k::ks,_,r=>by
  rw [List.map_cons] at r
  cases r with
  |cons h t=>exact .cons (fu h) (oi t)
abbrev KT (H:Hp):List (List Key×V)->List (List Key×Addr×Value)->Prop:=Paired λp q=>p.1=q.1/\H q.2.1=some (.tup (p.1.map kV))/\ak p.2 q.2.2
theorem KT.val {H:Hp}{kvs:List (List Key×V)}{xs:List (List Key×Addr×Value)}(r:KT H kvs xs) (k:List Key):bB (aZ kvs k) ((atKey xs k).map (·.2)):=by
 induction r with
 |nil=>exact True.intro
 |@cons p q ps qs h t ih =>
  obtain ⟨h1,_,h2⟩:=h
  by_cases e:p.1=k
  ·have e':q.1=k:=h1.symm.trans e
   have b:atKey (q::qs) k=some q.2:=by simp [atKey,List.find?_cons,e']
   rw [jX e,b];exact h2
  ·have e':¬ q.1=k:=λz=>e (h1.trans z)
   have b:atKey (q::qs) k=atKey qs k:=by simp [atKey,List.find?_cons,e']
   rw [jY e,b];exact ih
theorem KT.repl {H:Hp}{kvs:List (List Key×V)}{xs:List (List Key×Addr×Value)}(r:KT H kvs xs) (k:List Key){y:V}{u:Value}(ry:ak y u) :
  KT H (kvs.map λkv=>if kv.1=k then (kv.1,y) else kv) (xs.map (putAt k u)):=by
 induction r with
 |nil=>exact .nil
 |@cons p q ps qs h t ih =>
  rw [List.map_cons,List.map_cons]
  refine .cons ?_ ih
  obtain ⟨h1,h2,h3⟩:=h
  unfold putAt
  by_cases e:p.1=k
  ·rw [if_pos e,if_pos (h1.symm.trans e)];exact ⟨h1,h2,ry⟩
  ·rw [if_neg e,if_neg (λz=>e (h1.trans z))];exact ⟨h1,h2,h3⟩
theorem KT.put {H:Hp}{kvs:List (List Key×V)}{xs:List (List Key×Addr×Value)}(r:KT H kvs xs) (k:List Key){b:Addr}{y:V}{u:Value}(hb:H b=some (.tup (k.map kV))) (ry:ak y u) :
  KT H (bL kvs k y) (storedH xs k b u):=by
 have e:(kvs.any λkv=>decide (kv.1=k))=(atKey xs k).isSome:=by
  rw [oJ,(r.val k).isSome_eq,Option.isSome_map]
 unfold bL storedH
 rw [e]
 by_cases q:(atKey xs k).isSome=true
 ·rw [if_pos q,if_pos q];exact r.repl k ry
 ·rw [if_neg q,if_neg q];exact Paired.snoc r ⟨rfl,hb,ry⟩
theorem KT.keeps {H H':Hp}{kvs:List (List Key×V)}{xs:List (List Key×Addr×Value)}(r:KT H kvs xs) (ht:∀ b ys,H b=some (.tup ys)->H' b=some (.tup ys)):KT H' kvs xs :=
 Paired.mapP r λ_ _ z=>⟨z.1,ht _ _ z.2.1,z.2.2⟩
section
variable {P:Program}{w:World}{H:Hp}{h:Heap}{a:Addr}
theorem rP {u:HO}(ok:HOk P w H h) (e:Rd H a u):aM P w H h a u:=e.ok ok
theorem C5 {kvs:List (Key×V)}(ok:HOk P w H h) (e:Rd H a (.dK kvs)):kvs.length<=sizeLine/\(a==sysModules)=false/\∃ vs,KV kvs vs/\h.DictOf (aS P w) a vs :=
 show aM P w H h a (.dK kvs) from rP ok e
theorem gC {kvs:List (Key×V)}(ok:HOk P w H h) (e:H a=some (.dK kvs)):kvs.length<=sizeLine/\(a==sysModules)=false/\∃ vs,KV kvs vs/\h.DictOf (aS P w) a vs:=C5 ok (.inl e)
theorem qh {ks:List Key}(ok:HOk P w H h) (e:H a=some (.tup (ks.map kV))):(tupleKind (aS P w)).is h ks a:=by
 obtain ⟨_,its,r,o,h1,h2,n,h3⟩:=(show aM P w H h a (.tup (ks.map kV)) from ok a _ e)
 exact ⟨o,its.toArray,n,h1,h2,h3,by simpa using oi r⟩
theorem C6 {kvs:List (List Key×V)}(ok:HOk P w H h) (e:Rd H a (.dT kvs)):kvs.length<=sizeLine/\(a==sysModules)=false /\
  ∃ xs,KT H kvs xs/\h.DictOfH (tupleKind (aS P w)) a xs:=by
 obtain ⟨z,y,xs,r,o,es,ep,h1,h2,h3,h4,h5⟩:=(show aM P w H h a (.dT kvs) from rP ok e)
 refine ⟨z,y,xs,r,o,es,ep,h1,h2,h3,h4,λx hx=>?_,h5⟩
 have all:∀ {l:List (List Key×V)}{m:List (List Key×Addr×Value)},KT H l m->∀ x∈m,(tupleKind (aS P w)).is h x.1 x.2.1:=by
  intro l m q
  induction q with
  |nil=>intro x hx;exact nomatch hx
  |@cons p q ps qs hq t ih =>
   intro x hx
   rcases List.mem_cons.mp hx with e|hx
   ·subst e
    exact qh ok (by rw [<- hq.1];exact hq.2.1)
   ·exact ih x hx
 exact all r x hx
theorem C7 {kvs:List (List Key×V)}(ok:HOk P w H h) (e:H a=some (.dT kvs)):kvs.length<=sizeLine/\(a==sysModules)=false /\
  ∃ xs,KT H kvs xs/\h.DictOfH (tupleKind (aS P w)) a xs:=C6 ok (.inl e)
end
def FJ (H:Hp) (a:Addr) (y:V) (r:Option V):Prop :=
 (∃ kvs k,Rd H a (.dK kvs)/\y=kV k/\r=aZ kvs k)\/∃ kvs k b,Rd H a (.dT kvs)/\y=.ref b/\H b=some (.tup (k.map kV))/\r=aZ kvs k
def jv (H:Hp) (a:Addr) (y v:V) (H':Hp):Prop :=
 (∃ kvs k,H a=some (.dK kvs)/\y=kV k/\kvs.length<sizeLine/\H'=upd H a (.dK (bL kvs k v))) \/
 ∃ kvs k b,H a=some (.dT kvs)/\y=.ref b/\H b=some (.tup (k.map kV))/\kvs.length<sizeLine/\H'=upd H a (.dT (bL kvs k v))
theorem jv.k {H:Hp}{a:Addr}{kvs:List (Key×V)}{k:Key}{v:V}(e:H a=some (.dK kvs)) (hl:kvs.length<sizeLine):jv H a (kV k) v (upd H a (.dK (bL kvs k v))):=.inl ⟨kvs,k,e,rfl,hl,rfl⟩
section
variable {X:Cx}{pins:List (Addr×Obj)}{σ:St}{H:Hp}{s:Shared}{a:Addr}{y v:V}{u r:Value}{o:Option V}{A:Around}{E:Value->Shared->Prop}
theorem Inv.big (I:Inv X pins σ H s):sysModules<s.heap.objs.size:=by
 have h:mainGlobals<s.heap.objs.size:=(I.mod.glob.keeps I.bk).lt
 exact Nat.lt_trans (by decide) h
theorem kA {h':Heap}{t':Nat}{ob:HO}(I:Inv X pins σ H s) (mu:Mut (H a)) (hs:Heap.SameBut a s.heap h') (he:∃ q,h'.get? a=some q) (new:aM X.prog X.w (upd H a ob) h' a ob) :
  Inv X pins σ (upd H a ob) { s with heap:=h',toks:=t' } :=
 I.write (x:=a) (e:=a) mu (.inl rfl) (λb q hb z=>(hs.2 b hb).trans z) he new
theorem qi {P:Program}{w:World}{H':Hp}{h':Heap}{kvs:List (Key×V)}{vs:List (Key×Value)}(z:kvs.length<=sizeLine) (hd:(a==sysModules)=false) (rel:KV kvs vs) (dd:h'.DictOf (aS P w) a vs) :
  aM P w H' h' a (.dK kvs):=⟨z,hd,vs,rel,dd⟩
theorem vE {H':Hp}{Q:Unit->Shared->Prop}(hu:A.units+1<cLine) (I:Inv X pins σ H s) (g:jv H a y v H') (ry:ak y u) (rv:ak v r) (h:∀ s',Inv X pins σ H' s'->Q () s') :
  wpAny (model X.prog X.w) A (setItem (.ref a) u r) Q E s:=by
 rcases g with ⟨kvs,k,e,ey,l,eH⟩|⟨kvs,k,b,e,ey,eb,l,eH⟩
 ·subst ey eH
  obtain ⟨z,hd,vs,rel,dd⟩:=gC I.hok e
  have hz:vs.length<=sizeLine:=by rw [<- rel.length];exact z
  have hl:(bL kvs k v).length<=sizeLine:=by have:=nt kvs k v;omega
  refine wpAny_setItem_pairs (hsz:=hz) (fu ry) dd λh' dd' hs=>h _ ?_
  have he:∃ q,h'.get? a=some q:=let ⟨q,_,_,hq,_⟩:=dd';⟨q,hq⟩
  exact kA I (by rw [e];exact True.intro) hs he (qi hl hd (rel.put k rv) dd')
 ·subst ey eH
  cases (show u=Value.ref b from ry)
  obtain ⟨z,hd,xs,rel,dd⟩:=C7 I.hok e
  have hz:xs.length<=sizeLine:=by rw [<- Paired.length rel];exact z
  have hl:(bL kvs k v).length<=sizeLine:=by have:=nt kvs k v;omega
  refine wpAny_setItem_heap (hsz:=hz) (tupleKind_room_in1 hu) (qh I.hok eb) dd λh' dd' hs=>h _ ?_
  obtain ⟨q,es,ep,hq,h2,h3,h4,_,h5⟩:=dd'
  refine kA I (by rw [e];exact True.intro) hs ⟨q,hq⟩ ⟨hl,hd,_,(rel.put k eb rv).keeps λc ys ec=>?_,q,es,ep,hq,h2,h3,h4,h5⟩
  rw [ap (cF ec e (λz=>nomatch z))]
  exact ec
end
section
variable {X:Cx}{pins:List (Addr×Obj)}{σ:St}{H:Hp}{s:Shared}{a:Addr}{kvs:List (Key×V)}{k:Key}{u:Value}{A:Around}{E:Value->Shared->Prop}
theorem C8 {v:V}{more:List Value}{Q:Value->Shared->Prop}(I:Inv X pins σ H s) (e:H a=some (.dK kvs)) (ry:ak (kV k) u) (l:aZ kvs k=some v) (hm:more=[]\/∃ x,more=[x])
  (h:∀ w' s',Inv X pins σ (upd H a (.dK (dP kvs k))) s'->ak v w'->Q w' s'):wpAny (model X.prog X.w) A (call (.builtin "dict.pop") (.ref a::u::more)) Q E s:=by
 obtain ⟨z,hd,vs,rel,dd⟩:=gC I.hok e
 obtain ⟨w',hw,rw'⟩:=bB.some_of (v:=v) (o:=valueAt vs k) (by rw [<- l];exact rel.val k)
 have hp:(keyPart u).isSome=true:=by
  cases k with
  |inl i=>obtain ⟨t,q⟩:=(show ∃ t,u=Value.int i t from ry);subst q;rfl
  |inr x=>obtain ⟨t,q⟩:=(show ∃ t,u=Value.str x t from ry);subst q;rfl
 have ha:argsOk "dict.pop" ⟨.ref a::u::more,[]⟩:=by
  rcases hm with q|⟨x,q⟩
  ·subst q;exact PySem.F.args_dict_pop_2 _ _
  ·subst q;exact PySem.F.args_dict_pop_3 _ _ _
 refine call_meetsIn PySem.F.slot_dict_pop dd.typeIs PySem.F.entry_dict_pop ha (meets_dict_pop_there (aS X.prog X.w) a (fu ry) more hm hp)
  ⟨vs,w',dd,by rw [<- rel.length];exact z,hw,λh' dd' hs=>h w' _ ?_ rw'⟩
 have he:∃ q,h'.get? a=some q:=let ⟨q,_,_,hq,_⟩:=dd';⟨q,hq⟩
 exact kA I (by rw [e];exact True.intro) hs he (qi (Nat.le_trans (wS kvs k) z) hd (rel.drop k) dd')
end
def jw (i:Expr):Prop:=∀ ov iv,subscripted i false ov iv=operate [ov,iv] (getItem ov iv)
theorem yz {prog:Program}{w:World}{A:Around}{E:Value->Shared->Prop}{s:Shared}{env:Env}{value slice:Expr}{pos:Pos}{T id:String}{Q:Value->Shared->Prop}
  (hl:typeLookup (.type T) "__getitem__"=pure (some (.builtin id))) (hs:jw slice)
  (h:wpAny (model prog w) A (eval value env) (λo s₁=>wpAny (model prog w) A (eval slice env) (λi s₂=>s₂.TypeIs o T/\wpAny (model prog w) A (getItem o i) Q E s₂) E s₁) E s) :
  wpAny (model prog w) A (eval (.Subscript value slice pos) env) Q E s:=by
 refine Subscript_ (wpAny_mono h (λo s₁ h₁=>wpAny_mono h₁ (λi s₂ h₂=>?_) λ_ _ x=>x) λ_ _ x=>x)
 obtain ⟨hT,h₂⟩:=h₂
 unfold subscriptTail
 refine wpAny_bind ?_
 rw [getitemInPython_of_ne hT.not_modules]
 refine wpAny_bind (wpAny_specialOf hT hl ?_)
 have fin:wpAny (model prog w) A (subscripted slice false o i) (λr s₃=>wpAny (model prog w) A (letTemporaryGo value o r >>= λ_=>pure r) Q E s₃) E s₂:=by
  rw [hs o i]
  exact wpAny_operating (wpAny_mono h₂ (λr s₃ h₃=>wpAny_bind (wpAny_letTemporaryGo (wpAny_pure h₃))) λ_ _ x=>x)
 first
  |exact wpAny_pure (wpAny_bind fin)
  |exact wpAny_bind (wpAny_pure (wpAny_bind fin))
  |exact wpAny_bind fin
section
variable {X:Cx}{o i e value:Expr}{pos pos' tpos:Pos}{td ty tv:TE}
end
theorem wT {P:Program}{w:World}{H:Hp}(h:Heap) (hb:sysModules<h.objs.size):aM P w H (h.push { cls:=.type "dict",data:=.dict #[] }) h.objs.size (.dK []) :=
 ⟨Nat.zero_le _,beq_eq_false_iff_ne.mpr (Ne.symm (Nat.ne_of_lt hb)),[],.nil,Heap.DictOf.new h⟩
def AV:TE:=λ_ H Q=>∀ p,H p=none->Q (.ref p) (upd H p (.dK []))
section
variable {X:Cx}{pos:Pos}
theorem wU:PE X (.Dict [] [] pos) AV:=λpins s σ H Q I h =>
 wpAny_Dict_empty ⟨.ref s.heap.objs.size,_,I.laid (a:=s.heap.objs.size) (o:=.dK []) (t':=s.toks) (λ_ _ q=>Heap.get?_push_of_some _ q) (Nat.le_refl _) (wT s.heap I.big),rfl,h _ (I.hok.fresh (Nat.le_refl _))⟩
end
def FH (kvs more:List (Key×V)):List (Key×V):=more.foldl (λacc kv=>bL acc kv.1 kv.2) kvs
structure M1 (X:Cx) (o:Expr) (m:Str) (apos:Pos) (e:Expr) (cpos:Pos):Prop where
 base:attributeBase o m X.env (eval o X.env)=eval o X.env
 few:((backTo cpos (starEach [e] X.env)).all (λx=>!x.1)&&(backToKw cpos (keywordEach [] X.env)).all (λx=>x.1.isSome)
  && decide (([e]:List Expr).length+([]:List Keyword).length+(if ([]:List Keyword).isEmpty then 0 else 1)<30))=true
 line:(apos.endLine==cpos.line)=true
 trees:backTo cpos (starEach [e] X.env)=[(false,eval e X.env)]
structure M2 (X:Cx) (o:Expr) (m:Str) (apos:Pos) (e f:Expr) (cpos:Pos):Prop where
 base:attributeBase o m X.env (eval o X.env)=eval o X.env
 few:((backTo cpos (starEach [e,f] X.env)).all (λx=>!x.1)&&(backToKw cpos (keywordEach [] X.env)).all (λx=>x.1.isSome)
  && decide (([e,f]:List Expr).length+([]:List Keyword).length+(if ([]:List Keyword).isEmpty then 0 else 1)<30))=true
 line:(apos.endLine==cpos.line)=true
 trees:backTo cpos (starEach [e,f] X.env)=[(false,eval e X.env),(false,eval f X.env)]
section
variable {X:Cx}{pins:List (Addr×Obj)}{σ:St}{H:Hp}{s:Shared}{a:Addr}{y d:V}{u r:Value}{o:Option V}{A:Around}{E:Value->Shared->Prop}
end
section
variable {X:Cx}{o e f:Expr}{apos cpos:Pos}{td ty tx:TE}
end
section
variable {X:Cx}{pins:List (Addr×Obj)}{σ:St}{H:Hp}{s:Shared}{a:Addr}{kvs:List (Key×V)}{A:Around}{E:Value->Shared->Prop}
end
section
variable {X:Cx}{pins:List (Addr×Obj)}{σ:St}{H:Hp}{s:Shared}{a:Addr}{y:V}{u:Value}{A:Around}{E:Value->Shared->Prop}
end
section
variable {κ:Type}[DecidableEq κ]
end
def a8 (D:Addr) (zs:List V):HO:=.ext λh=>zs.length<=sizeLine/\∃ (its:List Value) (n:Nat),ai zs its/\h.get? D=some { cls:=.type "list",data:=.seq its.toArray n }
theorem Inv.toAcc {X:Cx}{pins:List (Addr×Obj)}{σ:St}{H:Hp}{s:Shared}{D:Addr}{zs:List V}(I:Inv X pins σ H s) (h:H D=some (.lst zs)):Inv X pins σ (upd H D (a8 D zs)) s:=by
 obtain ⟨z,its,n,r,e⟩:=I.hok D _ h
 obtain ⟨hh,g,d,t,os⟩:=s
 exact I.write (t':=t) (h':=hh) (x:=D) (e:=D) (by rw [h];trivial) (.inl rfl) (λb u _ q=>q) ⟨_,e⟩ ⟨⟨z,its,n,r,e⟩,⟨_,e⟩,λh1 h2 zz42 k=>by obtain ⟨z',its',n',r',e'⟩:=zz42;exact ⟨z',its',n',r',k _ e'⟩⟩
theorem Inv.ofAcc {X:Cx}{pins:List (Addr×Obj)}{σ:St}{H:Hp}{s:Shared}{D:Addr}{zs:List V}(I:Inv X pins σ H s) (h:H D=some (a8 D zs)):Inv X pins σ (upd H D (.lst zs)) s:=by
 obtain ⟨⟨z,its,n,r,e⟩,_,_⟩:=I.hok D _ h
 obtain ⟨hh,g,d,t,os⟩:=s
 exact I.write (t':=t) (h':=hh) (x:=D) (e:=D) (by rw [h];trivial) (.inl rfl) (λb u _ q=>q) ⟨_,e⟩ ⟨z,its,n,r,e⟩
section
variable {X:Cx}{pins:List (Addr×Obj)}{σ:St}{H:Hp}{s:Shared}{scope:Scope}{Nc:List Str}{fp:List Addr}{C:Addr}
def qj (J:It) (n:Nat) (caps:List Nat) (g:TG) (tt:TT) (te:TE) (σ:St) (H1:Hp) (Q:VK):Prop:=∀ D,H1 D=none->∃ W:Nat->Nat->List V->St->Hp->Prop,(∃ m,W 0 m [] (e7 n caps σ) (upd H1 D (a8 D [])))/\∀ i m zs σc H,W i m zs σc H ->
 H D=some (a8 D zs)/\((J.stop i H/\Q (.ref D) (upd H D (.lst zs)))\/(J.go i H/\∃ N:List V->St->Hp->Prop,(∀ zs' σ' H',N zs' σ' H'->∃ m',m'<m/\W (i+1) m' zs' σ' H')/\∀ x H',J.yld i H x H'->g x σc H' λσ2 H2=>tt σ2 H2 λb H3 =>
  if b=true then te σ2 H3 λy H4=>H4 D=some (a8 D zs)/\zs.length<sizeLine/\N (zs++[y]) σ2 (upd H4 D (a8 D (zs++[y]))) else N zs σ2 H3))
def kX (wi:TI) (n:Nat) (caps:List Nat) (g:TG) (tt:TT) (te:TE):TE:=λσ H Q=>wi σ H λJ H1=>qj J n caps g tt te σ H1 Q
variable {elt iter target:Expr}{ifs:List Expr}{pos:Pos}{n:Nat}{caps:List Nat}{wi:TI}{g:TG}{tt:TT}{te:TE}
theorem nu {J:It}{it:Addr}{tn:Nat->Heap->Prop}{Q:VK}{E:Value->Shared->Prop}{RR:Value->Addr->Result->Shared->Prop}(hcalm:X.calm=true) (S:CompSc X scope) (hcp:dO X.N Nc scope n caps=true)
  (hg:∀ C s₀ H₀ ex,PG (X.comp scope Nc C s₀ H₀ ex) target g) (ht:∀ C s₀ H₀ ex,PTs (X.comp scope Nc C s₀ H₀ ex) ifs tt) (he:∀ C s₀ H₀ ex,PE (X.comp scope Nc C s₀ H₀ ex) elt te)
  (I:Inv X pins σ H s) (T:Turn X.prog X.w X.K target J fp it tn) (t0:tn 0 s.heap) (hf:∀ b∈fp,bH X pins H b) (hw:qj J n caps g tt te σ H Q)
  (fin:∀ (D:Addr) (s':Shared) (H':Hp) (m:Str->Option Value),Inv X pins σ H' s'->H' (s.heap.objs.size+1)=none->s'.heap.Ns (s.heap.objs.size+1) m->Q (.ref D) H'->RR (.ref D) (s.heap.objs.size+1) (.ok .next) s') :
  wpAny (model X.prog X.w) X.A (newList []) (λacc s₃=>wpAny (model X.prog X.w) X.A (newFunctionEnv scope X.env.globals (cq scope X.env) [] X.env.qual none .none (some X.env)) (λcenv s₄ =>
   codeAny (model X.prog X.w) X.A (.compStart (.ListComp elt [⟨target,iter,ifs,0⟩] scope pos) 0 (.ref it) acc { cenv with scope:=relabel scope X.env }) (RR acc cenv.locals) s₄) E s₃) E s:=by
 refine wpAny_newObj_type (wpAny_newFunctionEnv S.nocell (by intro y hy;simp at hy) (λh₁ hns₁ hsb₁=>?_) S.kind)
 dsimp only at hns₁ hsb₁ ⊢
 generalize hH2:s.heap.push { cls:=.type "list",dict:=none,data:=.seq ([]:List Value).toArray }=H2 at hns₁ hsb₁ ⊢
 have hC:H2.objs.size=s.heap.objs.size+1:=by rw [<- hH2,Heap.size_push]
 rw [hC] at hns₁ hsb₁
 have hlt:∀ b∈fp,b<s.heap.objs.size:=λb hb=>by
  obtain ⟨o,e,_⟩:=T.obj _ _ t0 b hb
  exact Heap.lt_size e
 have old:∀ b o,s.heap.get? b=some o->h₁.get? b=some o:=λb o e=>hsb₁.extBut b o (Nat.ne_of_lt (Nat.lt_succ_of_lt (Heap.lt_size e))) (Heap.get?_push_of_some _ (hH2 ▸ Heap.get?_push_of_some _ e))
 have hD:h₁.get? s.heap.objs.size=some { cls:=.type "list",data:=.seq #[] 0 }:=hsb₁.extBut _ _ (Nat.ne_of_lt (Nat.lt_succ_self _)) (Heap.get?_push_of_some _ (hH2 ▸ Heap.get?_push_size _ rfl))
 have I0:Inv (X.comp scope Nc (s.heap.objs.size+1) s H fp) [] (e7 n caps σ) (upd H s.heap.objs.size (.lst [])) { s with heap:=h₁,toks:=s.toks+([]:List (Str×Value)).length } :=
  uS I S hcp hf hlt hns₁ old hD
 replace I0:=I0.toAcc (D:=s.heap.objs.size) aA
 rw [fV] at I0
 obtain ⟨W,⟨m0,w0⟩,turn⟩:=hw s.heap.objs.size I.fresh
 have fr0:∀ b∈fp,upd H s.heap.objs.size (a8 s.heap.objs.size []) b=none:=λb hb=>by
  rw [ap (Nat.ne_of_lt (hlt b hb))]
  exact (hf b hb).1
 have stat:∀ {H':Hp},(∀ b∈fp,H' b=none)->∀ b∈fp,bH (X.comp scope Nc (s.heap.objs.size+1) s H fp) [] H' b:=λhn b hb =>
  ⟨hn b hb,(λe=>Nat.ne_of_lt (Nat.lt_succ_of_lt (hlt b hb)) e),I0.ok.exfs b hb,.inl hb,(I0.ok.exf b hb).2,λp hp=>absurd (show p∈([]:List (Addr×Obj)) from hp) (by simp)⟩
 have loop:codeAny (model X.prog X.w) X.A (.compLoop (.ListComp elt [⟨target,iter,ifs,0⟩] scope pos) 0 (.ref it) (.ref s.heap.objs.size) (compEnvC scope (cq scope X.env) (s.heap.objs.size+1) X.env))
   (RR (.ref s.heap.objs.size) (s.heap.objs.size+1)) { s with heap:=h₁,toks:=s.toks+([]:List (Str×Value)).length }:=by
  refine uG (λm s'=>∃ i zs σ' H',Inv (X.comp scope Nc (s.heap.objs.size+1) s H fp) [] σ' H' s'/\tn i s'.heap/\(∀ b∈fp,H' b=none)/\W i m zs σ' H') ?_ m0
   ⟨0,_,_,_,I0,T.keep _ _ _ t0 λb _ o e=>old b o e,fr0,w0⟩
  rintro m s3 ⟨i,zs,σ3,H3,I3,st3,fr3,w3⟩
  obtain ⟨hD3,w3'⟩:=turn i m zs σ3 H3 w3
  rcases w3' with ⟨stop,qn⟩|⟨go,N,hN,step⟩
  ·refine thn (T.done (X.comp scope Nc (s.heap.objs.size+1) s H fp) rfl rfl rfl hcalm i [] s3 σ3 H3 _ I3 (stat fr3) st3 stop) λr s4 ⟨hr,I4⟩=>?_
   subst hr
   obtain ⟨m4,hn4,_⟩:=I4.loc
   have I4':=I4.ofAcc hD3
   exact fin _ s4 _ m4 (vx I hf I4') I4'.free hn4 qn
  ·refine thn (T.item (X.comp scope Nc (s.heap.objs.size+1) s H fp) rfl rfl rfl hcalm i [] s3 σ3 H3 _ I3 (stat fr3) st3 go) λr s4 ⟨u,hr,h4⟩=>?_
   subst hr
   refine thn h4 λ_ s5 zz43=>?_
   obtain ⟨x,H5,I5,r5,y5,st5,fr5⟩:=zz43
   have I5':=I5.pinned (stat fr5) (T.obj _ _ st5)
   refine thn (hg _ _ _ _ _ s5 σ3 H5 x u _ I5' r5 (step x H5 y5)) λ_ s6 zz44=>?_
   obtain ⟨σ6,H6,I6,q6⟩:=zz44
   refine thn (ht _ _ _ _ _ s6 σ6 H6 _ I6 q6) λok s7 zz45=>?_
   obtain ⟨H7,I7,q7⟩:=zz45
   have again:∀ {s8:Shared}{H8:Hp}{zs8:List V},Inv (X.comp scope Nc (s.heap.objs.size+1) s H fp) ([]++gi fp s5.heap) σ6 H8 s8->N zs8 σ6 H8 ->
     ∃ m',m'<m/\∃ i zs σ' H',Inv (X.comp scope Nc (s.heap.objs.size+1) s H fp) [] σ' H' s8/\tn i s8.heap/\(∀ b∈fp,H' b=none)/\W i m' zs σ' H':=fun {s8 H8 zs8} I8 n8=>by
    obtain ⟨m',hm,w8⟩:=hN zs8 σ6 H8 n8
    refine ⟨m',hm,i+1,zs8,σ6,H8,I8.unpinned,T.keep _ _ _ st5 λb hb o e=>(I8.pin (b,o) (List.mem_append_right _ (List.mem_append_right _ (iw hb e)))).1,λb hb=>?_,w8⟩
    obtain ⟨o,e,d⟩:=T.obj _ _ st5 b hb
    exact (I8.pin (b,o) (List.mem_append_right _ (List.mem_append_right _ (iw hb e)))).2.1
   cases ok with
   |false =>
    rw [if_neg Bool.false_ne_true] at q7 ⊢
    exact again I7 q7
   |true =>
    rw [if_pos rfl] at q7 ⊢
    refine thn (he _ _ _ _ _ s7 σ6 H7 _ I7 q7) λy s8 zz46=>?_
    obtain ⟨v8,H8,I8,r8,hz,hl,q8⟩:=zz46
    refine thn (n6 _ s8 σ6 _ (.ref s.heap.objs.size) [v8] (.ref s.heap.objs.size) [y] (λ_ H9=>H9=upd H8 s.heap.objs.size (.lst (zs++[v8]))) (I8.ofAcc hz) rfl (.cons r8 .nil) ⟨_,zs,v8,rfl,rfl,aA,hl,by rw [fV]⟩) λ_ s9 zz47=>?_
    obtain ⟨_,H9,I9,_,q9⟩:=zz47
    subst q9
    have I9':=I9.toAcc (D:=s.heap.objs.size) aA
    rw [fV] at I9'
    exact again I9' q8
 have e2:({ newEnv scope H2.objs.size X.env.globals (cq scope X.env) X.env.qual none .none (some X.env) builtinsNs with scope:=relabel scope X.env }:Env)=compEnvC scope (cq scope X.env) (s.heap.objs.size+1) X.env:=by
  rw [hC];rfl
 have e3:(newEnv scope H2.objs.size X.env.globals (cq scope X.env) X.env.qual none .none (some X.env) builtinsNs).locals=s.heap.objs.size+1:=hC
 rw [e2,e3]
 exact codeAny_compStart_list loop (T.self _ 0 _ _ _ (T.keep _ _ _ t0 λb _ o e=>old b o e) loop)
theorem wW (Nc:List Str) (n:Nat) (caps:List Nat) (hcalm:X.calm=true) (hi:PI X target iter wi) (hg:∀ C s₀ H₀ ex,PG (X.comp scope Nc C s₀ H₀ ex) target g) (ht:∀ C s₀ H₀ ex,PTs (X.comp scope Nc C s₀ H₀ ex) ifs tt)
  (he:∀ C s₀ H₀ ex,PE (X.comp scope Nc C s₀ H₀ ex) elt te) (hsc:eZ X.env.scope scope=true:=by rfl) (hcp:dO X.N Nc scope n caps=true:=by rfl) (hs:∀ x,foldedSetIterable iter X.env x=pure x:=by intro _;rfl) :
  PE X (.ListComp elt [⟨target,iter,ifs,0⟩] scope pos) (kX wi n caps g tt te):=by
 intro pins s σ H Q I h
 have S:=oa hsc
 rw [eval_ListComp]
 refine wpAny_comprehension_free (use:=none) rfl hs (S.clos I.ok) S.kind S.loc (thn (hi pins s σ H _ I h) λv s1 h1=>thn h1 λitv s2 h2=>?_)
 obtain ⟨it,fp,tn,J,H2,e,I2,T,t2,f2,hw⟩:=h2
 subst e
 refine nu (RR:=λacc C=>compPost (model X.prog X.w) X.A X.xe none (EP X pins σ Q) acc C) hcalm S hcp hg ht he I2 T t2 f2 hw ?_
 intro D s' H' m I' hn hns q
 refine ⟨m,hns,λh' hs'=>⟨.ref D,H',?_,rfl,q⟩⟩
 refine I'.but hs' hn (Nat.le_trans I2.sz (Nat.le_succ _)) (λe=>?_) (λx c hc e=>?_) λp hp e=>?_
 ·exact Nat.ne_of_lt (Nat.lt_succ_of_lt I2.lt) e.symm
 ·obtain ⟨v,ic⟩:=I2.cell x c hc
  exact Nat.ne_of_lt (Nat.lt_succ_of_lt ic.lt) e
 ·exact Nat.ne_of_lt (Nat.lt_succ_of_lt (Heap.lt_size (I2.pin p hp).1)) e
theorem wX {i:Nat}{x:Str}{px spos:Pos}(Nc:List Str) (n:Nat) (caps:List Nat) (hcalm:X.calm=true) (hN:X.N.Nodup) (hix:X.N[i]?=some x) (hx:Loc X.env.scope x) (hi:PI X target iter wi) (hg:∀ C s₀ H₀ ex,PG (X.comp scope Nc C s₀ H₀ ex) target g)
  (ht:∀ C s₀ H₀ ex,PTs (X.comp scope Nc C s₀ H₀ ex) ifs tt) (he:∀ C s₀ H₀ ex,PE (X.comp scope Nc C s₀ H₀ ex) elt te)
  (hsw:swapsWith (.ListComp elt [⟨target,iter,ifs,0⟩] scope pos) (some (.Name x px)) spos.line X.env=pure true:=by rfl) (hsc:eZ X.env.scope scope=true:=by rfl) (hcp:dO X.N Nc scope n caps=true:=by rfl)
  (hs:∀ x,foldedSetIterable iter X.env x=pure x:=by intro _;rfl) (hf:X.fn x=true\/X.env.scope.names.lookup x=some .local:=by first|exact .inl rfl|exact .inr rfl|assumption) :
  PS X (.Assign [.Name x px] (.ListComp elt [⟨target,iter,ifs,0⟩] scope pos) spos) (gP (kX wi n caps g tt te) (i7 i)):=by
 intro pins s σ H D I h
 have S:=oa hsc
 rw [exec_Assign_Name_used _ _ _ _ hsw]
 refine wpAny_bind (wpAny_standAt (wpAny_bind ?_))
 show wpAny _ X.A (do let _ <- comprehension (.ListComp elt [⟨target,iter,ifs,0⟩] scope pos) scope X.env _ (newList []) false (eval iter X.env) (some (assign (.Name x px) X.env))) _ _ s
 refine wpAny_bind (thn (wpAny_comprehension_free (use:=some (assign (.Name x px) X.env)) (Q:=λ_ s'=>SP X pins D .next s') rfl hs (S.clos I.ok) S.kind S.loc
  (thn (hi pins s σ H _ I h) λv s1 h1=>thn h1 λitv s2 h2=>?_)) λ_ s' hq=>wpAny_pure (wpAny_pure hq))
 obtain ⟨it,fp,tn,J,H2,e,I2,T,t2,f2,hw⟩:=h2
 subst e
 refine nu (RR:=λacc C=>compPost (model X.prog X.w) X.A X.xe (some (assign (.Name x px) X.env)) (λ_ s'=>SP X pins D .next s') acc C) hcalm S hcp hg ht he I2 T t2 f2 hw ?_
 intro Da s' H' m I' hn hns q
 show wpAny _ X.A (assign (.Name x px) X.env (.ref Da)) _ _ s'
 obtain ⟨oC,es,ep,eo,ed,rC⟩:=id hns
 have nl:s2.heap.objs.size+1≠X.env.locals:=λe=>Nat.ne_of_lt (Nat.lt_succ_of_lt I2.lt) e.symm
 have nc:∀ y c,X.env.cells.lookup y=some c->c≠s2.heap.objs.size+1:=λy c hc e=>by
  obtain ⟨v,ic⟩:=I2.cell y c hc
  exact Nat.ne_of_lt (Nat.lt_succ_of_lt ic.lt) e
 have np:∀ p∈X.pn++pins,p.1≠s2.heap.objs.size+1:=λp hp e=>Nat.ne_of_lt (Nat.lt_succ_of_lt (Heap.lt_size (I2.pin p hp).1)) e
 have I3:Inv X (pins++[(s2.heap.objs.size+1,oC)]) σ H' s':=I'.pins_of λp hp=>by
  rcases List.mem_append.mp hp with z|z
  ·exact I'.pin p (List.mem_append_right _ z)
  ·obtain rfl:p=(s2.heap.objs.size+1,oC):=by simpa using z
   refine ⟨eo,hn,nl,λhb=>?_,λv e=>?_⟩
   ·have h1:=I2.nofs (a:=s2.heap.objs.size+1) (Nat.le_succ _)
    exact h1 hb
   ·rw [ed] at e;cases e
 refine wpAny_assign_Name (fR I3 hN hix hx (u:=.ref Da) (v:=.ref Da) rfl (λs4 I4=>?_) hf)
 have g4:s4.heap.get? (s2.heap.objs.size+1)=some oC:=(I4.pin (s2.heap.objs.size+1,oC) (List.mem_append_right _ (List.mem_append_right _ (by simp)))).1
 refine ⟨m,⟨oC,es,ep,g4,ed,rC⟩,λh' hs'=>?_⟩
 exact ⟨_,H',I4.unpinned.but hs' hn (Nat.le_trans I2.sz (Nat.le_succ _)) nl nc np,q⟩
end
def tq (w:World) (od:Obj) (kvs:List (Key×V)):Prop:=kvs.length<=sizeLine/\∀ P:Program,∃ vs,KV kvs vs/\od.IsDictOf (aS P w) vs
def fzH (w:World) (a:Addr) (od:Obj) (kvs:List (Key×V)):HO:=.ext λh=>h.get? a=some od/\tq w od kvs/\(a==sysModules)=false
theorem vF {P P':Program}{w:World}{es:List DictEntry}{vs:List (Key×Value)}(d:Pairs (aS P w) es vs):Pairs (aS P' w) es vs:=by
 induction d with
 |nil=>exact .nil
 |cons h1 h2 _ ih=>exact .cons h1 h2 ih
theorem mo {α β:Type}{F:α->β->Prop}:∀ {l:List α}{m:List β}{i:Nat}{b:β},Paired F l m->m[i]?=some b->∃ a,l[i]?=some a/\F a b
 |_,_,_,_,.nil,e=>by simp at e
 |_,_,0,_,.cons h _,e=>by simp at e;subst e;exact ⟨_,rfl,h⟩
 |_,_,i+1,_,.cons _ t,e=>by
  obtain ⟨a,h1,h2⟩:=mo (i:=i) t (by simpa using e)
  exact ⟨a,by simpa using h1,h2⟩
theorem yA {P P':Program}{w:World}{od:Obj}{vs:List (Key×Value)}(h:od.IsDictOf (aS P w) vs):od.IsDictOf (aS P' w) vs:=by
 obtain ⟨es,ep,a,b,c,d,e⟩:=h
 exact ⟨es,ep,a,b,c,vF d,e⟩
section
variable {X:Cx}{pins:List (Addr×Obj)}{σ:St}{H:Hp}{s:Shared}{a d:Addr}{od:Obj}{kvs:List (Key×V)}{k:Key}{y v:V}{u r:Value}{A:Around}{E:Value->Shared->Prop}
theorem C9 {P:Program}{w:World}{k:Key}{u:Value}(h:(aS P w).is k u=true):ak (kV k) u:=by
 rcases cB h with ⟨i,t,rfl,rfl⟩|⟨x,t,rfl,rfl⟩
 ·exact ⟨t,rfl⟩
 ·exact ⟨t,rfl⟩
theorem Inv.toFz (I:Inv X pins σ H s) (e:H a=some (.dK kvs)):∃ od,Inv X pins σ (upd H a (fzH X.w a od kvs)) s:=by
 obtain ⟨z,hd,vs,rel,dd⟩:=gC I.hok e
 obtain ⟨od,ho,hio⟩:=Heap.dictOf_iff.mp dd
 obtain ⟨hh,g,dr,t,os⟩:=s
 refine ⟨od,I.write (t':=t) (h':=hh) (x:=a) (e:=a) (by rw [e];trivial) (.inl rfl) (λb u _ q=>q) ⟨_,ho⟩ ⟨⟨ho,⟨z,λP=>⟨vs,rel,yA hio⟩⟩,hd⟩,⟨_,ho⟩,λh1 h2 p k=>⟨k _ p.1,p.2⟩⟩⟩
theorem gD (I:Inv X pins σ H s) (e:H a=some (fzH X.w a od kvs)):s.heap.get? a=some od/\tq X.w od kvs/\(a==sysModules)=false:=(I.hok a _ e).1
theorem Inv.ofFz (I:Inv X pins σ H s) (e:H a=some (fzH X.w a od kvs)):Inv X pins σ (upd H a (.dK kvs)) s:=by
 obtain ⟨ho,⟨z,dz⟩,hd⟩:=gD I e
 obtain ⟨vs,rel,dd⟩:=dz X.prog
 obtain ⟨hh,g,dr,t,os⟩:=s
 exact I.write (t':=t) (h':=hh) (x:=a) (e:=a) (by rw [e];trivial) (.inl rfl) (λb u _ q=>q) ⟨_,ho⟩ ⟨z,hd,vs,rel,Heap.dictOf_iff.mpr ⟨od,ho,dd⟩⟩
def RdK (w:World) (H:Hp) (a:Addr) (kvs:List (Key×V)):Prop:=H a=some (.dK kvs)\/∃ od,H a=some (fzH w a od kvs)
theorem rdK (I:Inv X pins σ H s) (e:RdK X.w H a kvs):kvs.length<=sizeLine/\(a==sysModules)=false/\∃ vs,KV kvs vs/\s.heap.DictOf (aS X.prog X.w) a vs:=by
 rcases e with e|⟨od,e⟩
 ·exact gC I.hok e
 ·obtain ⟨ho,⟨z,dz⟩,hd⟩:=gD I e
  obtain ⟨vs,rel,dd⟩:=dz X.prog
  exact ⟨z,hd,vs,rel,Heap.dictOf_iff.mpr ⟨od,ho,dd⟩⟩
theorem vG {Q:Value->Shared->Prop}(I:Inv X pins σ H s) (g:RdK X.w H a kvs) (l:aZ kvs k=some v) (ry:ak (kV k) u) (h:∀ w' s',Inv X pins σ H s'->ak v w'->Q w' s'):wpAny (model X.prog X.w) A (getItem (.ref a) u) Q E s:=by
 obtain ⟨z,hd,vs,rel,dd⟩:=rdK I g
 obtain ⟨w',hw,rw'⟩:=bB.some_of (v:=v) (o:=valueAt vs k) (by rw [<- l];exact rel.val k)
 exact wpAny_getItem_of (fu ry) dd.mapOf hw (h w' _ (I.tok _) rw')
theorem E8 {Q:Value->Shared->Prop}(I:Inv X pins σ H s) (g:RdK X.w H a kvs) (ry:ak (kV k) u) (h:∀ s',Inv X pins σ H s'->Q (.bool (aZ kvs k).isSome) s'):wpAny (model X.prog X.w) A (compareOp .In u (.ref a)) Q E s:=by
 obtain ⟨z,hd,vs,rel,dd⟩:=rdK I g
 refine wpAny_in_of (fu ry) hd dd.mapOf ?_
 rw [<- (rel.val k).isSome_eq]
 exact h _ (I.tok _)
theorem yB {Q:Value->Shared->Prop}(I:Inv X pins σ H s) (g:RdK X.w H a kvs) (ry:ak (kV k) u) (h:∀ s',Inv X pins σ H s'->Q (.bool (!(aZ kvs k).isSome)) s'):wpAny (model X.prog X.w) A (compareOp .NotIn u (.ref a)) Q E s:=by
 obtain ⟨z,hd,vs,rel,dd⟩:=rdK I g
 refine wpAny_notIn_of (fu ry) hd dd.mapOf ?_
 rw [<- (rel.val k).isSome_eq]
 exact h _ (I.tok _)
theorem E9 (I:Inv X pins σ H s) (g:RdK X.w H a kvs):s.TypeIs (.ref a) "dict" /\ ∀ b,Value.ref a=.ref b->∃ ob,s.heap.get? b=some ob/\ob.dict=none:=by
 obtain ⟨z,hd,vs,rel,dd⟩:=rdK I g
 refine ⟨dd.typeIs,λb q=>?_⟩
 cases q
 obtain ⟨ob,_,_,h1,h2,_⟩:=dd
 exact ⟨ob,h1,h2.2.1⟩
def gF (p d:Addr):HO:=.ext λh=>h.get? p=some { cls:=.type "dict_items",data:=.fields #[.ref d] }
def AW (w:World):V->List V->Hp->VK->Prop:=λx xs H Q=>∃ d kvs,x=.ref d/\xs=[]/\H d=some (.dK kvs)/\∀ p,H p=none->Q (.ref p) (upd H p (gF p d))
theorem wY:MtR X "dict.items" (AW X.w):=by
 rintro pins s σ H x xs v us Q I rx rs ⟨d,kvs,ex,exs,ed,q⟩
 subst ex exs
 cases rs
 cases (show v=Value.ref d from rx)
 obtain ⟨z,hd,vs,rel,dd⟩:=gC I.hok ed
 refine call_meetsIn PySem.F.slot_dict_items dd.typeIs PySem.F.entry_dict_items (PySem.F.args_dict_items_1 _) (meets_dict_items (aS X.prog X.w) d hd) ⟨⟨vs,dd⟩,?_⟩
 refine ⟨.ref s.heap.objs.size,_,I.laid (o:=gF s.heap.objs.size d) (t':=s.toks) (λb u e=>Heap.get?_push_of_some _ e) (Nat.le_refl _) ⟨Heap.get?_push_size _ rfl,⟨_,Heap.get?_push_size _ rfl⟩,λh1 h2 p k=>k _ p⟩,rfl,q _ (I.hok.fresh (Nat.le_refl _))⟩
def ItP (w:World) (d:Addr) (od:Obj) (kvs:List (Key×V)):It :=
 ⟨λi H=>H d=some (fzH w d od kvs)/\i<kvs.length,λi H x H'=>∃ p kv,kvs[i]?=some kv/\H p=none/\x=.ref p/\H'=upd H p (.tup [kV kv.1,kv.2]),λi H=>H d=some (fzH w d od kvs)/\kvs.length<=i⟩
theorem uT {P:Program}{w:World}{K:PySem.W.Frag}{elts:List Expr}{x1:Nat}{tpos:Pos}{vs:List (Key×Value)}{ep:Nat}(d it:Addr) (od:Obj) (kvs:List (Key×V)) (rel:KV kvs vs) (hne:d≠it) (hod:∀ h:Heap,h.get? d=some od->h.DictAt (aS P w) d vs ep) :
  Turn P w K (.Tuple elts x1 tpos) (ItP w d od kvs) [it] it (λi h=>∃ ok ov,IsItemIter h it d i vs.length ep ok ov) where
 mem:=by simp
 obj:=λi h st b hb=>by
  obtain rfl:b=it:=by simpa using hb
  obtain ⟨ok,ov,e⟩:=st
  exact ⟨_,e,λv z=>by cases z⟩
 keep:=λi h h' zz48 k=>by obtain ⟨ok,ov,e⟩:=zz48;exact ⟨ok,ov,k it (by simp) _ e⟩
 item:=by
  rintro X hP hw hK hc i pins s σ H E I hf ⟨ok,ov,st⟩ ⟨hg,hi⟩
  subst hP hw hK
  have hl:i<vs.length:=by rw [<- rel.length];exact hi
  obtain ⟨⟨k,x⟩,hx⟩:∃ p,vs[i]?=some p:=⟨vs[i],by simp [hl]⟩
  obtain ⟨f0,f1,f2,f3,f4,f5⟩:=hf it (by simp)
  refine wpAny_pyNext_items_item st (hod _ (gD I hg).1) hx λkey h' hkey st' ht hsz sb=>?_
  refine ⟨_,rfl,wpAny_letOwnedTupleGo_items st' λh2 st2 sb2=>?_⟩
  have hit:it<s.heap.objs.size:=Heap.lt_size st
  obtain ⟨kv,e1,e2,e3⟩:∃ kv,kvs[i]?=some kv/\kv.1=k/\ak kv.2 x:=by
   obtain ⟨kv,z1,z2⟩:=mo rel hx
   exact ⟨kv,z1,z2.1,z2.2⟩
  have ht2:h2.get? s.heap.objs.size=some { cls:=.type "tuple",data:=.seq #[key,x] }:=(sb2.2 _ (Nat.ne_of_gt hit)).trans ht
  have Im:Inv X pins σ (upd H s.heap.objs.size (.tup [kV kv.1,kv.2])) { s with heap:=s.heap.push { cls:=.type "tuple",data:=.seq #[key,x] },toks:=s.toks } :=
   I.laid (t':=s.toks) (λb u e=>Heap.get?_push_of_some _ e) (Nat.le_refl _) ⟨by show 2<=sizeLine;decide,[key,x],.cons (by rw [e2];exact C9 hkey) (.cons e3 .nil),⟨_,Heap.get?_push_size _ rfl,rfl,_,rfl⟩⟩
  have I2:Inv X pins σ (upd H s.heap.objs.size (.tup [kV kv.1,kv.2])) { s with heap:=h2 }:=by
   refine Im.turned (t':=s.toks) (λb o hb e=>?_) (by rw [ap (Nat.ne_of_lt hit)];exact f0) f1 f3 f4 f5
   by_cases hbs:b=s.heap.objs.size
   ·subst hbs
    rw [show ({ s with heap:=s.heap.push { cls:=.type "tuple",data:=.seq #[key,x] },toks:=s.toks }:Shared).heap.get? s.heap.objs.size=some { cls:=.type "tuple",data:=.seq #[key,x] } from Heap.get?_push_size _ rfl] at e
    cases e;exact ht2
   ·exact (sb2.2 b hb).trans (sb b o hb (by rw [<- Heap.get?_push_ne _ _ _ hbs];exact e))
  refine ⟨.ref s.heap.objs.size,_,I2,rfl,⟨s.heap.objs.size,kv,e1,I.hok.fresh (Nat.le_refl _),rfl,rfl⟩,⟨_,_,st2⟩,λb hb=>?_⟩
  obtain rfl:b=it:=by simpa using hb
  rw [ap (Nat.ne_of_lt hit)];exact f0
 done:=by
  rintro X hP hw hK hc i pins s σ H E I hf ⟨ok,ov,st⟩ ⟨hg,hi⟩
  subst hP hw hK
  obtain ⟨f0,f1,f2,f3,f4,f5⟩:=hf it (by simp)
  refine wpAny_pyNext_items_end (I.ok.hd hc) st (hod _ (gD I hg).1) (List.getElem?_eq_none (by rw [<- rel.length];exact hi)) λh' eb=>⟨rfl,I.turned (t':=s.toks) (λb o hb e=>eb b o hb e) f0 f1 f3 f4 f5⟩
 self:=λA i s Q E zz49 h=>by obtain ⟨ok,ov,st⟩:=zz49;exact PySem.W.kcp_self st h
def tiP (w:World) (te:TE):TI:=λσ H R=>te σ H λx H1=>∃ p d kvs,x=.ref p/\H1 p=some (gF p d)/\H1 d=some (.dK kvs)/\∀ od,R (ItP w d od kvs) (upd H1 d (fzH w d od kvs))
theorem wZ {e:Expr}{te:TE}{elts:List Expr}{x1:Nat}{tpos:Pos}(he:PE X e te):PI X (.Tuple elts x1 tpos) e (tiP X.w te):=by
 intro pins s σ H R I h
 refine thn (he pins s σ H _ I h) λv s1 zz50=>?_
 obtain ⟨x,H1,I1,r1,p,d,kvs,ex,ep,ed,hR⟩:=zz50
 subst ex
 cases (show v=Value.ref p from r1)
 have hv:s1.heap.get? p=some { cls:=.type "dict_items",data:=.fields #[.ref d] }:=(I1.hok p _ ep).1
 obtain ⟨od,I2⟩:=I1.toFz ed
 obtain ⟨ho,⟨z,dz⟩,hd⟩:=gD I2 aA
 obtain ⟨vs,rel,es,ep',q1,q2,q3,q4,q5⟩:=dz X.prog
 have at_:∀ h:Heap,h.get? d=some od->h.DictAt (aS X.prog X.w) d vs ep':=λh e=>⟨od,es,e,q1,q2,q3,q4,q5⟩
 refine wpAny_pyIter_items ⟨_,hv,rfl,rfl⟩ (at_ _ ho) ?_
 have hlt:d<s1.heap.objs.size:=Heap.lt_size ho
 have I3:Inv X pins σ (upd H1 d (fzH X.w d od kvs)) { s1 with heap:=s1.heap.push { cls:=.type "dict_itemiterator",data:=.fields #[.none,.bool false,.ref d,.int 0 0,.int vs.length 0,.int ep' 0,.none,.none] } }:=I2.kept (t':=s1.toks) λb u e=>Heap.get?_push_of_some _ e
 refine ⟨s1.heap.objs.size,[s1.heap.objs.size],_,_,_,rfl,I3,uT d _ od kvs rel (Nat.ne_of_lt hlt) at_,⟨.none,.none,Heap.get?_push_size _ rfl⟩,λb hb=>?_,hR od⟩
 obtain rfl:b=s1.heap.objs.size:=by simpa using hb
 exact I2.fpOk (Nat.le_refl _) (I2.hok.fresh (Nat.le_refl _))
def Dc (w:World) (td ty:TE):TE:=λσ H Q=>td σ H λx H1=>ty σ H1 λy H2=>∃ a kvs k v,x=.ref a/\RdK w H2 a kvs/\y=kV k/\aZ kvs k=some v/\Q v H2
theorem yC {o i:Expr}{pos:Pos}{td ty:TE}(ho:PE X o td) (hi:PE X i ty) (hs:jw i):PE X (.Subscript o i pos) (Dc X.w td ty):=by
 intro pins s σ H Q I h
 refine yz PySem.F.slot_dict_getitem.lookup hs (thn (ho pins s σ H _ I h) λu s1 zz51=>?_)
 obtain ⟨x,H1,I1,rx,q1⟩:=zz51
 refine thn (hi pins s1 σ H1 _ I1 q1) λiv s2 zz52=>?_
 obtain ⟨y,H2,I2,ry,a,kvs,k,v,ex,g,ey,l,q2⟩:=zz52
 subst ex ey
 obtain rfl:u=Value.ref a:=rx
 exact ⟨(E9 I2 g).1,vG I2 g l ry λw' s3 I3 rw'=>⟨v,H2,I3,rw',q2⟩⟩
def De:V->List V->Hp->VK->Prop:=λx xs H Q=>∃ d kvs k v,x=.ref d/\xs=[kV k]/\H d=some (.dK kvs)/\aZ kvs k=some v/\Q v (upd H d (.dK (dP kvs k)))
theorem yD:MtR X "dict.pop" De:=by
 rintro pins s σ H x xs v us Q I rx rs ⟨d,kvs,k,v',ex,exs,ed,l,q⟩
 subst ex exs
 obtain ⟨u,rfl,ru⟩:=bi rs
 cases (show v=Value.ref d from rx)
 exact C8 I ed ru l (.inl rfl) λw' s' I' rw'=>⟨v',_,I',rw',q⟩
theorem PE.unf {e:Expr}{t:TE}(h:PE X e t):PE X e (λσ H Q=>t σ H λv H'=>∃ d od kvs,H' d=some (fzH X.w d od kvs)/\Q v (upd H' d (.dK kvs))):=λpins s σ H Q I q =>
 thn (h pins s σ H _ I q) λu s' zz53=>by obtain ⟨v,H',I',r,d,od,kvs,e,q'⟩:=zz53;exact ⟨v,_,I'.ofFz e,r,q'⟩
theorem PS.unf {st:Stmt}{t:TS}(h:PS X st t):PS X st (λD σ H=>t { D with nx:=λσ' H'=>∃ d od kvs,H' d=some (fzH X.w d od kvs)/\D.nx σ' (upd H' d (.dK kvs)) } σ H):=λpins s σ H D I q =>
 thn (h pins s σ H _ I q) λfl s' sp=>by
  cases fl with
  |next =>
   obtain ⟨σ',H',I',d,od,kvs,e,q'⟩:=sp
   exact ⟨σ',_,I'.ofFz e,q'⟩
  |brk=>exact sp
  |cont=>exact sp
  |ret u=>exact sp
end
end L2
namespace T2
open PySem L2
inductive T where
 |non|bl (b:Bool)|int (i:Int)|str (x:Str)|tup (ts:List T)|lst (ts:List T)|scr (ns:List Int)|ref (a:Addr)|ty (n:String)
inductive O where
 |lst (ts:List T)|dK (kvs:List (Key×T))|dT (kvs:List (List Key×T))|ins (C:Addr) (fs:List (Str×T))
  |fK (w:World) (od:Obj) (vs:List (Key×V)) (kvs:List (Key×T))
  |exk (C:Addr)
def _root_.L2.exH (C a:Addr):HO:=.ext λh=>∃ ob,h.get? a=some ob/\ob.cls=.ref C/\ob.dict=none/\∃ vs,ob.data=.fields vs/\vs[2]?=some .none
abbrev Sto:=Addr->Option O
def put (S:Sto) (a:Addr) (o:O):Sto:=λb=>if b=a then some o else S b
theorem aK {S:Sto}{a:Addr}{o:O}:put S a o a=some o:=by unfold put;rw [if_pos rfl]
theorem aO {S:Sto}{a b:Addr}{o:O}(h:b≠a):put S a o b=S b:=by unfold put;rw [if_neg h]
theorem dD {S:Sto}{a:Addr}{o u:O}:put (put S a o) a u=put S a u:=by
 funext b;unfold put;split<;>rfl
abbrev Fg:=PySem.W.Frag
def Scr (K:Fg) (H:Hp) (S:Sto) (p:Addr) (ns:List Int):Prop:=(S p=none/\∃ o,H p=some (.frz o (.lst (ns.map V.int))))\/SqL K (λ_=>none) p (ns.map V.int)
mutual
inductive Rp (K:Fg) (H:Hp) (S:Sto):T->V->Prop
 |non:Rp K H S .non .non
 |bl {b}:Rp K H S (.bl b) (.bl b)
 |int {i}:Rp K H S (.int i) (.int i)
 |str {x}:Rp K H S (.str x) (.str x)
 |ty {n}:Rp K H S (.ty n) (.ty n)
 |ref {a}:Rp K H S (.ref a) (.ref a)
 |tup {p ts vs}:S p=none->H p=some (.tup vs)->Rps K H S ts vs->Rp K H S (.tup ts) (.ref p)
 |lst {p ts vs}:S p=none->H p=some (.lst vs)->Rps K H S ts vs->Rp K H S (.lst ts) (.ref p)
 |scr {p ns}:Scr K H S p ns->Rp K H S (.scr ns) (.ref p)
inductive Rps (K:Fg) (H:Hp) (S:Sto):List T->List V->Prop
 |nil:Rps K H S [] []
 |cons {t v ts vs}:Rp K H S t v->Rps K H S ts vs->Rps K H S (t::ts) (v::vs)
end
def Fr (H:Hp) (S:Sto) (H':Hp) (S':Sto):Prop:=∀ a o,H a=some o->S a=none->H' a=some o/\S' a=none
theorem Fr.refl {H S}:Fr H S H S:=λ_ _ h n=>⟨h,n⟩
theorem Fr.trans {H S H1 S1 H2 S2}(f:Fr H S H1 S1) (g:Fr H1 S1 H2 S2):Fr H S H2 S2:=λa o h n=>by
 obtain ⟨h1,n1⟩:=f a o h n
 exact g a o h1 n1
section
variable {K:Fg}{H H':Hp}{S S':Sto}
theorem Scr.fr {p ns}(h:Scr K H S p ns) (f:Fr H S H' S'):Scr K H' S' p ns:=by
 rcases h with ⟨n,o,e⟩|h
 ·obtain ⟨e',n'⟩:=f p _ e n
  exact .inl ⟨n',o,e'⟩
 ·exact .inr h
theorem Scr.sq {p ns}(h:Scr K H S p ns):SqL K H p (ns.map V.int):=by
 rcases h with ⟨_,o,e⟩|h
 ·exact .inl (.inr ⟨o,e⟩)
 ·rcases h with (h|⟨o,h⟩)|h
  ·cases h
  ·cases h
  ·exact .inr h
mutual
theorem Rp.fr (f:Fr H S H' S'):∀ {t v},Rp K H S t v->Rp K H' S' t v
 |_,_,.non=>.non
 |_,_,.bl=>.bl
 |_,_,.int=>.int
 |_,_,.str=>.str
 |_,_,.ty=>.ty
 |_,_,.ref=>.ref
 |_,_,.tup n h r=>.tup (f _ _ h n).2 (f _ _ h n).1 (Rps.fr f r)
 |_,_,.lst n h r=>.lst (f _ _ h n).2 (f _ _ h n).1 (Rps.fr f r)
 |_,_,.scr h=>.scr (h.fr f)
theorem Rps.fr (f:Fr H S H' S'):∀ {ts vs},Rps K H S ts vs->Rps K H' S' ts vs
 |_,_,.nil=>.nil
 |_,_,.cons a b=>.cons (Rp.fr f a) (Rps.fr f b)
end
theorem Rps.length:∀ {ts vs},Rps K H S ts vs->vs.length=ts.length
 |_,_,.nil=>rfl
 |_,_,.cons _ b=>by simp [Rps.length b]
theorem Rps.append:∀ {ts vs us ws},Rps K H S ts vs->Rps K H S us ws->Rps K H S (ts++us) (vs++ws)
 |_,_,_,_,.nil,r=>r
 |_,_,_,_,.cons a b,r=>.cons a (Rps.append b r)
theorem Rps.drop:∀ {ts vs}(n:Nat),Rps K H S ts vs->Rps K H S (ts.drop n) (vs.drop n)
 |_,_,0,r=>r
 |_,_,_+1,.nil=>.nil
 |_,_,n+1,.cons _ b=>Rps.drop n b
theorem Rps.take:∀ {ts vs}(n:Nat),Rps K H S ts vs->Rps K H S (ts.take n) (vs.take n)
 |_,_,0,_=>.nil
 |_,_,_+1,.nil=>.nil
 |_,_,n+1,.cons a b=>.cons a (Rps.take n b)
theorem Rps.set {t v}(r:Rp K H S t v):∀ {ts vs}(i:Nat),Rps K H S ts vs->Rps K H S (ts.set i t) (vs.set i v)
 |_,_,_,.nil=>.nil
 |_,_,0,.cons _ b=>.cons r b
 |_,_,i+1,.cons a b=>.cons a (Rps.set r i b)
theorem Rps.get:∀ {ts vs}{i:Nat}{t},Rps K H S ts vs->ts[i]?=some t->∃ v,vs[i]?=some v/\Rp K H S t v
 |_,_,_,_,.nil,e=>by simp at e
 |_,_,0,_,.cons a _,e=>by simp at e;subst e;exact ⟨_,rfl,a⟩
 |_,_,i+1,_,.cons _ b,e=>by
  obtain ⟨v,h1,h2⟩:=Rps.get (i:=i) b (by simpa using e)
  exact ⟨v,by simpa using h1,h2⟩
theorem Rps.getV:∀ {ts vs}{i:Nat}{v},Rps K H S ts vs->vs[i]?=some v->∃ t,ts[i]?=some t/\Rp K H S t v
 |_,_,_,_,.nil,e=>by simp at e
 |_,_,0,_,.cons a _,e=>by simp at e;subst e;exact ⟨_,rfl,a⟩
 |_,_,i+1,_,.cons _ b,e=>by
  obtain ⟨v,h1,h2⟩:=Rps.getV (i:=i) b (by simpa using e)
  exact ⟨v,by simpa using h1,h2⟩
theorem Rps.ints {ns:List Int}:Rps K H S (ns.map T.int) (ns.map V.int):=by
 induction ns with
 |nil=>exact .nil
 |cons a l ih=>exact .cons .int ih
theorem Rps.strs {ns:List Str}:Rps K H S (ns.map T.str) (ns.map V.str):=by
 induction ns with
 |nil=>exact .nil
 |cons a l ih=>exact .cons .str ih
end
inductive ORp (K:Fg) (H:Hp) (S:Sto) (a:Addr):O->Prop
 |lst {ts vs}:H a=some (.lst vs)->Rps K H S ts vs->ORp K H S a (.lst ts)
 |dK {kvs kts}:H a=some (.dK kvs)->Paired (λ(p:Key×T) (q:Key×V)=>p.1=q.1/\Rp K H S p.2 q.2) kts kvs->ORp K H S a (.dK kts)
 |dT {kvs kts}:H a=some (.dT kvs)->Paired (λ(p:List Key×T) (q:List Key×V)=>p.1=q.1/\Rp K H S p.2 q.2) kts kvs->ORp K H S a (.dT kts)
 |fK {w od kvs kts}:H a=some (fzH w a od kvs)->Paired (λ(p:Key×T) (q:Key×V)=>p.1=q.1/\Rp K H S p.2 q.2) kts kvs->ORp K H S a (.fK w od kvs kts)
 |ins {C dx fs fts}:H a=some (.ins C dx fs)->Paired (λ(p:Str×T) (q:Str×V)=>p.1=q.1/\Rp K H S p.2 q.2) fts fs->ORp K H S a (.ins C fts)
 |exk {C}:H a=some (exH C a)->ORp K H S a (.exk C)
section
variable {K:Fg}{H:Hp}{S:Sto}{v:V}{a:Addr}
theorem Rp.istr {x:Str}(r:Rp K H S (.str x) v):v=.str x:=by cases r;rfl
theorem Rp.ibl {b:Bool}(r:Rp K H S (.bl b) v):v=.bl b:=by cases r;rfl
theorem Rp.itup {ts:List T}(r:Rp K H S (.tup ts) v):∃ p vs,v=.ref p/\H p=some (.tup vs)/\Rps K H S ts vs:=by cases r with|tup n h p=>exact ⟨_,_,rfl,h,p⟩
end
def SRp (K:Fg) (H:Hp) (S:Sto):Prop:=∀ a o,S a=some o->ORp K H S a o
section
variable {K:Fg}{H H':Hp}{S S':Sto}{a:Addr}{o:O}
theorem ORp.some (r:ORp K H S a o):∃ u,H a=some u:=by cases r<;>exact ⟨_,‹_›⟩
theorem SRp.fresh (s:SRp K H S) (h:H a=none):S a=none:=by
 cases e:S a with
 |none=>rfl
 |some o=>obtain ⟨u,q⟩:=(s a o e).some;rw [h] at q;cases q
theorem ORp.fr (r:ORp K H S a o) (f:Fr H S H' S') (h:H' a=H a):ORp K H' S' a o:=by
 cases r with
 |lst e q=>exact .lst (h.trans e) (q.fr f)
 |dK e q=>exact .dK (h.trans e) (Paired.mapP q λ_ _ z=>⟨z.1,z.2.fr f⟩)
 |dT e q=>exact .dT (h.trans e) (Paired.mapP q λ_ _ z=>⟨z.1,z.2.fr f⟩)
 |fK e q=>exact .fK (h.trans e) (Paired.mapP q λ_ _ z=>⟨z.1,z.2.fr f⟩)
 |ins e q=>exact .ins (h.trans e) (Paired.mapP q λ_ _ z=>⟨z.1,z.2.fr f⟩)
 |exk e=>exact .exk (h.trans e)
theorem Fr.new {p:Addr}{u:HO}(h:H p=none):Fr H S (upd H p u) S:=λa o e n=>⟨by rw [ap (bf e h)];exact e,n⟩
theorem SRp.new {p:Addr}{u:HO}(s:SRp K H S) (h:H p=none):SRp K (upd H p u) S:=λa o e=>by
 obtain ⟨x,hx⟩:=(s a o e).some
 exact (s a o e).fr (Fr.new h) (ap (bf hx h))
theorem Fr.newT {p:Addr}{u:HO}{o:O}(h:H p=none):Fr H S (upd H p u) (put S p o):=λa _ e n =>
 ⟨by rw [ap (bf e h)];exact e,by rw [aO (bf e h)];exact n⟩
theorem SRp.newT {p:Addr}{u:HO}{o:O}(s:SRp K H S) (h:H p=none) (n:ORp K (upd H p u) (put S p o) p o):SRp K (upd H p u) (put S p o):=λa o' e=>by
 by_cases ha:a=p
 ·subst ha;rw [aK] at e;cases e;exact n
 ·rw [aO ha] at e
  exact (s a o' e).fr (Fr.newT h) (ap ha)
theorem Fr.write {p:Addr}{u:HO}{o:O}(h:S p≠none):Fr H S (upd H p u) (put S p o):=λa _ e n =>
 have ne:a≠p:=λz=>by subst z;exact h n
 ⟨by rw [ap ne];exact e,by rw [aO ne];exact n⟩
theorem SRp.write {p:Addr}{u:HO}{o:O}(s:SRp K H S) (h:S p≠none) (n:ORp K (upd H p u) (put S p o) p o):SRp K (upd H p u) (put S p o):=λa o' e=>by
 by_cases ha:a=p
 ·subst ha;rw [aK] at e;cases e;exact n
 ·rw [aO ha] at e
  exact (s a o' e).fr (Fr.write h) (ap ha)
def Le (S0 S:Sto):Prop:=∀ a o,S0 a=some o->S a=some o
theorem Le.refl {S}:Le S S:=λ_ _ h=>h
theorem Le.none {S0 S:Sto}(l:Le S0 S){a:Addr}(h:S a=none):S0 a=none:=by
 cases e:S0 a with
 |none=>rfl
 |some o=>rw [l a o e] at h;cases h
theorem Fr.le {S0:Sto}(l:Le S0 S):Fr H S H S0:=λ_ _ h n=>⟨h,l.none n⟩
theorem SRp.le {S0:Sto}(s:SRp K H S) (l:Le S0 S):SRp K H S0:=λa o e=>(s a o (l a o e)).fr (Fr.le l) rfl
end
abbrev StT:=List (Option T)
abbrev WE:=StT->Sto->(T->Sto->Prop)->Prop
abbrev WT:=StT->Sto->(Bool->Sto->Prop)->Prop
abbrev WA:=StT->Sto->(List T->Sto->Prop)->Prop
structure EndsT where
 nx:StT->Sto->Prop
 rt:T->Sto->Prop
 bk:StT->Sto->Prop:=λ_ _=>False
 ct:StT->Sto->Prop:=λ_ _=>False
abbrev WS:=EndsT->StT->Sto->Prop
def Cov (K:Fg) (H:Hp) (S:Sto) (σ:St) (σt:StT):Prop:=σt.length=σ.length/\∀ (i:Nat) (t:T),σt[i]?=some (some t)->∃ v:V,σ[i]?=some (some v)/\Rp K H S t v
theorem Cov.fr {K H S H' S' σ σt}(c:Cov K H S σ σt) (f:Fr H S H' S'):Cov K H' S' σ σt:=⟨c.1,λi t e=>by
 obtain ⟨v,h,r⟩:=c.2 i t e
 exact ⟨v,h,r.fr f⟩⟩
theorem Cov.set {K H S σ σt t v}(c:Cov K H S σ σt) (r:Rp K H S t v) (i:Nat):Cov K H S (σ.set i (some v)) (σt.set i (some t)):=by
 refine ⟨by simp [c.1],λj u e=>?_⟩
 by_cases h:i=j
 ·subst h
  by_cases hl:i<σt.length
  ·rw [List.getElem?_set_self hl] at e
   cases e
   exact ⟨v,List.getElem?_set_self (by rw [<- c.1];exact hl),r⟩
  ·rw [List.getElem?_eq_none (by simp;omega)] at e;cases e
 ·rw [List.getElem?_set_ne h] at e ⊢
  exact c.2 j u e
abbrev Bh (K:Fg) (H:Hp) (S:Sto) (Qt:T->Sto->Prop) (Q:VK):Prop:=∀ v H' t S',Fr H S H' S'->SRp K H' S'->Rp K H' S' t v->Qt t S'->Q v H'
def lE (K:Fg) (w:WE):TE:=λσ H Q=>∃ S σt Qt,SRp K H S/\Cov K H S σ σt/\w σt S Qt/\Bh K H S Qt Q
def lT (K:Fg) (w:WT):TT:=λσ H Q=>∃ S σt Qt,SRp K H S/\Cov K H S σ σt/\w σt S Qt/\∀ b H' S',Fr H S H' S'->SRp K H' S'->Qt b S'->Q b H'
def lA (K:Fg) (w:WA):TA:=λσ H Q=>∃ S σt Qt,SRp K H S/\Cov K H S σ σt/\w σt S Qt/\∀ vs H' ts S',Fr H S H' S'->SRp K H' S'->Rps K H' S' ts vs->Qt ts S'->Q vs H'
structure EndsOk (K:Fg) (H:Hp) (S:Sto) (Dt:EndsT) (D:Ends):Prop where
 nx:∀ σ' H' σt' S',Fr H S H' S'->SRp K H' S'->Cov K H' S' σ' σt'->Dt.nx σt' S'->D.nx σ' H'
 rt:∀ v H' t S',Fr H S H' S'->SRp K H' S'->Rp K H' S' t v->Dt.rt t S'->D.rt v H'
 bk:∀ σ' H' σt' S',Fr H S H' S'->SRp K H' S'->Cov K H' S' σ' σt'->Dt.bk σt' S'->D.bk σ' H'
 ct:∀ σ' H' σt' S',Fr H S H' S'->SRp K H' S'->Cov K H' S' σ' σt'->Dt.ct σt' S'->D.ct σ' H'
theorem EndsOk.fr {K H S H' S' Dt D}(e:EndsOk K H S Dt D) (f:Fr H S H' S'):EndsOk K H' S' Dt D :=
 ⟨λσ' H2 σt' S2 g=>e.nx σ' H2 σt' S2 (f.trans g),λv H2 t S2 g=>e.rt v H2 t S2 (f.trans g),λσ' H2 σt' S2 g=>e.bk σ' H2 σt' S2 (f.trans g),λσ' H2 σt' S2 g=>e.ct σ' H2 σt' S2 (f.trans g)⟩
def lS (K:Fg) (w:WS):TS:=λD σ H=>∃ S σt Dt,SRp K H S/\Cov K H S σ σt/\w Dt σt S/\EndsOk K H S Dt D
def QE (K:Fg) (X:Cx) (e:Expr) (w:WE):Prop:=PE X e (lE K w)
def QT (K:Fg) (X:Cx) (e:Expr) (w:WT):Prop:=PT X e (lT K w)
def QW (K:Fg) (X:Cx) (e:Expr) (w:WT):Prop:=PW X e (lT K w)
def QA (K:Fg) (X:Cx) (es:List Expr) (w:WA):Prop:=PA X es (lA K w)
def QS (K:Fg) (X:Cx) (st:Stmt) (w:WS):Prop:=PS X st (lS K w)
def QSs (K:Fg) (X:Cx) (st:List Stmt) (w:WS):Prop:=PSs X st (lS K w)
theorem PE.of {X:Cx}{e:Expr}{t t':TE}(h:PE X e t) (i:∀ σ H Q,t' σ H Q->t σ H Q):PE X e t':=λpins s σ H Q I q=>h pins s σ H Q I (i σ H Q q)
theorem PT.of {X:Cx}{e:Expr}{t t':TT}(h:PT X e t) (i:∀ σ H Q,t' σ H Q->t σ H Q):PT X e t':=λpins s σ H Q I q=>h pins s σ H Q I (i σ H Q q)
theorem PW.of {X:Cx}{e:Expr}{t t':TT}(h:PW X e t) (i:∀ σ H Q,t' σ H Q->t σ H Q):PW X e t':=λwh pins s σ H Q I q=>h wh pins s σ H Q I (i σ H Q q)
theorem PA.of {X:Cx}{e:List Expr}{t t':TA}(h:PA X e t) (i:∀ σ H Q,t' σ H Q->t σ H Q):PA X e t':=λp pins s σ H Q I q=>h p pins s σ H Q I (i σ H Q q)
theorem PS.of {X:Cx}{e:Stmt}{t t':TS}(h:PS X e t) (i:∀ D σ H,t' D σ H->t D σ H):PS X e t':=λpins s σ H D I q=>h pins s σ H D I (i D σ H q)
theorem PSs.of {X:Cx}{e:List Stmt}{t t':TS}(h:PSs X e t) (i:∀ D σ H,t' D σ H->t D σ H):PSs X e t':=λpins s σ H D I q=>h pins s σ H D I (i D σ H q)
section
variable {K:Fg}{X:Cx}{a b c e:Expr}{wa wb wc:WE}{pos:Pos}
def wV (i:Nat):WE:=λσ S Q=>∃ t,σ[i]?=some (some t)/\Q t S
def wC (t:T):WE:=λ_ S Q=>Q t S
theorem Dg {i:Nat}{x:Str}(h:PE X (.Name x pos) (sV i)):QE K X (.Name x pos) (wV i):=PE.of h λσ H Q zz54=>by
 obtain ⟨S,σt,Qt,s,c,⟨t,e,q⟩,hq⟩:=zz54
 obtain ⟨v,e2,r⟩:=c.2 i t e
 exact ⟨v,e2,hq v H t S .refl s r q⟩
theorem ag {i j}:QE K X (.Constant (.int i) j pos) (wC (.int i)):=PE.of Aj λσ H Q zz55=>by obtain ⟨S,σt,Qt,s,c,q,hq⟩:=zz55;exact hq _ H _ S .refl s .int q
theorem cI {i j}:QE K X (.Constant (.bool i) j pos) (wC (.bl i)):=PE.of CL λσ H Q zz56=>by obtain ⟨S,σt,Qt,s,c,q,hq⟩:=zz56;exact hq _ H _ S .refl s .bl q
theorem rQ {j}:QE K X (.Constant .none j pos) (wC .non):=PE.of Ak λσ H Q zz57=>by obtain ⟨S,σt,Qt,s,c,q,hq⟩:=zz57;exact hq _ H _ S .refl s .non q
theorem aN {x j}:QE K X (.Constant (.str x) j pos) (wC (.str x)):=PE.of qa λσ H Q zz58=>by obtain ⟨S,σt,Qt,s,c,q,hq⟩:=zz58;exact hq _ H _ S .refl s .str q
theorem kY {x:Str}{t:T}{v:V}(h:PE X (.Name x pos) (tC v)) (r:∀ H S,Rp K H S t v):QE K X (.Name x pos) (wC t):=PE.of h λσ H Q zz59=>by obtain ⟨S,σt,Qt,s,c,q,hq⟩:=zz59;exact hq _ H _ S .refl s (r _ _) q
abbrev G2:=T->T->Sto->(T->Sto->Prop)->Prop
def l2 (K:Fg) (g:G2):R2:=λx y H Q=>∃ S tx ty Qt,SRp K H S/\Rp K H S tx x/\Rp K H S ty y/\g tx ty S Qt/\Bh K H S Qt Q
def w2 (g:G2) (wa wb:WE):WE:=λσ S Q=>wa σ S λx S1=>wb σ S1 λy S2=>g x y S2 Q
theorem jd {g:G2}{σ H Q}(h:lE K (w2 g wa wb) σ H Q):tOp (l2 K g) (lE K wa) (lE K wb) σ H Q:=by
 obtain ⟨S,σt,Qt,s,c,q,hq⟩:=h
 refine ⟨S,σt,_,s,c,q,λx H1 tx S1 f1 s1 r1 q1=>?_⟩
 refine ⟨S1,σt,_,s1,c.fr f1,q1,λy H2 ty S2 f2 s2 r2 q2=>?_⟩
 exact ⟨S2,tx,ty,Qt,s2,r1.fr f2,r2,q2,λv H' t S' f=>hq v H' t S' ((f1.trans f2).trans f)⟩
theorem aB {op:Operator}{g:G2}(ho:OpR X (binaryOp op) (l2 K g)) (ha:QE K X a wa) (hb:QE K X b wb):QE K X (.BinOp a op b pos) (w2 g wa wb):=PE.of (CU ho ha hb) λ_ _ _ h=>jd h
theorem dQ {op:CmpOp}{g:G2}(ho:OpR X (compareOp op) (l2 K g)) (ha:QE K X a wa) (hb:QE K X b wb) (hm:behindInMarks op b=false):QE K X (.Compare a [op] [b] pos) (w2 g wa wb):=PE.of (yc ho ha hb hm) λ_ _ _ h=>jd h
def wB (w:WE):WT:=λσ S Q=>w σ S λx S1=>∃ k,x=.bl k/\Q k S1
theorem Dh {w:WE}{σ H Q}(h:lT K (wB w) σ H Q):lB (lE K w) σ H Q:=by
 obtain ⟨S,σt,Qt,s,c,q,hq⟩:=h
 refine ⟨S,σt,_,s,c,q,λx H1 tx S1 f1 s1 r1 q1=>?_⟩
 obtain ⟨k,rfl,q1⟩:=q1
 cases r1
 exact ⟨k,rfl,hq k H1 S1 f1 s1 q1⟩
theorem aC {op:CmpOp}{g:G2}(ho:OpR X (compareOp op) (l2 K g)) (ha:QE K X a wa) (hb:QE K X b wb) (hm:behindInMarks op b=false):QT K X (.Compare a [op] [b] pos) (wB (w2 g wa wb)) :=
 PT.of (yd ho ha hb hm) λσ H Q h=>by
  obtain ⟨S,σt,Qt,s,c,q,hq⟩:=h
  exact jd ⟨S,σt,_,s,c,q,λv H' t S' f s' r zz60=>by obtain ⟨k,e,q'⟩:=zz60;exact by subst e;cases r;exact ⟨k,rfl,hq k H' S' f s' q'⟩⟩
def iW (g g':G2) (wa wb wc:WE):WE:=λσ S Q=>wa σ S λx S1=>wb σ S1 λy S2=>g x y S2 λz S3=>∃ k,z=.bl k/\if k=true then wc σ S3 λu S4=>g' y u S4 Q else Q (.bl false) S3
theorem oj {g g':G2}{σ H Q}(h:lE K (iW g g' wa wb wc) σ H Q):kT (l2 K g) (l2 K g') (lE K wa) (lE K wb) (lE K wc) σ H Q:=by
 obtain ⟨S,σt,Qt,s,c,q,hq⟩:=h
 refine ⟨S,σt,_,s,c,q,λx H1 tx S1 f1 s1 r1 q1=>?_⟩
 refine ⟨S1,σt,_,s1,c.fr f1,q1,λy H2 ty S2 f2 s2 r2 q2=>?_⟩
 refine ⟨S2,tx,ty,_,s2,r1.fr f2,r2,q2,λz H3 tz S3 f3 s3 r3 q3=>?_⟩
 obtain ⟨k,rfl,q3⟩:=q3
 cases r3
 refine ⟨k,rfl,?_⟩
 cases k with
 |false=>exact hq _ _ _ _ ((f1.trans f2).trans f3) s3 .bl q3
 |true =>
  refine ⟨S3,σt,_,s3,c.fr ((f1.trans f2).trans f3),q3,λu H4 tu S4 f4 s4 r4 q4=>?_⟩
  exact ⟨S4,ty,tu,Qt,s4,(r2.fr f3).fr f4,r4,q4,λv H' t S' f=>hq v H' t S' ((((f1.trans f2).trans f3).trans f4).trans f)⟩
theorem pB {op op':CmpOp}{g g':G2}(ho:OpR X (compareOp op) (l2 K g)) (ho':OpR X (compareOp op') (l2 K g')) (ha:QE K X a wa) (hb:QE K X b wb) (hc:QE K X c wc) (hm:lastMarks [op,op'] [b,c]=false:=by with_unfolding_all rfl) :
  QE K X (.Compare a [op,op'] [b,c] pos) (iW g g' wa wb wc):=PE.of (wz ho ho' ha hb hc hm) λ_ _ _ h=>oj h
theorem w4 {op op':CmpOp}{g g':G2}(ho:OpR X (compareOp op) (l2 K g)) (ho':OpR X (compareOp op') (l2 K g')) (ha:QE K X a wa) (hb:QE K X b wb) (hc:QE K X c wc) (hm:lastMarks [op,op'] [b,c]=false:=by with_unfolding_all rfl) :
  QT K X (.Compare a [op,op'] [b,c] pos) (wB (iW g g' wa wb wc)):=PT.of (wA ho ho' ha hb hc hm) λσ H Q h=>by
  obtain ⟨S,σt,Qt,s,c,q,hq⟩:=h
  exact oj ⟨S,σt,_,s,c,q,λv H' t S' f s' r zz61=>by obtain ⟨k,e,q'⟩:=zz61;exact by subst e;cases r;exact ⟨k,rfl,hq k H' S' f s' q'⟩⟩
theorem cj (h:QE K X e wa) (he:∀ whole,isTrue e X.env whole=(do let v <- whole;standAt e.pos;holding [v] (truthy v)):=by intro _;rfl):QT K X e (wB wa):=PT.of (Al h he) λ_ _ _ h=>Dh h
def tw (t u:WT):WT:=λσ S Q=>t σ S λc S1=>if c=true then u σ S1 Q else Q false S1
def wOr (t u:WT):WT:=λσ S Q=>t σ S λc S1=>if c=true then Q true S1 else u σ S1 Q
def tD (t:WT):WT:=λσ S Q=>t σ S λc S1=>Q (!c) S1
variable {ta tb:WT}{rest:List Expr}
theorem qk (ha:QT K X a ta):QW K X (.BoolOp .And [a] pos) ta:=x4 ha
theorem lJ (ha:QT K X a ta):QW K X (.BoolOp .Or [a] pos) ta:=Am ha
theorem rS (ha:QT K X a ta) (hb:QW K X (.BoolOp .And (b::rest) pos) tb):QW K X (.BoolOp .And (a::b::rest) pos) (tw ta tb):=PW.of (An ha hb) λσ H Q zz62=>by
 obtain ⟨S,σt,Qt,s,c,q,hq⟩:=zz62
 refine ⟨S,σt,_,s,c,q,λk H1 S1 f1 s1 q1=>?_⟩
 cases k with
 |true=>exact ⟨S1,σt,_,s1,c.fr f1,q1,λb H' S' f=>hq b H' S' (f1.trans f)⟩
 |false=>exact hq false H1 S1 f1 s1 q1
theorem jx (ha:QT K X a ta) (hb:QW K X (.BoolOp .Or (b::rest) pos) tb):QW K X (.BoolOp .Or (a::b::rest) pos) (wOr ta tb):=PW.of (CM ha hb) λσ H Q zz63=>by
 obtain ⟨S,σt,Qt,s,c,q,hq⟩:=zz63
 refine ⟨S,σt,_,s,c,q,λk H1 S1 f1 s1 q1=>?_⟩
 cases k with
 |false=>exact ⟨S1,σt,_,s1,c.fr f1,q1,λb H' S' f=>hq b H' S' (f1.trans f)⟩
 |true=>exact hq true H1 S1 f1 s1 q1
theorem gS (h:QW K X e ta):QT K X e ta:=h _
theorem dJ (ha:QT K X a ta):QT K X (.UnaryOp .Not a pos) (tD ta):=PT.of (Ao ha) λσ H Q zz64=>by obtain ⟨S,σt,Qt,s,c,q,hq⟩:=zz64;exact ⟨S,σt,_,s,c,q,λk H1 S1 f1 s1 q1=>hq _ H1 S1 f1 s1 q1⟩
def rT (wa wb:WE):WE:=λσ S Q=>wa σ S λx S1=>∃ k,x=.bl k/\if k=true then wb σ S1 Q else Q (.bl false) S1
theorem rV {op}(h:QE K X a wa):QE K X (.BoolOp op [a] pos) wa:=Ap h
theorem qm (ha:QE K X a wa) (hb:QE K X (.BoolOp .And (b::rest) pos) wb):QE K X (.BoolOp .And (a::b::rest) pos) (rT wa wb):=PE.of (Aq ha hb) λσ H Q zz65=>by
 obtain ⟨S,σt,Qt,s,c,q,hq⟩:=zz65
 refine ⟨S,σt,_,s,c,q,λx H1 tx S1 f1 s1 r1 q1=>?_⟩
 obtain ⟨k,rfl,q1⟩:=q1
 cases r1
 refine ⟨k,rfl,?_⟩
 cases k with
 |true=>exact ⟨S1,σt,_,s1,c.fr f1,q1,λv H' t S' f=>hq v H' t S' (f1.trans f)⟩
 |false=>exact hq _ H1 _ S1 f1 s1 .bl q1
def cJ:WA:=λ_ S Q=>Q [] S
def rW (wa:WE) (wr:WA):WA:=λσ S Q=>wa σ S λx S1=>wr σ S1 λxs S2=>Q (x::xs) S2
variable {es:List Expr}{wr:WA}
theorem af:QA K X [] cJ:=PA.of qc λσ H Q zz66=>by obtain ⟨S,σt,Qt,s,c,q,hq⟩:=zz66;exact hq [] H [] S .refl s .nil q
theorem ae (ha:QE K X e wa) (hr:QA K X es wr) (hs:starEach (e::es) X.env=(false,eval e X.env)::starEach es X.env:=by rfl):QA K X (e::es) (rW wa wr):=PA.of (pi ha hr hs) λσ H Q zz67=>by
 obtain ⟨S,σt,Qt,s,c,q,hq⟩:=zz67
 refine ⟨S,σt,_,s,c,q,λx H1 tx S1 f1 s1 r1 q1=>?_⟩
 exact ⟨S1,σt,_,s1,c.fr f1,q1,λvs H2 ts S2 f2 s2 r2 q2=>hq _ H2 _ S2 (f1.trans f2) s2 (.cons (r1.fr f2) r2) q2⟩
def tE (wr:WA):WE:=λσ S Q=>wr σ S λts S1=>ts.length<=sizeLine/\Q (.tup ts) S1
theorem gG {x1}(h:QA K X es wr):QE K X (.Tuple es x1 pos) (tE wr):=PE.of (AH h) λσ H Q zz68=>by
 obtain ⟨S,σt,Qt,s,c,q,hq⟩:=zz68
 refine ⟨S,σt,_,s,c,q,λvs H1 ts S1 f1 s1 r1 q1=>?_⟩
 refine ⟨by rw [r1.length];exact q1.1,λp hp=>hq _ _ (.tup ts) S1 (f1.trans (Fr.new hp)) (s1.new hp) (.tup (s1.fresh hp) aA (r1.fr (Fr.new hp))) q1.2⟩
def tF (wr:WA):WE:=λσ S Q=>wr σ S λts S1=>ts.length<=sizeLine/\Q (.lst ts) S1
def rZ (wr:WA):WE:=λσ S Q=>wr σ S λts S1=>ts.length<=sizeLine/\∀ p,S1 p=none->Q (.ref p) (put S1 p (.lst ts))
theorem bJ (h:QA K X es wr):QE K X (.List es pos) (tF wr):=PE.of (qd h) λσ H Q zz69=>by
 obtain ⟨S,σt,Qt,s,c,q,hq⟩:=zz69
 refine ⟨S,σt,_,s,c,q,λvs H1 ts S1 f1 s1 r1 q1=>?_⟩
 refine ⟨by rw [r1.length];exact q1.1,λp hp=>hq _ _ (.lst ts) S1 (f1.trans (Fr.new hp)) (s1.new hp) (.lst (s1.fresh hp) aA (r1.fr (Fr.new hp))) q1.2⟩
theorem iX (h:QA K X es wr):QE K X (.List es pos) (rZ wr):=PE.of (qd h) λσ H Q zz70=>by
 obtain ⟨S,σt,Qt,s,c,q,hq⟩:=zz70
 refine ⟨S,σt,_,s,c,q,λvs H1 ts S1 f1 s1 r1 q1=>?_⟩
 refine ⟨by rw [r1.length];exact q1.1,λp hp=>hq _ _ (.ref p) _ (f1.trans (Fr.newT hp)) (s1.newT hp (.lst aA (r1.fr (Fr.newT hp)))) .ref (q1.2 p (s1.fresh hp))⟩
end
section
variable {K:Fg}{X:Cx}{e:Expr}{we:WE}{st:Stmt}{rest:List Stmt}{w u:WS}{pos:Pos}
def r9:WS:=λD σ S=>D.nx σ S
def mq (w u:WS):WS:=λD σ S=>w { D with nx:=u D } σ S
theorem aJ:QSs K X [] r9:=PSs.of x5 λD σ H zz71=>by obtain ⟨S,σt,Dt,s,c,q,he⟩:=zz71;exact he.nx σ H σt S .refl s c q
theorem am (h1:QS K X st w) (h2:QSs K X rest u):QSs K X (st::rest) (mq w u):=PSs.of (ww h1 h2) λD σ H ⟨S,σt,Dt,s,c,q,he⟩ =>
 ⟨S,σt,{ Dt with nx:=u Dt },s,c,q,⟨λ_ _ σt' S' f s' c' q'=>⟨S',σt',Dt,s',c',q',he.fr f⟩,he.rt,he.bk,he.ct⟩⟩
theorem al (h1:QS K X st w):QSs K X [st] w:=x6 h1
def se (we:WE):WS:=λD σ S=>we σ S λ_ S1=>D.nx σ S1
theorem a9 (he:QE K X e we) (hs:swapsWith e none pos.line X.env=pure false:=by rfl):QS K X (.Expr e pos) (se we):=PS.of (x8 he hs) λD σ H ⟨S,σt,Dt,s,c,q,he⟩ =>
 ⟨S,σt,_,s,c,q,λ_ H1 _ S1 f1 s1 _ q1=>he.nx σ H1 σt S1 f1 s1 (c.fr f1) q1⟩
def tG (we:WE):WS:=λD σ S=>we σ S D.rt
theorem aE (he:QE K X e we):QS K X (.Return (some e) pos) (tG we):=PS.of (Ar he) λD σ H zz72=>by obtain ⟨S,σt,Dt,s,c,q,he⟩:=zz72;exact ⟨S,σt,_,s,c,q,he.rt⟩
def tH (t:WT) (w u:WS):WS:=λD σ S=>t σ S λb S1=>if b=true then w D σ S1 else u D σ S1
theorem aI {c:Expr}{a b:List Stmt}{t:WT}(hc:QT K X c t) (ha:QSs K X a w) (hb:QSs K X b u):QS K X (.If c a b pos) (tH t w u):=PS.of (CQ hc ha hb) λD σ H zz73=>by
 obtain ⟨S,σt,Dt,s,c,q,he⟩:=zz73
 refine ⟨S,σt,_,s,c,q,λk H1 S1 f1 s1 q1=>?_⟩
 cases k with
 |true=>exact ⟨S1,σt,Dt,s1,c.fr f1,q1,he.fr f1⟩
 |false=>exact ⟨S1,σt,Dt,s1,c.fr f1,q1,he.fr f1⟩
def AX:WS:=λ_ _ _=>False
theorem iM:QS K X st AX:=λ_ _ _ _ _ _ zz74=>by obtain ⟨_,_,_,_,_,q,_⟩:=zz74;exact q.elim
abbrev WG:=T->StT->Sto->(StT->Sto->Prop)->Prop
abbrev WGs:=List T->StT->Sto->(StT->Sto->Prop)->Prop
def lG (K:Fg) (g:WG):TG:=λv σ H Q=>∃ S t σt Qt,SRp K H S/\Rp K H S t v/\Cov K H S σ σt/\g t σt S Qt/\∀ σ' H' σt' S',Fr H S H' S'->SRp K H' S'->Cov K H' S' σ' σt'->Qt σt' S'->Q σ' H'
def lGs (K:Fg) (g:WGs):TGs:=λvs σ H Q=>∃ S ts σt Qt,SRp K H S/\Rps K H S ts vs/\Cov K H S σ σt/\g ts σt S Qt/\∀ σ' H' σt' S',Fr H S H' S'->SRp K H' S'->Cov K H' S' σ' σt'->Qt σt' S'->Q σ' H'
def QG (K:Fg) (X:Cx) (tg:Expr) (g:WG):Prop:=PG X tg (lG K g)
def QGs (K:Fg) (X:Cx) (tg:List Expr) (g:WGs):Prop:=PGs X tg (lGs K g)
theorem PG.of {X:Cx}{e:Expr}{t t':TG}(h:PG X e t) (i:∀ v σ H Q,t' v σ H Q->t v σ H Q):PG X e t':=λpins s σ H v u Q I r q=>h pins s σ H v u Q I r (i v σ H Q q)
theorem PGs.of {X:Cx}{e:List Expr}{t t':TGs}(h:PGs X e t) (i:∀ v σ H Q,t' v σ H Q->t v σ H Q):PGs X e t':=λpins s σ H v u Q I r q=>h pins s σ H v u Q I r (i v σ H Q q)
def wgN (i:Nat):WG:=λt σ S Q=>Q (σ.set i (some t)) S
theorem yE {i:Nat}{x:Str}(h:PG X (.Name x pos) (i7 i)):QG K X (.Name x pos) (wgN i):=PG.of h λv σ H Q zz75=>by obtain ⟨S,t,σt,Qt,s,r,c,q,hq⟩:=zz75;exact hq _ H _ S .refl s (c.set r i) q
def sf:WGs:=λts σ S Q=>ts=[]/\Q σ S
def qo (g:WG) (h:WGs):WGs:=λts σ S Q=>∃ t r,ts=t::r/\g t σ S λσ' S'=>h r σ' S' Q
variable {tg:Expr}{tgs:List Expr}{g:WG}{gs:WGs}
theorem pC:QGs K X [] sf:=PGs.of ya λv σ H Q zz76=>by
 obtain ⟨S,t,σt,Qt,s,r,c,⟨e,q⟩,hq⟩:=zz76
 subst e;cases r
 exact ⟨rfl,hq _ H _ S .refl s c q⟩
theorem iC (h1:QG K X tg g) (h2:QGs K X tgs gs) (h:∀ {t u},PG X tg t->PGs X tgs u->PGs X (tg::tgs) (rL t u)):QGs K X (tg::tgs) (qo g gs):=PGs.of (h h1 h2) λv σ H Q zz77=>by
 obtain ⟨S,t,σt,Qt,s,r,c,⟨y,ys,e,q⟩,hq⟩:=zz77
 subst e
 cases r with
 |cons r rs =>
  refine ⟨_,_,rfl,S,y,σt,_,s,r,c,q,λσ' H' σt' S' f s' c' q'=>?_⟩
  exact ⟨S',ys,σt',Qt,s',rs.fr f,c',q',λσ2 H2 σt2 S2 f2=>hq σ2 H2 σt2 S2 (f.trans f2)⟩
def si (n:Nat) (g:WGs):WG:=λt σ S Q=>∃ ts,t=.tup ts/\ts.length=n/\g ts σ S Q
theorem qp {es:List Expr}{k n:Nat}(h:∀ {t},PGs X es t->PG X (.Tuple es k pos) (mh K n t)) (h1:QGs K X es gs):QG K X (.Tuple es k pos) (si n gs):=PG.of (h h1) λv σ H Q zz78=>by
 obtain ⟨S,t,σt,Qt,s,r,c,⟨ts,e,l,q⟩,hq⟩:=zz78
 subst e
 cases r with
 |tup n' hp rs=>exact ⟨_,_,rfl,SqT.of hp,by rw [rs.length];exact l,S,ts,σt,Qt,s,rs,c,q,hq⟩
def gU (we:WE) (g:WG):WS:=λD σ S=>we σ S λt S1=>g t σ S1 D.nx
theorem yF {D σ H}(h:lS K (gU we g) D σ H):gP (lE K we) (lG K g) D σ H:=by
 obtain ⟨S,σt,Dt,s,c,q,he⟩:=h
 refine ⟨S,σt,_,s,c,q,λv H1 t S1 f1 s1 r1 q1=>?_⟩
 exact ⟨S1,t,σt,_,s1,r1,c.fr f1,q1,λσ' H' σt' S' f=>he.nx σ' H' σt' S' (f1.trans f)⟩
theorem dR (h:∀ {t g},PE X e t->PG X tg g->PS X (.Assign [tg] e pos) (gP t g)) (he:QE K X e we) (hg:QG K X tg g):QS K X (.Assign [tg] e pos) (gU we g):=PS.of (h he hg) λ_ _ _ h=>yF h
theorem aG {i:Nat}{x:Str}{pos':Pos}(hN:X.N.Nodup) (hi:X.N[i]?=some x) (hx:Loc X.env.scope x) (he:QE K X e we) (hs:swapsWith e (some (.Name x pos')) pos.line X.env=pure false:=by rfl)
  (hf:X.fn x=true\/X.env.scope.names.lookup x=some .local:=by first|exact .inl rfl|exact .inr rfl|assumption):QS K X (.Assign [.Name x pos'] e pos) (gU we (wgN i)):=PS.of (Av hN hi hx he hs hf) λD σ H h=>by
 obtain ⟨S,σt,Dt,s,c,q,he⟩:=h
 exact ⟨S,σt,_,s,c,q,λv H1 t S1 f1 s1 r1 q1=>he.nx _ H1 _ S1 f1 s1 ((c.fr f1).set r1 i) q1⟩
end
end T2
namespace T2
open PySem PySem.Spec PyProof.Rows L2
abbrev WSp:=List T->Sto->(T->Sto->Prop)->Prop
def lSp (K:Fg) (w:WSp):Sp:=λvs H Q _=>∃ S ts Qt,SRp K H S/\Rps K H S ts vs/\w ts S Qt/\Bh K H S Qt Q
def b7 (N:List Str) (ts:List T):StT:=ts.map some++List.replicate (N.length - ts.length) none
theorem ix {K:Fg}{H:Hp}{S:Sto}{N:List Str}{ts:List T}{vs:List V}(r:Rps K H S ts vs):Cov K H S (L2.aY N vs) (b7 N ts):=by
 have l:=r.length
 refine ⟨by unfold L2.aY b7;simp [l],λi t e=>?_⟩
 unfold b7 at e
 by_cases hi:i<ts.length
 ·rw [List.getElem?_append_left (by simpa using hi),List.getElem?_map] at e
  cases q:ts[i]? with
  |none=>rw [q] at e;cases e
  |some a =>
   rw [q] at e;cases e
   obtain ⟨v,hv,rv⟩:=r.get q
   refine ⟨v,?_,rv⟩
   unfold L2.aY
   rw [List.getElem?_append_left (by simp;omega),List.getElem?_map,hv];rfl
 ·rw [List.getElem?_append_right (by simpa using hi),List.getElem?_replicate] at e
  split at e<;>cases e
def Fin (Q:T->Sto->Prop) (t:T) (S:Sto):Prop:=(∃ S0,Le S0 S/\Q t S0)\/∃ p ts S0,t=.ref p/\S p=some (.lst ts)/\Le S0 S/\S0 p=none/\Q (.lst ts) S0
theorem Fin.mk {Q:T->Sto->Prop}{t:T}{S:Sto}(h:Q t S):Fin Q t S:=.inl ⟨S,.refl,h⟩
theorem Fin.le {Q:T->Sto->Prop}{t:T}{S S0:Sto}(l:Le S0 S) (h:Q t S0):Fin Q t S:=.inl ⟨S0,l,h⟩
theorem Fin.ends {K:Fg}{H H':Hp}{S S':Sto}{Qt:T->Sto->Prop}{Q:VK}(b:Bh K H S Qt Q){v:V}{t:T}(f:Fr H S H' S') (s:SRp K H' S') (r:Rp K H' S' t v) (q:Fin Qt t S'):Q v H':=by
 rcases q with ⟨S0,l,q⟩|⟨p,ts,S0,rfl,e,l,n,q⟩
 ·exact b v H' t S0 (f.trans (Fr.le l)) (s.le l) (r.fr (Fr.le l)) q
 ·cases r
  cases s p _ e with
  |lst hp rs=>exact b _ H' (.lst ts) S0 (f.trans (Fr.le l)) (s.le l) (.lst n hp (rs.fr (Fr.le l))) q
section
variable {P:Program}{w:World}{K:Fg}{mg:Str->Option Value}{base:Heap}
theorem bg {x qual:Str}{st:Stmt}{f:Addr}{fd:FuncData}{N ps:List Str}{k:Nat}{wsp:WSp}(F:Fun K x qual st f fd) (Sc:FnScope N ps (aj st)) (len:∀ ts S Q,wsp ts S Q->ts.length=ps.length)
  (hbody:∀ (cdv:Value) (A:Around) (outer:List Env) (s:Shared) (H:Hp) (E:XK),Room k (A.deeper (envOfC qual (aj st) s.heap.objs.size f cdv)) ->
   ∃ u,QSs K (cf CX0 P w K mg base N qual (aj st) f cdv A outer s H E).nox (ao st) u/\∀ ts S Q,wsp ts S Q->u { nx:=λ_ S'=>Fin Q .non S',rt:=Fin Q } (b7 N ts) S):FnOk P w K mg base CX0 (k+1) f fd ps (lSp K wsp):=by
 refine Fun.ok F Sc (λvs H Q E ⟨S,ts,Qt,s,r,q,_⟩=>by rw [r.length];exact len _ _ _ q) λcdv A outer s H vs Q E hr ⟨S,ts,Qt,sr,r,q,b⟩=>?_
 obtain ⟨u,hu,hq⟩:=hbody cdv A outer s H E hr
 refine ⟨_,hu,S,b7 N ts,_,sr,ix r,hq ts S Qt q,⟨λ_ H' _ S' f s' _ q'=>Fin.ends b f s' .non q',λv H' t S' f s' r' q'=>Fin.ends b f s' r' q',λ_ _ _ _ _ _ _ q'=>q'.elim,λ_ _ _ _ _ _ _ q'=>q'.elim⟩⟩
theorem FnOk.weak {k:Nat}{f:Addr}{fd:FuncData}{ps:List Str}{u v:WSp}(F:FnOk P w K mg base CX0 k f fd ps (lSp K u)) (h:∀ ts S Q,v ts S Q->u ts S Q):FnOk P w K mg base CX0 k f fd ps (lSp K v) :=
 F.imp λ_ _ _ _ zz79=>by obtain ⟨S,ts,Qt,s,r,q,b⟩:=zz79;exact ⟨S,ts,Qt,s,r,h _ _ _ q,b⟩
end
section
variable {K:Fg}{X:Cx}{k:Nat}{f C:Addr}{fd:FuncData}{ps:List Str}{wsp:WSp}{dts:List T}{dvs:List V}{ds:List Value}{x m:Str}{p pos apos:Pos}{e o:Expr}{es:List Expr}{wa:WE}{wr:WA}
def gH (wsp:WSp) (dts:List T) (wr:WA):WE:=λσ S Q=>wr σ S λts S1=>wsp (ts++dts) S1 Q
theorem w6 {σ H Q}(hd:∀ H S,Rps K H S dts dvs) (h:lE K (gH wsp dts wr) σ H Q):i9 (lSp K wsp) dvs E0 (lA K wr) σ H Q:=by
 obtain ⟨S,σt,Qt,s,c,q,hq⟩:=h
 refine ⟨S,σt,_,s,c,q,λvs H1 ts S1 f1 s1 r1 q1=>?_⟩
 exact ⟨S1,_,Qt,s1,r1.append (hd _ _),q1,λv H' t S' f=>hq v H' t S' (f1.trans f)⟩
theorem qq (hd:∀ H S,Rps K H S dts dvs) (hp:PE X e (i9 (lSp K wsp) dvs E0 (lA K wr))):QE K X e (gH wsp dts wr):=PE.of hp λ_ _ _ h=>w6 hd h
def dg (G:Addr->Prop) (m:Str) (wsp:WSp) (dts:List T) (wa:WE) (wr:WA):WE:=λσ S Q=>wa σ S λx S1=>∃ a C fs,x=.ref a/\S1 a=some (.ins C fs)/\G C/\fs.lookup m=none/\wr σ S1 λts S2=>wsp (x::(ts++dts)) S2 Q
end
theorem b6 {K:Fg}{H:Hp}{S:Sto}{m:Str}:∀ {fts:List (Str×T)}{fs:List (Str×V)},Paired (λ(p:Str×T) (q:Str×V)=>p.1=q.1/\Rp K H S p.2 q.2) fts fs->fts.lookup m=none->fs.lookup m=none := by
 intro kts kvs pr
 induction pr with
 | nil => intro _; exact rfl
 | @cons p q2 l l' er t ih =>
  intro h
  obtain ⟨a, b⟩ := p; obtain ⟨c, d⟩ := q2; obtain ⟨e, r⟩ := er
  simp only at e;subst e
  rw [List.lookup_cons] at h ⊢
  by_cases z:(m==a)=true
  ·rw [z] at h;cases h
  ·simp only [Bool.not_eq_true] at z
   rw [z] at h ⊢
   exact ih h
theorem jS {K:Fg}{H:Hp}{S:Sto}{m:Str}{t:T}:∀ {fts:List (Str×T)}{fs:List (Str×V)},Paired (λ(p:Str×T) (q:Str×V)=>p.1=q.1/\Rp K H S p.2 q.2) fts fs->fts.lookup m=some t->∃ v,fs.lookup m=some v/\Rp K H S t v := by
 intro kts kvs pr
 induction pr with
 | nil => intro h; cases h
 | @cons p q2 l l' er ps ih =>
  intro h
  obtain ⟨a, b⟩ := p; obtain ⟨c, d⟩ := q2; obtain ⟨e, r⟩ := er
  simp only at e;subst e
  rw [List.lookup_cons] at h ⊢
  by_cases z:(m==a)=true
  ·rw [z] at h ⊢;cases h;exact ⟨d,rfl,r⟩
  ·simp only [Bool.not_eq_true] at z
   rw [z] at h ⊢
   exact ih h
def cZ (f:Str) (v:T):List (Str×T)->List (Str×T)
 |[]=>[(f,v)]
 |(g,u)::r=>if g=f then (g,v)::r else (g,u)::cZ f v r
theorem nM {K:Fg}{H:Hp}{S:Sto}{f:Str}{t:T}{v:V}(r:Rp K H S t v):∀ {fts:List (Str×T)}{fs:List (Str×V)},Paired (λ(p:Str×T) (q:Str×V)=>p.1=q.1/\Rp K H S p.2 q.2) fts fs ->
  Paired (λ(p:Str×T) (q:Str×V)=>p.1=q.1/\Rp K H S p.2 q.2) (cZ f t fts) (a7 f v fs) := by
 intro kts kvs pr
 induction pr with
 | nil => exact .cons ⟨rfl,r⟩ .nil
 | @cons p q2 l l' er ps ih =>
  obtain ⟨a, b⟩ := p; obtain ⟨c, d⟩ := q2; obtain ⟨e, q⟩ := er
  simp only at e;subst e
  unfold cZ a7
  by_cases z:a=f
  ·rw [if_pos z,if_pos z];exact .cons ⟨rfl,r⟩ ps
  ·rw [if_neg z,if_neg z];exact .cons ⟨rfl,q⟩ (ih)
theorem Paired.len {α β:Type}{F:α->β->Prop}:∀ {l:List α}{l':List β},Paired F l l'->l'.length=l.length
 |_,_,.nil=>rfl
 |_,_,.cons _ t=>by simp [Paired.len t]
section
variable {K:Fg}{X:Cx}{CX:CXT}{k:Nat}{f:Addr}{fd:FuncData}{ps:List Str}{sp:Sp}{wsp:WSp}{dts:List T}{dvs:List V}{ds:List Value}{E:XK}{x m:Str}{p pos apos:Pos}{e o:Expr}{es:List Expr}{wa:WE}{wr:WA}{ta:TE}{t:TA}{G:Addr->Prop}
def e9 (G:Addr->Prop) (m:Str) (sp:Sp) (dvs:List V) (E:XK) (ta:TE) (t:TA):TE:=λσ H Q=>ta σ H λx H1=>∃ a C dx fs,x=.ref a/\H1 a=some (.ins C dx fs)/\G C/\fs.lookup m=none /\
 t σ H1 λvs H2=>sp (x::(vs++dvs)) H2 Q E
theorem oK {pl:Sem Bool}(he:PE X o ta) (hG:∀ C,G C->Cls X.K C/\Meth X.K C m f) (F:FnOk X.prog X.w X.K X.mg X.base CX k f fd ps sp) (hr:Room k X.A) (hb:aq X.K fd ps ds) (hd:ai dvs ds) (hx:cS CX X E) (ha:PA X (e::es) t)
  (hst:starEach (e::es) X.env=(false,eval e X.env)::starEach es X.env:=by rfl) (hpl:(backTo pos (starEach es X.env)).any (·.1)=false:=by rfl)
  (ht:eval (.Call (.Attribute o m apos) (e::es) [] pos) X.env=(do
   let ov <- eval o X.env
   standAt apos.atName
   let (f,first) <- holding [ov] (getMethod ov m pl)
   callWith pos f first (backTo pos (starEach (e::es) X.env)) (backToKw pos (keywordEach [] X.env))):=by rfl) :
  PE X (.Call (.Attribute o m apos) (e::es) [] pos) (e9 G m sp dvs E ta t):=by
 intro pins s σ H Q I h
 refine PySem.W.methodCall_KW (pl:=pl) (thn (he pins s σ H _ I h) λu s1 ⟨x,H1,I1,rx,a,C,dx,fs,ex,ea,g,l,q⟩=>?_) ht
 subst ex
 obtain rfl:u=Value.ref a:=rx
 obtain ⟨c,hm⟩:=hG C g
 refine jL I1 ea c hm l ?_
 refine PySem.W.callWith_K (first:=[.ref a]) (h₀:=X.base) I.ok.mod.kin hm.kp (thn (ha pos pins s1 σ H1 _ I1 q) λus s2 ⟨vs,H2,I2,r,q2⟩=>⟨I2.kIn,?_⟩) hst hpl
 exact kU (us:=.ref a::us) (vs:=.ref a::vs) F hr hb hd hx I2 (.cons rfl r) q2
theorem vH {pl:Sem Bool}(he:PE X o ta) (hG:∀ C,G C->Cls X.K C/\Meth X.K C m f) (F:FnOk X.prog X.w X.K X.mg X.base CX k f fd ps sp) (hr:Room k X.A) (hb:aq X.K fd ps ds) (hd:ai dvs ds) (hx:cS CX X E)
  (ht:eval (.Call (.Attribute o m apos) [] [] pos) X.env=(do
   let ov <- eval o X.env
   standAt apos.atName
   let (f,first) <- holding [ov] (getMethod ov m pl)
   callWith pos f first (backTo pos (starEach [] X.env)) (backToKw pos (keywordEach [] X.env))):=by rfl) :
  PE X (.Call (.Attribute o m apos) [] [] pos) (e9 G m sp dvs E ta cY):=by
 intro pins s σ H Q I h
 refine PySem.W.methodCall_KW (pl:=pl) (thn (he pins s σ H _ I h) λu s1 ⟨x,H1,I1,rx,a,C,dx,fs,ex,ea,g,l,q⟩=>?_) ht
 subst ex
 obtain rfl:u=Value.ref a:=rx
 obtain ⟨c,hm⟩:=hG C g
 refine jL I1 ea c hm l ?_
 exact PySem.W.callWith_K0 (first:=[.ref a]) I1.kIn hm.kp (kU (us:=[.ref a]) (vs:=[.ref a]) F hr hb hd hx I1 (.cons rfl .nil) q)
theorem w9 {σ H Q}(hd:∀ H S,Rps K H S dts dvs) (h:lE K (dg G m wsp dts wa wr) σ H Q):e9 G m (lSp K wsp) dvs E0 (lE K wa) (lA K wr) σ H Q:=by
 obtain ⟨S,σt,Qt,s,c,q,hq⟩:=h
 refine ⟨S,σt,_,s,c,q,λx H1 tx S1 f1 s1 r1 q1=>?_⟩
 obtain ⟨a,C,fs,rfl,ea,g,l,q1⟩:=q1
 cases r1
 cases s1 a _ ea with
 |ins eh pr =>
  refine ⟨a,C,_,_,rfl,eh,g,b6 pr l,S1,σt,_,s1,c.fr f1,q1,λvs H2 ts S2 f2 s2 r2 q2=>?_⟩
  exact ⟨S2,_,Qt,s2,.cons .ref (r2.append (hd _ _)),q2,λv H' t S' f=>hq v H' t S' ((f1.trans f2).trans f)⟩
theorem qr (hd:∀ H S,Rps K H S dts dvs) (hp:PE X e (e9 G m (lSp K wsp) dvs E0 (lE K wa) (lA K wr))):QE K X e (dg G m wsp dts wa wr):=PE.of hp λ_ _ _ h=>w9 hd h
theorem vI {σ H Q}(hd:∀ H S,Rps K H S dts dvs) (h:lE K (dg G m wsp dts wa cJ) σ H Q):e9 G m (lSp K wsp) dvs E0 (lE K wa) cY σ H Q:=by
 obtain ⟨S,σt,Qt,s,c,q,hq⟩:=h
 refine ⟨S,σt,_,s,c,q,λx H1 tx S1 f1 s1 r1 q1=>?_⟩
 obtain ⟨a,C,fs,rfl,ea,g,l,q1⟩:=q1
 cases r1
 cases s1 a _ ea with
 |ins eh pr =>
  refine ⟨a,C,_,_,rfl,eh,g,b6 pr l,?_⟩
  exact ⟨S1,_,Qt,s1,.cons .ref (Rps.append .nil (hd _ _)),q1,λv H' t S' f=>hq v H' t S' (f1.trans f)⟩
theorem yG (hd:∀ H S,Rps K H S dts dvs) (hp:PE X e (e9 G m (lSp K wsp) dvs E0 (lE K wa) cY)):QE K X e (dg G m wsp dts wa cJ):=PE.of hp λ_ _ _ h=>vI hd h
def lK (C:Addr) (wsp:WSp) (dts:List T) (wr:WA):WE:=λσ S Q=>wr σ S λts S1=>∀ x,S1 x=none->wsp (.ref x::(ts++dts)) (put S1 x (.ins C [])) (λt S2=>t=.non/\Q (.ref x) S2)
theorem kB {H:Hp}{S:Sto}{C x dx:Addr}(hx:H x=none) (hd:H dx=none):Fr H S (upd (upd H dx (.own x)) x (.ins C dx [])) (put S x (.ins C [])):=λa o e n =>
 ⟨by rw [ap (bf e hx),ap (bf e hd)];exact e,by rw [aO (bf e hx)];exact n⟩
theorem xa {H:Hp}{S:Sto}{C x dx:Addr}(s:SRp K H S) (hx:H x=none) (hd:H dx=none):SRp K (upd (upd H dx (.own x)) x (.ins C dx [])) (put S x (.ins C [])):=λa o e=>by
 by_cases ha:a=x
 ·subst ha;rw [aK] at e;cases e;exact .ins aA .nil
 ·rw [aO ha] at e
  obtain ⟨u,hu⟩:=(s a o e).some
  exact (s a o e).fr (kB hx hd) (by rw [ap ha,ap (bf hu hd)])
theorem yH {C:Addr}{S:Sto}{H:Hp}{ts:List T}{vs:List V}{Qt:T->Sto->Prop}{Q:VK}(hd:∀ H S,Rps K H S dts dvs) (s:SRp K H S) (r:Rps K H S ts vs) (b:Bh K H S Qt Q)
  (q:∀ x,S x=none->wsp (.ref x::(ts++dts)) (put S x (.ins C [])) (λt S2=>t=.non/\Qt (.ref x) S2)) (x dx:Addr) (hx:H x=none) (hdx:H dx=none) :
  lSp K wsp (.ref x::(vs++dvs)) (upd (upd H dx (.own x)) x (.ins C dx [])) (λv H2=>v=.non/\Q (.ref x) H2) E0:=by
 refine ⟨_,_,_,xa s hx hdx,.cons .ref ((r.fr (kB hx hdx)).append (hd _ _)),q x (s.fresh hx),λv H' t S' f s' r' q'=>?_⟩
 obtain ⟨rfl,q'⟩:=q'
 cases r'
 exact ⟨rfl,b _ H' _ S' ((kB hx hdx).trans f) s' .ref q'⟩
theorem yI {C:Addr}(hd:∀ H S,Rps K H S dts dvs) (hp:PE X e (rN C (lSp K wsp) dvs E0 cY)):QE K X e (lK C wsp dts cJ):=PE.of hp λσ H Q ⟨S,σt,Qt,s,c,q,hq⟩=>λx dx hx hdx _ =>
 yH hd s .nil hq q x dx hx hdx
def mt (G:Addr->Prop) (wa:WE) (f:Str):WE:=λσ S Q=>wa σ S λx S1=>∃ a C fs v,x=.ref a/\S1 a=some (.ins C fs)/\G C/\fs.lookup f=some v/\Q v S1
theorem Di {f:Str}(hK:X.K=K) (hG:∀ C,G C->Cls K C/\bF K C f) (he:QE K X o wa) (hb:attributeBase o f X.env (eval o X.env)=eval o X.env):QE K X (.Attribute o f pos) (mt G wa f):=by
 subst hK
 refine PE.of (AE he hb) λσ H Q zz80=>?_
 obtain ⟨S,σt,Qt,s,c,q,hq⟩:=zz80
 refine ⟨S,σt,_,s,c,q,λx H1 tx S1 f1 s1 r1 q1=>?_⟩
 obtain ⟨a,C,fs,v,rfl,ea,g,l,q1⟩:=q1
 cases r1
 cases s1 a _ ea with
 |ins eh pr =>
  obtain ⟨u,lu,ru⟩:=jS pr l
  exact ⟨a,C,_,_,u,rfl,eh,(hG C g).1,(hG C g).2,lu,hq u H1 v S1 f1 s1 ru q1⟩
def sj (G:Addr->Prop) (wa wv:WE) (f:Str):WS:=λD σ S=>wv σ S λy S1=>wa σ S1 λx S2=>∃ a C fs,x=.ref a/\S2 a=some (.ins C fs)/\G C/\fs.length<1000/\D.nx σ (put S2 a (.ins C (cZ f y fs)))
theorem ol {H:Hp}{S:Sto}{a C dx:Addr}{fts:List (Str×T)}{fs:List (Str×V)}{f:Str}{t:T}{v:V}(s:SRp K H S) (ea:S a=some (.ins C fts)) (eh:H a=some (.ins C dx fs))
  (pr:Paired (λ(p:Str×T) (q:Str×V)=>p.1=q.1/\Rp K H S p.2 q.2) fts fs) (r:Rp K H S t v):Fr H S (upd H a (.ins C dx (a7 f v fs))) (put S a (.ins C (cZ f t fts)))/\SRp K (upd H a (.ins C dx (a7 f v fs))) (put S a (.ins C (cZ f t fts))):=by
 have hn:S a≠none:=by rw [ea];simp
 refine ⟨Fr.write hn,s.write hn (.ins aA ?_)⟩
 exact Paired.mapP (nM r pr) λ_ _ z=>⟨z.1,z.2.fr (Fr.write hn)⟩
theorem qt {f:Str}{wv:WE}{value:Expr}{pos':Pos}(hK:X.K=K) (hG:∀ C,G C->Cls K C/\bF K C f) (ha:QE K X o wa) (hv:QE K X value wv) (hs:swapsWith value (some (.Attribute o f pos')) pos.line X.env=pure false:=by rfl) :
  QS K X (.Assign [.Attribute o f pos'] value pos) (sj G wa wv f):=by
 subst hK
 refine PS.of (AF ha hv hs) λD σ H zz81=>?_
 obtain ⟨S,σt,Dt,s,c,q,he⟩:=zz81
 refine ⟨S,σt,_,s,c,q,λy H1 ty S1 f1 s1 r1 q1=>?_⟩
 refine ⟨S1,σt,_,s1,c.fr f1,q1,λx H2 tx S2 f2 s2 r2 q2=>?_⟩
 obtain ⟨a,C,fs,rfl,ea,g,l,q2⟩:=q2
 cases r2
 cases s2 a _ ea with
 |ins eh pr =>
  obtain ⟨fw,sw⟩:=ol (f:=f) s2 ea eh pr (r1.fr f2)
  exact ⟨a,C,_,_,rfl,eh,(hG C g).1,(hG C g).2,by rw [Paired.len pr];exact l,he.nx _ _ σt _ ((f1.trans f2).trans fw) sw (c.fr ((f1.trans f2).trans fw)) q2⟩
def oM (G:Addr->Prop) (wa wv:WE) (f:Str):WS:=λD σ S=>wa σ S λx S1=>∃ a C fs i,x=.ref a/\S1 a=some (.ins C fs)/\G C/\fs.lookup f=some (.int i) /\
 wv σ S1 λy S2=>∃ j fs',y=.int j/\S2 a=some (.ins C fs')/\fs'.length<1000/\D.nx σ (put S2 a (.ins C (cZ f (.int (i+j)) fs')))
theorem vJ {f:Str}{wv:WE}{value:Expr}{tpos:Pos}(hK:X.K=K) (hG:∀ C,G C->Cls K C/\bF K C f) (ha:QE K X o wa) (hv:QE K X value wv):QS K X (.AugAssign (.Attribute o f tpos) .Add value pos) (oM G wa wv f):=by
 subst hK
 refine PS.of (vm ha hv AG) λD σ H zz82=>?_
 obtain ⟨S,σt,Dt,s,c,q,he⟩:=zz82
 refine ⟨S,σt,_,s,c,q,λx H1 tx S1 f1 s1 r1 q1=>?_⟩
 obtain ⟨a,C,fs,i,rfl,ea,g,l,q1⟩:=q1
 cases r1
 cases s1 a _ ea with
 |ins eh pr =>
  obtain ⟨u,lu,ru⟩:=jS pr l
  cases ru
  refine ⟨a,C,_,_,_,rfl,eh,(hG C g).1,(hG C g).2,lu,S1,σt,_,s1,c.fr f1,q1,λy H2 ty S2 f2 s2 r2 q2=>?_⟩
  obtain ⟨j,fs',rfl,ea2,l2,q2⟩:=q2
  cases r2
  cases s2 a _ ea2 with
  |ins eh2 pr2 =>
   obtain ⟨fw,sw⟩:=ol (f:=f) (t:=.int (i+j)) (v:=.int (i+j)) s2 ea2 eh2 pr2 .int
   exact ⟨i,j,rfl,rfl,_,_,eh2,by rw [Paired.len pr2];exact l2,he.nx _ _ σt _ ((f1.trans f2).trans fw) sw (c.fr ((f1.trans f2).trans fw)) q2⟩
end
def aD (S:Sto):T->Option (List T)
 |.lst ts=>some ts
 |.scr ns=>some (ns.map T.int)
 |.ref a=>match S a with
  |some (.lst ts)=>some ts
  |_=>none
 |_=>none
theorem cD {S:Sto}{p:Addr}{ts:List T}(e:S p=some (.lst ts)):aD S (.ref p)=some ts:=by delta aD;dsimp only;rw [e]
def b9 (S:Sto):T->Option (List T)
 |.lst ts=>some ts
 |.ref a=>match S a with
  |some (.lst ts)=>some ts
  |_=>none
 |_=>none
theorem iN {K H S t v ts}(s:SRp K H S) (r:Rp K H S t v) (e:b9 S t=some ts):∃ p vs,v=.ref p/\H p=some (.lst vs)/\Rps K H S ts vs:=by
 cases r with
 |lst n h q=>cases e;exact ⟨_,_,rfl,h,q⟩
 |ref =>
  rename_i a
  delta b9 at e
  dsimp only at e
  cases q:S a with
  |none=>rw [q] at e;cases e
  |some o =>
   rw [q] at e
   cases o with
   |lst us=>cases e;cases s a _ q with
    |lst h rs=>exact ⟨a,_,rfl,h,rs⟩
   |_=>cases e
 |_=>cases e
theorem bz {K H S t v ts}(s:SRp K H S) (r:Rp K H S t v) (e:aD S t=some ts):∃ p vs,v=.ref p/\SqL K H p vs/\Rps K H S ts vs:=by
 cases r with
 |scr h=>cases e;exact ⟨_,_,rfl,h.sq,Rps.ints⟩
 |lst n h q=>cases e;exact ⟨_,_,rfl,SqL.of h,q⟩
 |ref =>
  obtain ⟨p,vs,e1,e2,e3⟩:=iN s (Rp.ref (K:=K) (H:=H) (S:=S)) (show b9 S (.ref _)=some ts from e)
  exact ⟨p,vs,e1,SqL.of e2,e3⟩
 |_=>cases e
def aR (tr:Bool) (ts:List T) (S:Sto) (Q:T->Sto->Prop):Prop:=match tr with
 |false=>Q (.lst ts) S
 |true=>∀ p,S p=none->Q (.ref p) (put S p (.lst ts))
theorem fe {K H S ts vs tr Qt}{Q:VK}(s:SRp K H S) (r:Rps K H S ts vs) (n:aR tr ts S Qt) (b:Bh K H S Qt Q):∀ p,H p=none->Q (.ref p) (upd H p (.lst vs)):=λp hp=>by
 cases tr with
 |false=>exact b _ _ (.lst ts) S (Fr.new hp) (s.new hp) (.lst (s.fresh hp) aA (r.fr (Fr.new hp))) n
 |true=>exact b _ _ (.ref p) _ (Fr.newT hp) (s.newT hp (.lst aA (r.fr (Fr.newT hp)))) .ref (n p (s.fresh hp))
section
variable {K:Fg}{X:Cx}
def gI (C:Int->Int->Prop) (f:Int->Int->T):G2:=λx y S Q=>match x,y with
 |.int i,.int j=>C i j/\Q (f i j) S
 |_,_=>False
theorem lL {f:Value->Value->Sem Value}{C:Int->Int->Prop}{g:Int->Int->Int}(h:OpR X f (rI C λi j=>.int (g i j))):OpR X f (l2 K (gI C λi j=>.int (g i j))):=by
 rintro pins s σ H x y v u Q I rx ry ⟨S,tx,ty,Qt,sr,hx,hy,hg,b⟩
 cases hx<;>first|exact hg.elim|skip
 cases hy<;>first|exact hg.elim|skip
 exact h pins s σ H _ _ v u Q I rx ry ⟨_,_,rfl,rfl,hg.1,b _ H _ S .refl sr .int hg.2⟩
theorem AY {f:Value->Value->Sem Value}{g:Int->Int->Int}(h:OpR X f (rI0 λi j=>.int (g i j))):OpR X f (l2 K (gI (λ_ _=>True) λi j=>.int (g i j))):=by
 rintro pins s σ H x y v u Q I rx ry ⟨S,tx,ty,Qt,sr,hx,hy,hg,b⟩
 cases hx<;>first|exact hg.elim|skip
 cases hy<;>first|exact hg.elim|skip
 exact h pins s σ H _ _ v u Q I rx ry ⟨_,_,rfl,rfl,b _ H _ S .refl sr .int hg.2⟩
def fL:G2:=gI (λ_ _=>True) λi j=>.int (i - j)
def tI:G2:=gI (λ_ j=>0<j/\j<18446744073709551616) λi j=>.int (i / j)
def tJ:G2:=gI (λ_ j=>0<j) λi j=>.int (i % j)
def tK:G2:=gI (λ_ j=>0<=j) λi j=>.int (i / 2 ^ j.toNat)
theorem Dj:OpR X (binaryOp .Sub) (l2 K fL):=AY Ay
theorem lN:OpR X (binaryOp .FloorDiv) (l2 K tI):=lL wN
theorem fD:OpR X (binaryOp .Mod) (l2 K tJ):=lL AA
theorem Dk:OpR X (binaryOp .RShift) (l2 K tK):=lL AB
def jy (tr:Bool):G2:=λx y S Q=>match x,y with
 |.int i,.int j=>Q (.int (i+j)) S
 |.str a,.str c=>a.length+c.length<=sizeLine/\Q (.str (a++c)) S
 |x,y=>∃ ts us,b9 S x=some ts/\b9 S y=some us/\ts.length+us.length<=sizeLine/\aR tr (ts++us) S Q
theorem aV (tr:Bool):OpR X (binaryOp .Add) (l2 K (jy tr)):=by
 rintro pins s σ H x y v u Q I rx ry ⟨S,tx,ty,Qt,sr,hx,hy,hg,b⟩
 have lists:(∃ ts us,b9 S tx=some ts/\b9 S ty=some us/\ts.length+us.length<=sizeLine/\aR tr (ts++us) S Qt)->wpAny (model X.prog X.w) X.A (binaryOp .Add v u) (EP X pins σ Q) X.xe s:=by
  rintro ⟨ts,us,e1,e2,hz,n⟩
  obtain ⟨p,vs,rfl,h1,r1⟩:=iN sr hx e1
  obtain ⟨q,ws,rfl,h2,r2⟩:=iN sr hy e2
  exact AL pins s σ H _ _ v u Q I rx ry ⟨p,q,vs,ws,rfl,rfl,h1,h2,by rw [r1.length,r2.length];exact hz,fe sr (r1.append r2) n b⟩
 cases tx with
 |int i =>
  cases ty with
  |int j=>cases hx;cases hy;exact Ax pins s σ H _ _ v u Q I rx ry ⟨i,j,rfl,rfl,b _ H _ S .refl sr .int hg⟩
  |_=>exact lists hg
 |str a =>
  cases ty with
  |str c=>cases hx;cases hy;exact uO pins s σ H _ _ v u Q I rx ry ⟨a,c,rfl,rfl,hg.1,b _ H _ S .refl sr .str hg.2⟩
  |_=>exact lists hg
 |_=>exact lists hg
def tL (tr:Bool):G2:=λx y S Q=>match x,y with
 |.int i,.int j=>gQ i j/\Q (.int (i * j)) S
 |x,.int k=>∃ ts,b9 S x=some ts /\ -(2 ^ 63)<=k/\k<2 ^ 63/\ts.length * k.toNat<=sizeLine/\aR tr (List.replicate k.toNat ts).flatten S Q
 |_,_=>False
theorem Rps.rep {H S ts vs}(r:Rps K H S ts vs):∀ n:Nat,Rps K H S (List.replicate n ts).flatten (List.replicate n vs).flatten
 |0=>.nil
 |n+1=>by simp only [List.replicate_succ,List.flatten_cons];exact r.append (Rps.rep r n)
theorem lP (tr:Bool):OpR X (binaryOp .Mult) (l2 K (tL tr)):=by
 rintro pins s σ H x y v u Q I rx ry ⟨S,tx,ty,Qt,sr,hx,hy,hg,b⟩
 have lists:∀ k,ty=.int k->(∃ ts,b9 S tx=some ts /\ -(2 ^ 63)<=k/\k<2 ^ 63/\ts.length * k.toNat<=sizeLine/\aR tr (List.replicate k.toNat ts).flatten S Qt)->wpAny (model X.prog X.w) X.A (binaryOp .Mult v u) (EP X pins σ Q) X.xe s:=by
  rintro k rfl ⟨ts,e1,k1,k2,hz,n⟩
  obtain ⟨p,vs,rfl,h1,r1⟩:=iN sr hx e1
  cases hy
  exact AM pins s σ H _ _ v u Q I rx ry ⟨p,k,vs,rfl,rfl,h1,k1,k2,by rw [r1.length];exact hz,fe sr (r1.rep _) n b⟩
 cases ty with
 |int k =>
  cases tx with
  |int i=>cases hx;cases hy;exact Az pins s σ H _ _ v u Q I rx ry ⟨i,k,rfl,rfl,hg.1,b _ H _ S .refl sr .int hg.2⟩
  |_=>exact lists k rfl hg
 |_=>cases tx<;>exact hg.elim
mutual
def cg:T->Option PyData
 |.non=>some .none
 |.bl b=>some (.bool b)
 |.int i=>some (.int i)
 |.str x=>some (.str x)
 |.tup ts=>(bv ts).map .tuple
 |.lst ts=>(bv ts).map .list
 |.scr ns=>some (.list (ns.map .int))
 |_=>none
def bv:List T->Option (List PyData)
 |[]=>some []
 |t::ts=>match cg t,bv ts with
  |some d,some ds=>some (d::ds)
  |_,_=>none
end
def bC (S:Sto) (t:T):Option PyData:=match t with
 |.ref a=>match S a with
  |some (.lst ts)=>(bv ts).map .list
  |_=>none
 |t=>cg t
theorem jZ {ts:List T}:cg (.tup ts)=(bv ts).map .tuple:=rfl
theorem iD {ts:List T}:cg (.lst ts)=(bv ts).map .list:=rfl
theorem pD {t:T}{ts:List T}:bv (t::ts)=(match cg t,bv ts with|some d,some ds=>some (d::ds)|_,_=>none):=rfl
theorem kC {t:T}{ts:List T}{d:PyData}{ds:List PyData}(h1:cg t=some d) (h2:bv ts=some ds):bv (t::ts)=some (d::ds):=by rw [pD,h1,h2]
theorem yJ {t:T}{ts:List T}{es:List PyData}(e:bv (t::ts)=some es):∃ d ds,cg t=some d/\bv ts=some ds/\es=d::ds:=by
 rw [pD] at e
 cases h1:cg t with
 |none=>rw [h1] at e;cases e
 |some d =>
  cases h2:bv ts with
  |none=>rw [h1,h2] at e;cases e
  |some dl=>rw [h1,h2] at e;cases e;exact ⟨d,dl,rfl,rfl,rfl⟩
theorem xb {H:Hp}{ns:List Int}:DatVs K H (ns.map V.int) (ns.map PyData.int):=by
 induction ns with
 |nil=>exact .nil
 |cons a l ih=>exact .cons (.int a) ih
mutual
theorem kD {H S}:∀ {t v d},Rp K H S t v->cg t=some d->DatV K H v d
 |_,_,_,.non,e=>by cases e;exact .non
 |_,_,_,.bl,e=>by cases e;exact .bl _
 |_,_,_,.int,e=>by cases e;exact .int _
 |_,_,_,.str,e=>by cases e;exact .str _
 |_,_,_,.ty,e=>by cases e
 |_,_,_,.ref,e=>by cases e
 |_,_,_,.tup n h r,e=>by
  simp only [jZ,iD,Option.map_eq_some_iff] at e
  obtain ⟨ds,e,rfl⟩:=e
  exact .tup (SqT.of h) (iE r e)
 |_,_,_,.lst n h r,e=>by
  simp only [jZ,iD,Option.map_eq_some_iff] at e
  obtain ⟨ds,e,rfl⟩:=e
  exact .lst (SqL.of h) (iE r e)
 |_,_,_,.scr h,e=>by cases e;exact .lst h.sq xb
theorem iE {H S}:∀ {ts vs ds},Rps K H S ts vs->bv ts=some ds->DatVs K H vs ds
 |_,_,_,.nil,e=>by cases e;exact .nil
 |_,_,_,.cons (t:=t) (ts:=ts) a r,e=>by
  obtain ⟨d,dl,h1,h2,rfl⟩:=yJ e
  exact .cons (kD a h1) (iE r h2)
end
theorem fX {H S t v d}(s:SRp K H S) (r:Rp K H S t v) (e:bC S t=some d):DatV K H v d:=by
 cases t with
 |ref a =>
  cases r
  delta bC at e
  dsimp only at e
  cases q:S a with
  |none=>rw [q] at e;cases e
  |some o =>
   rw [q] at e
   cases o with
   |lst us =>
    simp only [Option.map_eq_some_iff] at e
    obtain ⟨ds,e,rfl⟩:=e
    cases s a _ q with
    |lst h rs=>exact .lst (SqL.of h) (iE rs e)
   |_=>cases e
 |_=>exact kD r e
def gEq (neg:Bool):G2:=λx y S Q=>match x,y with
 |.int i,.int j=>Q (.bl (neg ^^ decide (i=j))) S
 |.str i,.str j=>Q (.bl (neg ^^ decide (i=j))) S
 |.bl i,.bl j=>Q (.bl (neg ^^ decide (i=j))) S
 |x,y=>∃ dx dy,bC S x=some dx/\bC S y=some dy/\dx.canLay0=true/\dy.canLay0=true/\min dx.depth dy.depth<=64/\Q (.bl (neg ^^ PyData.eqv dx dy)) S
theorem aX (hK:X.K=K) (hu:X.A.units+64<cLine):OpR X (compareOp .Eq) (l2 K (gEq false)):=by
 subst hK
 rintro pins s σ H x y v u Q I rx ry ⟨S,tx,ty,Qt,sr,hx,hy,hg,b⟩
 have deep:(∃ dx dy,bC S tx=some dx/\bC S ty=some dy/\dx.canLay0=true/\dy.canLay0=true/\min dx.depth dy.depth<=64/\Qt (.bl (false ^^ PyData.eqv dx dy)) S)->wpAny (model X.prog X.w) X.A (compareOp .Eq v u) (EP X pins σ Q) X.xe s:=by
  rintro ⟨dx,dy,e1,e2,c1,c2,hd,q⟩
  exact AO hu pins s σ H _ _ v u Q I rx ry ⟨dx,dy,fX sr hx e1,fX sr hy e2,c1,c2,hd,b _ H _ S .refl sr .bl q⟩
 cases tx with
 |int i =>
  cases ty with
  |int j=>cases hx;cases hy;exact lx pins s σ H _ _ v u Q I rx ry ⟨rfl,b _ H _ S .refl sr .bl (by have hg:Qt (.bl (false ^^ decide (i=j))) S:=hg;simpa using hg)⟩
  |_=>exact deep hg
 |str i =>
  cases ty with
  |str j=>cases hx;cases hy;exact lx pins s σ H _ _ v u Q I rx ry ⟨rfl,b _ H _ S .refl sr .bl (by have hg:Qt (.bl (false ^^ decide (i=j))) S:=hg;simpa using hg)⟩
  |_=>exact deep hg
 |bl i =>
  cases ty with
  |bl j=>cases hx;cases hy;exact lx pins s σ H _ _ v u Q I rx ry ⟨rfl,b _ H _ S .refl sr .bl (by have hg:Qt (.bl (false ^^ decide (i=j))) S:=hg;simpa using hg)⟩
  |_=>exact deep hg
 |_=>exact deep hg
theorem tM (hK:X.K=K) (hu:X.A.units+64<cLine):OpR X (compareOp .NotEq) (l2 K (gEq true)):=by
 subst hK
 rintro pins s σ H x y v u Q I rx ry ⟨S,tx,ty,Qt,sr,hx,hy,hg,b⟩
 have deep:(∃ dx dy,bC S tx=some dx/\bC S ty=some dy/\dx.canLay0=true/\dy.canLay0=true/\min dx.depth dy.depth<=64/\Qt (.bl (true ^^ PyData.eqv dx dy)) S)->wpAny (model X.prog X.w) X.A (compareOp .NotEq v u) (EP X pins σ Q) X.xe s:=by
  rintro ⟨dx,dy,e1,e2,c1,c2,hd,q⟩
  exact AQ hu pins s σ H _ _ v u Q I rx ry ⟨dx,dy,fX sr hx e1,fX sr hy e2,c1,c2,hd,b _ H _ S .refl sr .bl q⟩
 cases tx with
 |int i =>
  cases ty with
  |int j=>cases hx;cases hy;exact ly pins s σ H _ _ v u Q I rx ry ⟨rfl,b _ H _ S .refl sr .bl (by have hg:Qt (.bl (true ^^ decide (i=j))) S:=hg;simpa using hg)⟩
  |_=>exact deep hg
 |str i =>
  cases ty with
  |str j=>cases hx;cases hy;exact ly pins s σ H _ _ v u Q I rx ry ⟨rfl,b _ H _ S .refl sr .bl (by have hg:Qt (.bl (true ^^ decide (i=j))) S:=hg;simpa using hg)⟩
  |_=>exact deep hg
 |bl i =>
  cases ty with
  |bl j=>cases hx;cases hy;exact ly pins s σ H _ _ v u Q I rx ry ⟨rfl,b _ H _ S .refl sr .bl (by have hg:Qt (.bl (true ^^ decide (i=j))) S:=hg;simpa using hg)⟩
  |_=>exact deep hg
 |_=>exact deep hg
def ltS (a c:Str):Bool:=decide (a.cps.toList<c.cps.toList)
def gLt:G2:=λx y S Q=>match x,y with
 |.int i,.int j=>Q (.bl (decide (i<j))) S
 |.str a,.str c=>Q (.bl (ltS a c)) S
 |_,_=>False
def gLe:G2:=λx y S Q=>match x,y with
 |.int i,.int j=>Q (.bl (decide (i<=j))) S
 |.str a,.str c=>Q (.bl (!ltS c a)) S
 |_,_=>False
def gGt:G2:=λx y S Q=>match x,y with
 |.int i,.int j=>Q (.bl (decide (j<i))) S
 |_,_=>False
theorem mw:OpR X (compareOp .Lt) (l2 K gLt):=by
 rintro pins s σ H x y v u Q I rx ry ⟨S,tx,ty,Qt,sr,hx,hy,hg,b⟩
 cases hx<;>first|exact hg.elim|skip
 ·cases hy<;>first|exact hg.elim|skip
  exact CW pins s σ H _ _ v u Q I rx ry ⟨_,_,rfl,rfl,b _ H _ S .refl sr .bl hg⟩
 ·cases hy<;>first|exact hg.elim|skip
  exact vf pins s σ H _ _ v u Q I rx ry ⟨_,_,rfl,rfl,b _ H _ S .refl sr .bl hg⟩
theorem dW:OpR X (compareOp .LtE) (l2 K gLe):=by
 rintro pins s σ H x y v u Q I rx ry ⟨S,tx,ty,Qt,sr,hx,hy,hg,b⟩
 cases hx<;>first|exact hg.elim|skip
 ·cases hy<;>first|exact hg.elim|skip
  exact CY pins s σ H _ _ v u Q I rx ry ⟨_,_,rfl,rfl,b _ H _ S .refl sr .bl hg⟩
 ·cases hy<;>first|exact hg.elim|skip
  exact vC pins s σ H _ _ v u Q I rx ry ⟨_,_,rfl,rfl,b _ H _ S .refl sr .bl hg⟩
theorem mB:OpR X (compareOp .Gt) (l2 K gGt):=by
 rintro pins s σ H x y v u Q I rx ry ⟨S,tx,ty,Qt,sr,hx,hy,hg,b⟩
 cases hx<;>first|exact hg.elim|skip
 cases hy<;>first|exact hg.elim|skip
 exact CZ pins s σ H _ _ v u Q I rx ry ⟨_,_,rfl,rfl,b _ H _ S .refl sr .bl hg⟩
def tN (wa:WE):WE:=λσ S Q=>wa σ S λx S1=>match x with
 |.int i=>Q (.int (-i)) S1
 |_=>False
theorem je {a:Expr}{wa:WE}{pos:Pos}(ha:QE K X a wa):QE K X (.UnaryOp .USub a pos) (tN wa):=PE.of (CV AC ha) λσ H Q zz83=>by
 obtain ⟨S,σt,Qt,s,c,q,hq⟩:=zz83
 refine ⟨S,σt,_,s,c,q,λx H1 tx S1 f1 s1 r1 q1=>?_⟩
 cases r1<;>first|exact q1.elim|skip
 exact ⟨_,rfl,hq _ H1 _ S1 f1 s1 .int q1⟩
def ixT (S:Sto) (x y:T):Option T:=match x,y with
 |.tup ts,.int i=>atI ts i
 |.str z,.int i=>if z.length<=sizeLine then (atI z.cps.toList i).map λc=>.str ⟨#[c]⟩ else none
 |x,.int i=>(aD S x).bind λts=>atI ts i
 |_,_=>none
theorem qv {S:Sto}{p:Addr}{ts:List T}{i:Int}(e:S p=some (.lst ts)):ixT S (.ref p) (.int i)=atI ts i:=by
 show (aD S (.ref p)).bind (λts=>atI ts i)=_
 rw [cD e];rfl
theorem AZ {S:Sto}{ts:List T}{i:Int}:ixT S (.lst ts) (.int i)=atI ts i:=rfl
def gIx:G2:=λx y S Q=>∃ r,ixT S x y=some r/\Q r S
theorem qw {H S ts vs i t}(r:Rps K H S ts vs) (e:atI ts i=some t):∃ v,atI vs i=some v/\Rp K H S t v:=by
 unfold atI at e ⊢
 rw [r.length]
 cases q:ixN ts.length i with
 |none=>rw [q] at e;cases e
 |some j =>
  rw [q] at e
  simp only [Option.bind_some] at e ⊢
  exact r.get e
theorem Fa (hK:X.K=K):IxR X (l2 K gIx):=by
 subst hK
 rintro value slice pins s σ H x y v u Q I rx ry ⟨S,tx,ty,Qt,sr,hx,hy,⟨r,e,q⟩,b⟩ hs
 have lists:∀ i,ty=.int i->(aD S tx).bind (λts=>atI ts i)=some r->wpAny (model X.prog X.w) X.A (subscriptTail value slice v u) (EP X pins σ Q) X.xe s:=by
  rintro i rfl e
  cases hy
  cases h1:aD S tx with
  |none=>rw [h1] at e;cases e
  |some ts =>
   rw [h1] at e
   obtain ⟨p,vs,rfl,hq,rs⟩:=bz sr hx h1
   obtain ⟨w',e2,r2⟩:=qw rs e
   exact yn value slice pins s σ H _ _ v u Q I rx ry ⟨p,vs,i,w',rfl,rfl,hq,e2,b _ H _ S .refl sr r2 q⟩ hs
 cases ty with
 |int i =>
  cases tx with
  |tup ts =>
   cases hy
   cases hx with
   |tup n hp rs =>
    obtain ⟨w',e2,r2⟩:=qw rs (show atI ts i=some r from e)
    exact AI value slice pins s σ H _ _ v u Q I rx ry ⟨_,_,i,w',rfl,rfl,SqT.of hp,e2,b _ H _ S .refl sr r2 q⟩ hs
  |str z =>
   cases hy
   cases hx
   delta ixT at e
   dsimp only at e
   split at e
   ·next hz =>
    simp only [Option.map_eq_some_iff] at e
    obtain ⟨c,e,rfl⟩:=e
    exact AJ value slice pins s σ H _ _ v u Q I rx ry ⟨z,i,c,rfl,rfl,hz,e,b _ H _ S .refl sr .str q⟩ hs
   ·cases e
  |_=>exact lists i rfl e
 |_=>cases tx<;>cases e
theorem aU {a c:Expr}{wa wc:WE}{pos:Pos}(hK:X.K=K) (ha:QE K X a wa) (hc:QE K X c wc) (hs:pq c):QE K X (.Subscript a c pos) (w2 gIx wa wc):=PE.of (C1 (Fa hK) ha hc hs) λ_ _ _ h=>jd h
abbrev WO:=StT->Sto->(Option Int->Sto->Prop)->Prop
def lO (K:Fg) (w:WO):TO:=λσ H Q=>∃ S σt Qt,SRp K H S/\Cov K H S σ σt/\w σt S Qt/\∀ b H' S',Fr H S H' S'->SRp K H' S'->Qt b S'->Q b H'
def QO (K:Fg) (X:Cx) (e:Option Expr) (w:WO):Prop:=PO X e (lO K w)
theorem PO.of {e:Option Expr}{t t':TO}(h:PO X e t) (i:∀ σ H Q,t' σ H Q->t σ H Q):PO X e t':=λpins s σ H Q I q=>h pins s σ H Q I (i σ H Q q)
def woN:WO:=λ_ S Q=>Q none S
def woS (wa:WE):WO:=λσ S Q=>wa σ S λx S1=>match x with
 |.int i=>Q (some i) S1
 |_=>False
theorem bT:QO K X none woN:=PO.of yk λσ H Q zz84=>by obtain ⟨S,σt,Qt,s,c,q,hq⟩:=zz84;exact hq none H S .refl s q
theorem bU {e:Expr}{wa:WE}(h:QE K X e wa):QO K X (some e) (woS wa):=PO.of (yl h) λσ H Q zz85=>by
 obtain ⟨S,σt,Qt,s,c,q,hq⟩:=zz85
 refine ⟨S,σt,_,s,c,q,λx H1 tx S1 f1 s1 r1 q1=>?_⟩
 cases r1<;>first|exact q1.elim|skip
 exact ⟨_,rfl,hq _ H1 S1 f1 s1 q1⟩
def c6 (ts:List T) (lo hi:Option Int):List T:=(ts.drop (HT.sIx ts.length 0 lo)).take (HT.sIx ts.length ts.length hi - HT.sIx ts.length 0 lo)
theorem A0 {H S ts vs lo hi}(r:Rps K H S ts vs):Rps K H S (c6 ts lo hi) (fM vs lo hi):=by
 unfold c6 fM
 rw [r.length]
 exact (r.drop _).take _
def gSl (tr:Bool) (x:T) (lo hi:Option Int) (S:Sto) (Q:T->Sto->Prop):Prop:=match x with
 |.str z=>z.length<=sizeLine/\Q (.str (Txt.slice z lo hi)) S
 |x=>∃ ts,aD S x=some ts/\aR tr (c6 ts lo hi) S Q
def l3 (K:Fg) (g:T->Option Int->Option Int->Sto->(T->Sto->Prop)->Prop):V->Option Int->Option Int->Hp->VK->Prop:=λx lo hi H Q=>∃ S tx Qt,SRp K H S/\Rp K H S tx x/\g tx lo hi S Qt/\Bh K H S Qt Q
theorem Fc (tr:Bool) (hK:X.K=K):SlR X (l3 K (gSl tr)):=by
 subst hK
 rintro pins s σ H x v vl vu lo hi sl Q I rx hs pl pu ⟨S,tx,Qt,sr,hx,hg,b⟩
 have lists:(∃ ts,aD S tx=some ts/\aR tr (c6 ts lo hi) S Qt)->tj X.K x lo hi H Q:=by
  rintro ⟨ts,e,n⟩
  obtain ⟨p,vs,rfl,hq,rs⟩:=bz sr hx e
  exact ⟨p,vs,rfl,hq,fe sr (A0 rs) n b⟩
 cases tx with
 |str z=>cases hx;exact AS pins s σ H _ v vl vu lo hi sl Q I rx hs pl pu ⟨z,rfl,hg.1,b _ H _ S .refl sr .str hg.2⟩
 |_=>exact yo pins s σ H _ v vl vu lo hi sl Q I rx hs pl pu (lists hg)
def wSl (tr:Bool) (wa:WE) (wl wh:WO):WE:=λσ S Q=>wa σ S λx S1=>wl σ S1 λl S2=>wh σ S2 λh S3=>gSl tr x l h S3 Q
theorem bV (tr:Bool){e:Expr}{lo hi:Option Expr}{wa:WE}{wl wh:WO}{p2 pos:Pos}(hK:X.K=K) (he:QE K X e wa) (hl:QO K X lo wl) (hu:QO K X hi wh):QE K X (.Subscript e (.Slice lo hi none p2) pos) (wSl tr wa wl wh) :=
 PE.of (wJ (Fc tr hK) he hl hu) λσ H Q zz86=>by
  obtain ⟨S,σt,Qt,s,c,q,hq⟩:=zz86
  refine ⟨S,σt,_,s,c,q,λx H1 tx S1 f1 s1 r1 q1=>?_⟩
  refine ⟨S1,σt,_,s1,c.fr f1,q1,λl H2 S2 f2 s2 q2=>?_⟩
  refine ⟨S2,σt,_,s2,c.fr (f1.trans f2),q2,λh H3 S3 f3 s3 q3=>?_⟩
  exact ⟨S3,tx,Qt,s3,(r1.fr f2).fr f3,q3,λv H' t S' f=>hq v H' t S' (((f1.trans f2).trans f3).trans f)⟩
end
structure Src where
 items:List T
 grd:Sto->Prop
abbrev WI:=StT->Sto->(Src->Sto->Prop)->Prop
structure Iter (K:Fg) (J:It) (src:Src) (H1:Hp) (S1:Sto):Prop where
 go:∀ H S i,Fr H1 S1 H S->SRp K H S->src.grd S->i<src.items.length->J.go i H
 yld:∀ H S i x H',Fr H1 S1 H S->SRp K H S->src.grd S->i<src.items.length->J.yld i H x H'->∃ t,src.items[i]?=some t/\Fr H S H' S/\SRp K H' S/\Rp K H' S t x
 stop:∀ H S,Fr H1 S1 H S->SRp K H S->src.grd S->J.stop src.items.length H
def lI (K:Fg) (w:WI):TI:=λσ H R=>∃ S σt Rt,SRp K H S/\Cov K H S σ σt/\w σt S Rt/\∀ J H1 src S1,Fr H S H1 S1->SRp K H1 S1->Iter K J src H1 S1->Rt src S1->R J H1
def QI (K:Fg) (X:Cx) (tg iter:Expr) (w:WI):Prop:=PI X tg iter (lI K w)
section
variable {K:Fg}{X:Cx}{tg:Expr}
theorem PI.of {e:Expr}{t t':TI}(h:PI X tg e t) (i:∀ σ H Q,t' σ H Q->t σ H Q):PI X tg e t':=λpins s σ H Q I q=>h pins s σ H Q I (i σ H Q q)
theorem iO {α:Type}{l:List α}{i:Nat}{t:α}(h:l[i]?=some t):l.drop i=t::l.drop (i+1):=by
 obtain ⟨hl,e⟩:=List.getElem?_eq_some_iff.mp h
 rw [<- e];exact List.drop_eq_getElem_cons hl
def c8 (grd:Sto->Prop) (g:WG) (wb:WS) (D:EndsT):List T->StT->Sto->Prop
 |[],σ,S=>grd S/\D.nx σ S
 |t::ts,σ,S=>grd S/\g t σ S λσ2 S2=>wb { nx:=c8 grd g wb D ts,rt:=D.rt,bk:=D.nx,ct:=c8 grd g wb D ts } σ2 S2
def mC (wi:WI) (g:WG) (wb:WS):WS:=λD σ S=>wi σ S λsrc S1=>c8 src.grd g wb D src.items σ S1
theorem yK {wi:WI}{g:WG}{wb:WS}{D σ H}(h:lS K (mC wi g wb) D σ H):sW (lI K wi) (lG K g) (lS K wb) D σ H:=by
 obtain ⟨S,σt,Dt,s,c,q,he⟩:=h
 refine ⟨S,σt,_,s,c,q,λJ H1 src S1 f1 s1 it q1=>?_⟩
 refine ⟨λi m σ H=>m=src.items.length - i/\i<=src.items.length/\∃ S σt,Fr H1 S1 H S/\SRp K H S/\Cov K H S σ σt/\c8 src.grd g wb Dt (src.items.drop i) σt S,
  ⟨_,rfl,Nat.zero_le _,S1,σt,.refl,s1,c.fr f1,by simpa using q1⟩,?_⟩
 rintro i m σ H ⟨rfl,hi,S2,σt2,f2,s2,c2,q2⟩
 by_cases hl:i<src.items.length
 ·have e1:src.items[i]?=some src.items[i]:=by simp [hl]
  rw [iO e1] at q2
  obtain ⟨hg,q2⟩:=q2
  refine .inr ⟨it.go H S2 i f2 s2 hg hl,λσ' H'=>∃ S σt,Fr H1 S1 H' S/\SRp K H' S/\Cov K H' S σ' σt/\c8 src.grd g wb Dt (src.items.drop (i+1)) σt S,λσ' H' n=>⟨src.items.length - (i+1),by omega,rfl,hl,n⟩,λx H' y=>?_⟩
  obtain ⟨t,et,f3,s3,r3⟩:=it.yld H S2 i x H' f2 s2 hg hl y
  rw [e1] at et;cases et
  refine ⟨S2,_,σt2,_,s3,r3,c2.fr f3,q2,λσ4 H4 σt4 S4 f4 s4 c4 q4=>?_⟩
  have fA:=(f2.trans f3).trans f4
  refine ⟨S4,σt4,_,s4,c4,q4,⟨λσ' H' σt' S' f s' c' q'=>⟨S',σt',fA.trans f,s',c',q'⟩,λv H' t S' f=>he.rt v H' t S' ((f1.trans fA).trans f),λσ' H' σt' S' f=>he.nx σ' H' σt' S' ((f1.trans fA).trans f),λσ' H' σt' S' f s' c' q'=>⟨S',σt',fA.trans f,s',c',q'⟩⟩⟩
 ·have e:i=src.items.length:=by omega
  subst e
  rw [List.drop_eq_nil_of_le (Nat.le_refl _)] at q2
  exact .inl ⟨it.stop H S2 f2 s2 q2.1,he.nx σ H σt2 S2 (f1.trans f2) s2 c2 q2.2⟩
theorem fF {iter:Expr}{body:List Stmt}{wi:WI}{g:WG}{wb:WS}{pos:Pos}(hp:PassesOwn (model X.prog X.w) X.A X.env X.xe) (hc:X.calm=true) (hi:QI K X tg iter wi) (hg:QG K X tg g) (hb:QSs K X body wb)
  (hs:∀ x,foldedSetIterable iter X.env x=pure x:=by intro _;rfl):QS K X (.For tg iter body [] pos) (mC wi g wb):=PS.of (Aw hp hc hi hg hb hs) λ_ _ _ h=>yK h
def fg (t:T) (ts:List T) (S:Sto):Prop:=match t with
 |.ref a=>S a=some (.lst ts)
 |_=>True
def wiL (wa:WE):WI:=λσ S R=>wa σ S λx S1=>∃ ts,aD S1 x=some ts/\R ⟨ts,fg x ts⟩ S1
theorem vK {S S':Sto}{x:T}{ts:List T}(e:aD S x=some ts) (h:fg x ts S'):aD S' x=some ts:=by
 cases x with
 |ref a=>exact cD h
 |lst us=>exact e
 |scr us=>exact e
 |_=>cases e
theorem vL {H1:Hp}{S1:Sto}{x:T}{a:Addr}{ts:List T}(r:Rp K H1 S1 x (.ref a)) (e:aD S1 x=some ts):Iter K (Itl K a) ⟨ts,fg x ts⟩ H1 S1:=by
 have main:∀ H S,Fr H1 S1 H S->SRp K H S->fg x ts S->∃ vs,SqL K H a vs/\Rps K H S ts vs:=λH S f s g=>by
  obtain ⟨p,vs,ep,hq,rs⟩:=bz s (r.fr f) (vK e g)
  cases ep
  exact ⟨vs,hq,rs⟩
 refine ⟨λH S i f s g hl=>?_,λH S i y H' f s g hl hy=>?_,λH S f s g=>?_⟩
 ·obtain ⟨vs,hq,rs⟩:=main H S f s g
  obtain ⟨v,hv,_⟩:=rs.get (i:=i) (t:=ts[i]) (by simp [show i<ts.length from hl])
  exact ⟨vs,v,hq,hv⟩
 ·obtain ⟨vs,hq,rs⟩:=main H S f s g
  obtain ⟨rfl,hy⟩:=hy
  obtain ⟨t,et,rt⟩:=rs.getV (hy vs hq)
  exact ⟨t,et,.refl,s,rt⟩
 ·obtain ⟨vs,hq,rs⟩:=main H S f s g
  exact ⟨vs,hq,by rw [rs.length];exact Nat.le_refl _⟩
theorem eS {l:Expr}{wa:WE}(hK:X.K=K) (hl:QE K X l wa):QI K X tg l (wiL wa):=by
 subst hK
 refine PI.of (yb hl) λσ H R zz87=>?_
 obtain ⟨S,σt,Rt,s,c,q,hq⟩:=zz87
 refine ⟨S,σt,_,s,c,q,λv H1 t S1 f1 s1 r1 q1=>?_⟩
 obtain ⟨ts,e,q1⟩:=q1
 obtain ⟨p,vs,rfl,hS,rs⟩:=bz s1 r1 e
 exact ⟨p,rfl,⟨vs,hS⟩,hq _ H1 _ S1 f1 s1 (vL r1 e) q1⟩
def cE (lo:Int) (n:Nat):List T:=(List.range n).map λ(i:Nat)=>T.int (lo+i)
theorem uU {lo:Int}{n:Nat}{H1 S1}:Iter K (Itr lo n) ⟨cE lo n,λ_=>True⟩ H1 S1:=by
 refine ⟨λH S i f s g hl=>by simpa [cE,Itr] using hl,λH S i y H' f s g hl hy=>?_,λH S f s g=>by simp [cE,Itr]⟩
 obtain ⟨rfl,rfl⟩:=hy
 have hl':i<n:=by simpa [cE] using hl
 exact ⟨.int (lo+i),by simp [cE,hl'],.refl,s,.int⟩
def tO (wa:WE):WI:=λσ S R=>wa σ S λx S1=>match x with
 |.int j=>-(2 ^ 62)<=j/\j<2 ^ 62/\R ⟨cE 0 j.toNat,λ_=>True⟩ S1
 |_=>False
theorem iy {a:Expr}{wa:WE}{p pos:Pos}(hg:Gl X "range") (hm:X.mg "range"=none) (ha:QE K X a wa) (hs:starEach [a] X.env=[(false,eval a X.env)]:=by rfl) (hs':starEach [a] X.env=(false,eval a X.env)::starEach [] X.env:=by rfl) :
  QI K X tg (.Call (.Name "range" p) [a] [] pos) (tO wa) :=
 PI.of (vd hg hm (pi ha qc hs') hs) λσ H R zz88=>by
  obtain ⟨S,σt,Rt,s,c,q,hq⟩:=zz88
  refine ⟨S,σt,_,s,c,q,λx H1 tx S1 f1 s1 r1 q1=>?_⟩
  cases r1<;>first|exact q1.elim|skip
  exact ⟨_,rfl,q1.1,q1.2.1,hq _ H1 _ S1 f1 s1 uU q1.2.2⟩
def gp (z:Str):List T:=z.cps.toList.map λc=>T.str ⟨#[c]⟩
def wiS (wa:WE):WI:=λσ S R=>wa σ S λx S1=>match x with
 |.str z=>R ⟨gp z,λ_=>True⟩ S1
 |_=>False
theorem kZ {l:Expr}{wa:WE}(hl:QE K X l wa):QI K X tg l (wiS wa):=PI.of (AR hl) λσ H R zz89=>by
 obtain ⟨S,σt,Rt,s,c,q,hq⟩:=zz89
 refine ⟨S,σt,_,s,c,q,λx H1 tx S1 f1 s1 r1 q1=>?_⟩
 cases r1<;>first|exact q1.elim|skip
 refine ⟨_,rfl,hq _ H1 _ S1 f1 s1 ⟨λH S i f s g hl=>by simpa [gp,Its] using hl,λH S i y H' f s g hl hy=>?_,λH S f s g=>by simp [gp,Its]⟩ q1⟩
 obtain ⟨rfl,c,ec,rfl⟩:=hy
 exact ⟨.str ⟨#[c]⟩,by simp [gp,ec],.refl,s,.str⟩
def QTs (K:Fg) (X:Cx) (ifs:List Expr) (w:WT):Prop:=PTs X ifs (lT K w)
def sk:WT:=λ_ S Q=>Q true S
theorem eT:QTs K X [] sk:=λpins s σ H Q I zz90=>by obtain ⟨S,σt,Qt,sr,c,q,hq⟩:=zz90;exact yw pins s σ H Q I (hq true H S .refl sr q)
theorem kE {c:Expr}{w:WT}(h:QT K X c w):QTs K X [c] w:=yx h
def eU (n:Nat) (caps:List Nat) (σ:StT):StT:=List.replicate n none++caps.map λi=>(σ[i]?).join
def cU (grd:Sto->Prop) (g:WG) (tt:WT) (te:WE) (Q:List T->Sto->Prop):List T->List T->StT->Sto->Prop
 |[],acc,_,S=>grd S/\Q acc S
 |x::xs,acc,σ,S=>grd S/\g x σ S λσ2 S2=>tt σ2 S2 λb S3=>if b=true then te σ2 S3 λy S4=>acc.length<sizeLine/\cU grd g tt te Q xs (acc++[y]) σ2 S4 else cU grd g tt te Q xs acc σ2 S3
def jf (tr:Bool) (wi:WI) (n:Nat) (caps:List Nat) (g:WG) (tt:WT) (te:WE):WE:=λσ S Q=>wi σ S λsrc S1=>cU src.grd g tt te (λts S2=>aR tr ts S2 Q) src.items [] (eU n caps σ) S1
theorem xc {H S σ σt n caps}(c:Cov K H S σ σt):Cov K H S (e7 n caps σ) (eU n caps σt):=by
 refine ⟨by simp [e7,eU],λi t e=>?_⟩
 unfold eU at e
 unfold e7
 by_cases hi:i<n
 ·rw [List.getElem?_append_left (by simpa using hi),List.getElem?_replicate] at e
  rw [if_pos hi] at e;cases e
 ·rw [List.getElem?_append_right (by simpa using hi)] at e ⊢
  simp only [List.length_replicate,List.getElem?_map] at e ⊢
  cases q:caps[i - n]? with
  |none=>rw [q] at e;cases e
  |some j =>
   rw [q] at e
   simp only [Option.map_some,Option.some.injEq] at e ⊢
   cases z:σt[j]? with
   |none=>rw [z] at e;cases e
   |some o =>
    rw [z] at e
    simp only [Option.join_some] at e
    subst e
    obtain ⟨v,hv,rv⟩:=c.2 j t z
    exact ⟨v,by rw [hv];rfl,rv⟩
mutual
theorem Rp.chg {H S D φ o}(e:H D=some (.ext φ)):∀ {t v},Rp K H S t v->Rp K (upd H D o) S t v
 |_,_,.non=>.non
 |_,_,.bl=>.bl
 |_,_,.int=>.int
 |_,_,.str=>.str
 |_,_,.ty=>.ty
 |_,_,.ref=>.ref
 |_,_,.tup n h r=>.tup n (by rw [ap (cF h e (by intro z;cases z))];exact h) (Rps.chg e r)
 |_,_,.lst n h r=>.lst n (by rw [ap (cF h e (by intro z;cases z))];exact h) (Rps.chg e r)
 |_,_,.scr h=>.scr (by
   rcases h with ⟨n,o',h⟩|h
   ·exact .inl ⟨n,o',by rw [ap (cF h e (by intro z;cases z))];exact h⟩
   ·exact .inr h)
theorem Rps.chg {H S D φ o}(e:H D=some (.ext φ)):∀ {ts vs},Rps K H S ts vs->Rps K (upd H D o) S ts vs
 |_,_,.nil=>.nil
 |_,_,.cons a b=>.cons (Rp.chg e a) (Rps.chg e b)
end
theorem SRp.chg {H S D φ o}(e:H D=some (.ext φ)) (n:S D=none) (s:SRp K H S):SRp K (upd H D o) S:=λa o' h=>by
 have ha:a≠D:=λz=>by rw [z,n] at h;cases h
 cases s a o' h with
 |lst h' r=>exact .lst (by rw [ap ha];exact h') (Rps.chg e r)
 |dK h' r=>exact .dK (by rw [ap ha];exact h') (Paired.mapP r λ_ _ z=>⟨z.1,Rp.chg e z.2⟩)
 |dT h' r=>exact .dT (by rw [ap ha];exact h') (Paired.mapP r λ_ _ z=>⟨z.1,Rp.chg e z.2⟩)
 |fK h' r=>exact .fK (by rw [ap ha];exact h') (Paired.mapP r λ_ _ z=>⟨z.1,Rp.chg e z.2⟩)
 |ins h' r=>exact .ins (by rw [ap ha];exact h') (Paired.mapP r λ_ _ z=>⟨z.1,Rp.chg e z.2⟩)
 |exk h'=>exact .exk (by rw [ap ha];exact h')
theorem Cov.chg {H S D φ o σ σt}(e:H D=some (.ext φ)) (c:Cov K H S σ σt):Cov K (upd H D o) S σ σt:=⟨c.1,λi t h=>by
 obtain ⟨v,h1,r⟩:=c.2 i t h
 exact ⟨v,h1,Rp.chg e r⟩⟩
theorem Fr.at {H S H1 S1 D o}(f:Fr H1 S1 H S) (hD:H1 D=none):Fr H1 S1 (upd H D o) S:=λa u h n=>by
 rw [ap (bf h hD)];exact f a u h n
mutual
theorem Rp.trk {H S D φ o p}(e:H D=some (.ext φ)):∀ {t v},Rp K H S t v->Rp K (upd H D o) (put S D p) t v
 |_,_,.non=>.non
 |_,_,.bl=>.bl
 |_,_,.int=>.int
 |_,_,.str=>.str
 |_,_,.ty=>.ty
 |_,_,.ref=>.ref
 |_,_,.tup n h r=>.tup (by rw [aO (cF h e (by intro z;cases z))];exact n) (by rw [ap (cF h e (by intro z;cases z))];exact h) (Rps.trk e r)
 |_,_,.lst n h r=>.lst (by rw [aO (cF h e (by intro z;cases z))];exact n) (by rw [ap (cF h e (by intro z;cases z))];exact h) (Rps.trk e r)
 |_,_,.scr h=>.scr (by
   rcases h with ⟨n,o',h⟩|h
   ·exact .inl ⟨by rw [aO (cF h e (by intro z;cases z))];exact n,o',by rw [ap (cF h e (by intro z;cases z))];exact h⟩
   ·exact .inr h)
theorem Rps.trk {H S D φ o p}(e:H D=some (.ext φ)):∀ {ts vs},Rps K H S ts vs->Rps K (upd H D o) (put S D p) ts vs
 |_,_,.nil=>.nil
 |_,_,.cons a b=>.cons (Rp.trk e a) (Rps.trk e b)
end
theorem SRp.trk {H S D φ zs acc}(e:H D=some (.ext φ)) (s:SRp K H S) (r:Rps K H S acc zs):SRp K (upd H D (.lst zs)) (put S D (.lst acc)):=λa o' h=>by
 by_cases ha:a=D
 ·subst ha;rw [aK] at h;cases h;exact .lst aA (Rps.trk e r)
 ·rw [aO ha] at h
  cases s a o' h with
  |lst h' r=>exact .lst (by rw [ap ha];exact h') (Rps.trk e r)
  |dK h' r=>exact .dK (by rw [ap ha];exact h') (Paired.mapP r λ_ _ z=>⟨z.1,Rp.trk e z.2⟩)
  |dT h' r=>exact .dT (by rw [ap ha];exact h') (Paired.mapP r λ_ _ z=>⟨z.1,Rp.trk e z.2⟩)
  |fK h' r=>exact .fK (by rw [ap ha];exact h') (Paired.mapP r λ_ _ z=>⟨z.1,Rp.trk e z.2⟩)
  |ins h' r=>exact .ins (by rw [ap ha];exact h') (Paired.mapP r λ_ _ z=>⟨z.1,Rp.trk e z.2⟩)
  |exk h'=>exact .exk (by rw [ap ha];exact h')
theorem oN {tr:Bool}{wi:WI}{n:Nat}{caps:List Nat}{g:WG}{tt:WT}{te:WE}{σ H Q}(h:lE K (jf tr wi n caps g tt te) σ H Q):kX (lI K wi) n caps (lG K g) (lT K tt) (lE K te) σ H Q:=by
 obtain ⟨S,σt,Qt,s,c,q,hq⟩:=h
 refine ⟨S,σt,_,s,c,q,λJ H1 src S1 f1 s1 it q1=>?_⟩
 intro D hD
 refine ⟨λi m zs σc H=>m=src.items.length - i/\i<=src.items.length/\H D=some (a8 D zs)/\∃ S σt acc,S D=none/\Fr H1 S1 H S/\Rps K H S acc zs/\SRp K H S/\Cov K H S σc σt/\cU src.grd g tt te (λts S2=>aR tr ts S2 Qt) (src.items.drop i) acc σt S,
  ⟨_,rfl,Nat.zero_le _,aA,S1,eU n caps σt,[],s1.fresh hD,Fr.new hD,.nil,s1.new hD,xc ((c.fr f1).fr (Fr.new hD)),by simpa using q1⟩,?_⟩
 rintro i m zs σc H ⟨rfl,hi,e2,S2,σt2,acc,n2,f2,r2,s2,c2,q2⟩
 refine ⟨e2,?_⟩
 by_cases hl:i<src.items.length
 ·have e1:src.items[i]?=some src.items[i]:=by simp [hl]
  rw [iO e1] at q2
  obtain ⟨hg,q2⟩:=q2
  refine .inr ⟨it.go H S2 i f2 s2 hg hl,λzs' σ' H'=>H' D=some (a8 D zs')/\∃ S σt acc,S D=none/\Fr H1 S1 H' S/\Rps K H' S acc zs'/\SRp K H' S/\Cov K H' S σ' σt/\cU src.grd g tt te (λts S2=>aR tr ts S2 Qt) (src.items.drop (i+1)) acc σt S,
   λzs' σ' H' n=>⟨src.items.length - (i+1),by omega,rfl,hl,n⟩,λx H' y=>?_⟩
  obtain ⟨t,et,f3,s3,r3⟩:=it.yld H S2 i x H' f2 s2 hg hl y
  rw [e1] at et;cases et
  have e3:=f3 D _ e2 n2
  refine ⟨S2,_,σt2,_,s3,r3,c2.fr f3,q2,λσ4 H4 σt4 S4 f4 s4 c4 q4=>?_⟩
  have e4:=f4 D _ e3.1 e3.2
  refine ⟨S4,σt4,_,s4,c4,q4,λb H5 S5 f5 s5 q5=>?_⟩
  have e5:=f5 D _ e4.1 e4.2
  have fB:=((f3.trans f4).trans f5)
  cases b with
  |false=>exact ⟨e5.1,S5,σt4,acc,e5.2,f2.trans fB,r2.fr fB,s5,c4.fr f5,q5⟩
  |true =>
   refine ⟨S5,σt4,_,s5,c4.fr f5,q5,λy H6 ty S6 f6 s6 r6 q6=>?_⟩
   have e6:=f6 D _ e5.1 e5.2
   have fC:=fB.trans f6
   exact ⟨e6.1,by rw [r2.length];exact q6.1,aA,S6,σt4,acc++[ty],e6.2,Fr.at (f2.trans fC) hD,Rps.chg e6.1 ((r2.fr fC).append (.cons r6 .nil)),s6.chg e6.1 e6.2,((c4.fr f5).fr f6).chg e6.1,q6.2⟩
 ·have e:i=src.items.length:=by omega
  subst e
  rw [List.drop_eq_nil_of_le (Nat.le_refl _)] at q2
  refine .inl ⟨it.stop H S2 f2 s2 q2.1,?_⟩
  have fE:Fr H1 S1 (upd H D (.lst zs)) S2:=Fr.at f2 hD
  cases tr with
  |false=>exact hq _ _ (.lst acc) S2 (f1.trans fE) (s2.chg e2 n2) (.lst n2 aA (Rps.chg e2 r2)) q2.2
  |true =>
   have fr1:Fr H1 S1 (upd H D (.lst zs)) (put S2 D (.lst acc)):=λa o h nn=>by
    have ha:a≠D:=bf h hD
    rw [aO ha];exact fE a o h nn
   exact hq _ _ (.ref D) _ (f1.trans fr1) (SRp.trk e2 s2 r2) .ref (q2.2 D n2)
theorem df (tr:Bool){elt iter target:Expr}{ifs:List Expr}{scope:Scope}{pos:Pos}{wi:WI}{g:WG}{tt:WT}{te:WE}(Nc:List Str) (n:Nat) (caps:List Nat) (hcalm:X.calm=true) (hi:QI K X target iter wi) (hg:∀ C s₀ H₀ ex,QG K (X.comp scope Nc C s₀ H₀ ex) target g)
  (ht:∀ C s₀ H₀ ex,QTs K (X.comp scope Nc C s₀ H₀ ex) ifs tt) (he:∀ C s₀ H₀ ex,QE K (X.comp scope Nc C s₀ H₀ ex) elt te) (hsc:eZ X.env.scope scope=true:=by rfl) (hcp:dO X.N Nc scope n caps=true:=by rfl) (hs:∀ x,foldedSetIterable iter X.env x=pure x:=by intro _;rfl) :
  QE K X (.ListComp elt [⟨target,iter,ifs,0⟩] scope pos) (jf tr wi n caps g tt te):=PE.of (wW Nc n caps hcalm hi hg ht he hsc hcp hs) λ_ _ _ h=>oN h
theorem vM (tr:Bool){elt iter target:Expr}{ifs:List Expr}{scope:Scope}{pos:Pos}{wi:WI}{g:WG}{tt:WT}{te:WE}{i:Nat}{x:Str}{px spos:Pos}(Nc:List Str) (n:Nat) (caps:List Nat) (hcalm:X.calm=true) (hN:X.N.Nodup) (hix:X.N[i]?=some x) (hx:Loc X.env.scope x)
  (hi:QI K X target iter wi) (hg:∀ C s₀ H₀ ex,QG K (X.comp scope Nc C s₀ H₀ ex) target g)
  (ht:∀ C s₀ H₀ ex,QTs K (X.comp scope Nc C s₀ H₀ ex) ifs tt) (he:∀ C s₀ H₀ ex,QE K (X.comp scope Nc C s₀ H₀ ex) elt te)
  (hsw:swapsWith (.ListComp elt [⟨target,iter,ifs,0⟩] scope pos) (some (.Name x px)) spos.line X.env=pure true:=by rfl) (hsc:eZ X.env.scope scope=true:=by rfl) (hcp:dO X.N Nc scope n caps=true:=by rfl) (hs:∀ x,foldedSetIterable iter X.env x=pure x:=by intro _;rfl)
  (hf:X.fn x=true\/X.env.scope.names.lookup x=some .local:=by first|exact .inl rfl|exact .inr rfl|assumption) :
  QS K X (.Assign [.Name x px] (.ListComp elt [⟨target,iter,ifs,0⟩] scope pos) spos) (gU (jf tr wi n caps g tt te) (wgN i)):=PS.of (wX Nc n caps hcalm hN hix hx hi hg ht he hsw hsc hcp hs hf) λD σ H h=>by
 obtain ⟨S,σt,Dt,s,c,q,he⟩:=h
 exact oN ⟨S,σt,_,s,c,q,λv H1 t S1 f1 s1 r1 q1=>he.nx _ H1 _ S1 f1 s1 ((c.fr f1).set r1 i) q1⟩
end
end T2
namespace L2
open PySem PySem.Spec PyProof.Rows
section
variable {X:Cx}
def yL:V->List V->Hp->VK->Prop:=λx vs H Q=>∃ a b,x=.str a/\vs=[.str b]/\Q (.bl (Txt.startswith a b)) H
theorem ui:MtR X "str.startswith" yL:=by
 intro pins s σ H x vs v us Q I rx rv h
 obtain ⟨a,b,rfl,rfl,q⟩:=h
 obtain ⟨t,rfl⟩:=rx
 obtain ⟨u,rfl,t2,rfl⟩:=bi rv
 exact SC.startswith ⟨.bl _,H,I,rfl,q⟩
end
end L2
namespace T2
open PySem PySem.Spec PyProof.Rows L2
section
variable {K:Fg}{X:Cx}
def bG:T->Bool
 |.non=>true
 |.bl _=>true
 |.int _=>true
 |.str _=>true
 |_=>false
def eqF:T->T->Bool
 |.non,.non=>true
 |.bl a,.bl b=>a==b
 |.bl a,.int b=>(if a then 1 else 0)==b
 |.int a,.bl b=>a==(if b then 1 else 0)
 |.int a,.int b=>a==b
 |.str a,.str b=>a==b
 |_,_=>false
theorem Dl {a b:Str}:eqF (.str a) (.str b)=(a==b):=rfl
theorem gq {H S t v}(r:Rp K H S t v) (f:bG t=true):bA v=true:=by cases r<;>first|rfl|cases f
theorem Dm {H S t v t' v'}(r:Rp K H S t v) (r':Rp K H S t' v') (f:bG t=true) (f':bG t'=true):eqV v v'=eqF t t':=by
 cases r<;>first|(cases f;done)|(cases r'<;>first|(cases f';done)|rfl)
theorem gW {H S t v}(r:Rp K H S t v) (f:bG t=true):∀ {ts vs},Rps K H S ts vs->ts.all bG=true->vs.all bA=true/\inV v vs=ts.any λy=>eqF y t
 |_,_,.nil,_=>⟨rfl,rfl⟩
 |_,_,.cons a b,h=>by
  rw [List.all_cons,Bool.and_eq_true] at h
  obtain ⟨h1,h2⟩:=gW r f b h.2
  refine ⟨by rw [List.all_cons,gq a h.1,h1];rfl,?_⟩
  unfold inV at h2 ⊢
  rw [List.any_cons,List.any_cons,h2,Dm a r h.1 f]
def cG:T->Option Key
 |.int i=>some (.inl i)
 |.str x=>some (.inr x)
 |_=>none
def gIn (neg:Bool):G2:=λx y S Q=>(∃ i j,x=.str i/\y=.str j/\Q (.bl (neg ^^ !(Builtin.Str.occurrences j i 0 j.length 1).isEmpty)) S) \/
 (∃ ts,y=.tup ts/\bG x=true/\ts.all bG=true/\Q (.bl (neg ^^ ts.any λy=>eqF y x)) S) \/
 ∃ ts,aD S y=some ts/\bG x=true/\ts.all bG=true/\Q (.bl (neg ^^ ts.any λy=>eqF y x)) S
theorem jz (hK:X.K=K):OpR X (compareOp .In) (l2 K (gIn false)):=by
 subst hK
 rintro pins s σ H x y v u Q I rx ry ⟨S,tx,ty,Qt,sr,hx,hy,hg,b⟩
 rcases hg with ⟨i,j,rfl,rfl,q⟩|⟨ts,rfl,fx,ft,q⟩|⟨ts,e,fx,ft,q⟩
 ·obtain rfl:=hx.istr
  obtain rfl:=hy.istr
  exact vg pins s σ H _ _ v u Q I rx ry ⟨i,j,rfl,rfl,b _ H _ S .refl sr .bl (by simpa using q)⟩
 ·obtain ⟨p,vs,rfl,hp,rs⟩:=hy.itup
  obtain ⟨h1,h2⟩:=gW hx fx rs ft
  refine n4 pins s σ H _ _ v u Q I rx ry ⟨_,_,rfl,.inr (SqT.of hp),gq hx fx,h1,?_⟩
  rw [h2]
  exact b _ H _ S .refl sr .bl (by simpa using q)
 ·obtain ⟨p,vs,rfl,hq,rs⟩:=bz sr hy e
  obtain ⟨h1,h2⟩:=gW hx fx rs ft
  refine n4 pins s σ H _ _ v u Q I rx ry ⟨p,vs,rfl,.inl hq,gq hx fx,h1,?_⟩
  rw [h2]
  exact b _ H _ S .refl sr .bl (by simpa using q)
theorem pE (hK:X.K=K):OpR X (compareOp .NotIn) (l2 K (gIn true)):=by
 subst hK
 rintro pins s σ H x y v u Q I rx ry ⟨S,tx,ty,Qt,sr,hx,hy,hg,b⟩
 rcases hg with ⟨i,j,rfl,rfl,q⟩|⟨ts,rfl,fx,ft,q⟩|⟨ts,e,fx,ft,q⟩
 ·obtain rfl:=hx.istr
  obtain rfl:=hy.istr
  exact uo pins s σ H _ _ v u Q I rx ry ⟨i,j,rfl,rfl,b _ H _ S .refl sr .bl (by simpa using q)⟩
 ·obtain ⟨p,vs,rfl,hp,rs⟩:=hy.itup
  obtain ⟨h1,h2⟩:=gW hx fx rs ft
  refine mU pins s σ H _ _ v u Q I rx ry ⟨_,_,rfl,.inr (SqT.of hp),gq hx fx,h1,?_⟩
  rw [h2]
  exact b _ H _ S .refl sr .bl (by simpa using q)
 ·obtain ⟨p,vs,rfl,hq,rs⟩:=bz sr hy e
  obtain ⟨h1,h2⟩:=gW hx fx rs ft
  refine mU pins s σ H _ _ v u Q I rx ry ⟨p,vs,rfl,.inl hq,gq hx fx,h1,?_⟩
  rw [h2]
  exact b _ H _ S .refl sr .bl (by simpa using q)
abbrev GC:=List T->Sto->(T->Sto->Prop)->Prop
def lC (K:Fg) (g:GC):List V->Hp->VK->Prop:=λxs H Q=>∃ S ts Qt,SRp K H S/\Rps K H S ts xs/\g ts S Qt/\Bh K H S Qt Q
def wCB (g:GC) (wr:WA):WE:=λσ S Q=>wr σ S λts S1=>g ts S1 Q
theorem A1 {g:GC}{wr:WA}{σ H Q}(h:lE K (wCB g wr) σ H Q):tCB (lC K g) (lA K wr) σ H Q:=by
 obtain ⟨S,σt,Qt,s,c,q,hq⟩:=h
 refine ⟨S,σt,_,s,c,q,λvs H1 ts S1 f1 s1 r1 q1=>?_⟩
 exact ⟨S1,ts,Qt,s1,r1,q1,λv H' t S' f=>hq v H' t S' (f1.trans f)⟩
theorem tP {g:GC}{wr:WA}{e:Expr}(hp:PE X e (tCB (lC K g) (lA K wr))):QE K X e (wCB g wr):=PE.of hp λ_ _ _ h=>A1 h
def gX (S:Sto):T->Option Int
 |.str z=>if z.length<=sizeLine then some z.length else none
 |.tup ts=>some ts.length
 |t=>(aD S t).map λts=>ts.length
def gY:GC:=λts S Q=>match ts with
 |[x]=>∃ n,gX S x=some n/\Q (.int n) S
 |_=>False
theorem cc (hK:X.K=K):bu X (.builtin "len") (lC K gY):=by
 subst hK
 rintro pins s σ H xs us Q I r ⟨S,ts,Qt,sr,rs,hg,b⟩
 cases rs with
 |nil=>exact hg.elim
 |cons a l =>
  cases l with
  |cons _ _=>exact hg.elim
  |nil =>
   obtain ⟨n,e,q⟩:=hg
   rename_i t v
   have lists:(aD S t).map (λts=>(ts.length:Int))=some n->wpAny (model X.prog X.w) X.A (call (.builtin "len") us) (EP X pins σ Q) X.xe s:=by
    intro e3
    rw [Option.map_eq_some_iff] at e3
    obtain ⟨ts,e3,rfl⟩:=e3
    obtain ⟨p,vs,rfl,hq,rs⟩:=bz sr a e3
    exact mV pins s σ H _ us Q I r ⟨p,vs,rfl,.inl hq,by rw [rs.length];exact b _ H _ S .refl sr .int q⟩
   cases t with
   |str z =>
    cases a
    delta gX at e
    dsimp only at e
    split at e
    ·next hz=>cases e;exact ut pins s σ H _ us Q I r ⟨z,rfl,hz,b _ H _ S .refl sr .int q⟩
    ·cases e
   |tup ts =>
    cases a with
    |tup n' hp rs=>cases e;exact mV pins s σ H _ us Q I r ⟨_,_,rfl,.inr (SqT.of hp),by rw [rs.length];exact b _ H _ S .refl sr .int q⟩
   |_=>exact lists e
def tyT (S:Sto):T->Option Value
 |.non=>some (.type "NoneType")
 |.bl _=>some (.type "bool")
 |.int _=>some (.type "int")
 |.str _=>some (.type "str")
 |.tup _=>some (.type "tuple")
 |.lst _=>some (.type "list")
 |.ref a=>match S a with
  |some (.lst _)=>some (.type "list")
  |some (.dK _)=>some (.type "dict")
  |some (.dT _)=>some (.type "dict")
  |_=>none
 |_=>none
def tQ (K:Fg):GC:=λts S Q=>match ts with
 |[x,.ty n]=>∃ t b,tyT S x=some t/\PySem.W.kitOne K t (.type n)=some b/\Q (.bl b) S
 |_=>False
theorem A2 {H S t v ty}(s:SRp K H S) (r:Rp K H S t v) (e:tyT S t=some ty):TyOf K H v ty:=by
 cases r with
 |non=>cases e;exact .non
 |bl=>cases e;exact .bl _
 |int=>cases e;exact .int _
 |str=>cases e;exact .str _
 |tup n h _=>cases e;exact .tup h
 |lst n h _=>cases e;exact .lst h
 |ty=>cases e
 |scr _=>cases e
 |ref =>
  rename_i a
  delta tyT at e
  dsimp only at e
  cases q:S a with
  |none=>rw [q] at e;cases e
  |some o =>
   rw [q] at e
   cases o with
   |lst us=>cases e;cases s a _ q with
    |lst h rs=>exact .lst h
   |dK us=>cases e;cases s a _ q with
    |dK h rs=>exact .dK h
   |dT us=>cases e;cases s a _ q with
    |dT h rs=>exact .dT h
   |fK _ _ _ _=>cases e
   |ins _ _=>cases e
   |exk _=>cases e
theorem lQ (hK:X.K=K):bu X (.builtin "isinstance") (lC K (tQ K)):=by
 subst hK
 rintro pins s σ H xs us Q I r ⟨S,ts,Qt,sr,rs,hg,b⟩
 cases rs with
 |nil=>exact hg.elim
 |cons a l =>
  cases l with
  |nil=>exact hg.elim
  |cons a2 l2 =>
   cases l2 with
   |cons _ _=>cases a2<;>exact hg.elim
   |nil =>
    cases a2<;>first|exact hg.elim|skip
    obtain ⟨t,k,e,hk,q⟩:=hg
    exact uF pins s σ H _ us Q I r ⟨_,_,t,k,rfl,⟨_,rfl,λz h=>h,hk⟩,A2 sr a e,b _ H _ S .refl sr .bl q⟩
def su (tr:Bool):GC:=λts S Q=>match ts with
 |[.tup us]=>aR tr us S Q
 |[x]=>∃ us,aD S x=some us/\aR tr us S Q
 |_=>False
theorem A3 (tr:Bool) (hK:X.K=K):bu X (.type "list") (lC K (su tr)):=by
 subst hK
 rintro pins s σ H xs us Q I r ⟨S,ts,Qt,sr,rs,hg,b⟩
 cases rs with
 |nil=>exact hg.elim
 |cons a l =>
  cases l with
  |cons _ _=>cases a<;>exact hg.elim
  |nil =>
   rename_i t v
   have lists:(∃ us,aD S t=some us/\aR tr us S Qt)->wpAny (model X.prog X.w) X.A (call (.type "list") us) (EP X pins σ Q) X.xe s:=by
    rintro ⟨ws,e,n⟩
    obtain ⟨p,vs,rfl,hq,rs⟩:=bz sr a e
    exact mW pins s σ H _ us Q I r ⟨p,vs,rfl,.inl hq,fe sr rs n b⟩
   cases t with
   |tup ws =>
    cases a with
    |tup n' hp rs=>exact mW pins s σ H _ us Q I r ⟨_,_,rfl,.inr (SqT.of hp),fe sr rs hg b⟩
   |_=>exact lists hg
def jg:List T->Option (List Int)
 |[]=>some []
 |.int i::ts=>(jg ts).map (i::·)
 |_=>none
theorem pF {i:Int}{ts:List T}:jg (.int i::ts)=(jg ts).map (i::·):=rfl
theorem pG {H S}:∀ {ts vs ns},Rps K H S ts vs->jg ts=some ns->vs=ns.map V.int
 |_,_,_,.nil,e=>by cases e;rfl
 |_,_,_,.cons a b,e=>by
  cases a<;>first|(cases e;done)|skip
  simp only [pF,Option.map_eq_some_iff] at e
  obtain ⟨ns,e,rfl⟩:=e
  rw [List.map_cons,<- pG b e]
def dn:List T->Option (List Bool)
 |[]=>some []
 |.bl i::ts=>(dn ts).map (i::·)
 |_=>none
theorem A4 {i:Bool}{ts:List T}:dn (.bl i::ts)=(dn ts).map (i::·):=rfl
theorem qy {H S}:∀ {ts vs ns},Rps K H S ts vs->dn ts=some ns->vs=ns.map V.bl
 |_,_,_,.nil,e=>by cases e;rfl
 |_,_,_,.cons a b,e=>by
  cases a<;>first|(cases e;done)|skip
  simp only [A4,Option.map_eq_some_iff] at e
  obtain ⟨ns,e,rfl⟩:=e
  rw [List.map_cons,<- qy b e]
def dh:List T->Option (List Str)
 |[]=>some []
 |.str i::ts=>(dh ts).map (i::·)
 |_=>none
theorem pH {i:Str}{ts:List T}:dh (.str i::ts)=(dh ts).map (i::·):=rfl
theorem pI {H S}:∀ {ts vs ns},Rps K H S ts vs->dh ts=some ns->vs=ns.map V.str
 |_,_,_,.nil,e=>by cases e;rfl
 |_,_,_,.cons a b,e=>by
  cases a<;>first|(cases e;done)|skip
  simp only [pH,Option.map_eq_some_iff] at e
  obtain ⟨ns,e,rfl⟩:=e
  rw [List.map_cons,<- pI b e]
def tR:GC:=λts S Q=>match ts with
 |[x]=>∃ us bs,aD S x=some us/\dn us=some bs/\Q (.bl (bs.all id)) S
 |_=>False
theorem sv (hK:X.K=K) (hc:X.calm=true):bu X (.builtin "all") (lC K tR):=by
 subst hK
 rintro pins s σ H xs us Q I r ⟨S,ts,Qt,sr,rs,hg,b⟩
 cases rs with
 |nil=>exact hg.elim
 |cons a l =>
  cases l with
  |cons _ _=>exact hg.elim
  |nil =>
   obtain ⟨ws,ns,e,en,q⟩:=hg
   obtain ⟨p,vs,rfl,hq,rs⟩:=bz sr a e
   exact vD hc pins s σ H _ us Q I r ⟨p,ns,rfl,by rw [<- qy rs en];exact hq,b _ H _ S .refl sr .bl q⟩
def tS:GC:=λts S Q=>match ts with
 |[.int i]=>Q (.int i) S
 |[.bl k]=>Q (.int (if k then 1 else 0)) S
 |_=>False
theorem Dn:bu X (.type "int") (lC K tS):=by
 rintro pins s σ H xs us Q I r ⟨S,ts,Qt,sr,rs,hg,b⟩
 cases rs with
 |nil=>exact hg.elim
 |cons a l =>
  cases l with
  |cons _ _=>cases a<;>exact hg.elim
  |nil =>
   cases a<;>first|exact hg.elim|skip
   ·exact nX pins s σ H _ us Q I r (.inr ⟨_,rfl,b _ H _ S .refl sr .int hg⟩)
   ·exact nX pins s σ H _ us Q I r (.inl ⟨_,rfl,b _ H _ S .refl sr .int hg⟩)
abbrev GM:=T->List T->Sto->(T->Sto->Prop)->Prop
def lM (K:Fg) (g:GM):V->List V->Hp->VK->Prop:=λx xs H Q=>∃ S t ts Qt,SRp K H S/\Rp K H S t x/\Rps K H S ts xs/\g t ts S Qt/\Bh K H S Qt Q
def tyM (ty:String) (S:Sto) (x:T):Prop:=match x with
 |.str _=>ty="str"
 |.lst _=>ty="list"
 |.ref a=>match S a with
  |some (.lst _)=>ty="list"
  |some (.dK _)=>ty="dict"
  |some (.dT _)=>ty="dict"
  |_=>False
 |_=>False
def wBM (ty:String) (g:GM) (wa:WE) (wr:WA):WE:=λσ S Q=>wa σ S λx S1=>tyM ty S1 x/\wr σ S1 λts S2=>g x ts S2 Q
theorem sx {H S t v ty}(s:SRp K H S) (r:Rp K H S t v) (h:tyM ty S t):tyV K ty v H:=by
 cases r with
 |str=>exact h
 |lst n hp _=>exact .inl ⟨h,_,SqL.of hp⟩
 |ref =>
  rename_i a
  delta tyM at h
  dsimp only at h
  cases q:S a with
  |none=>rw [q] at h;exact h.elim
  |some o =>
   rw [q] at h
   cases o with
   |lst us=>cases s a _ q with
    |lst hp _=>exact .inl ⟨h,_,SqL.of hp⟩
   |dK us=>cases s a _ q with
    |dK hp _=>exact .inr (.inr (.inl ⟨h,.inl ⟨_,hp⟩⟩))
   |dT us=>cases s a _ q with
    |dT hp _=>exact .inr (.inr (.inl ⟨h,.inr ⟨_,hp⟩⟩))
   |fK _ _ _ _=>exact h.elim
   |ins _ _=>exact h.elim
   |exk _=>exact h.elim
 |_=>exact h.elim
theorem A5 {ty:String}{g:GM}{wa:WE}{wr:WA}{σ H Q}(h:lE K (wBM ty g wa wr) σ H Q):tBM K ty (lM K g) (lE K wa) (lA K wr) σ H Q:=by
 obtain ⟨S,σt,Qt,s,c,q,hq⟩:=h
 refine ⟨S,σt,_,s,c,q,λx H1 tx S1 f1 s1 r1 q1=>?_⟩
 refine ⟨sx s1 r1 q1.1,S1,σt,_,s1,c.fr f1,q1.2,λvs H2 ts S2 f2 s2 r2 q2=>?_⟩
 exact ⟨S2,tx,ts,Qt,s2,r1.fr f2,r2,q2,λv H' t S' f=>hq v H' t S' ((f1.trans f2).trans f)⟩
theorem yM {ty:String}{g:GM}{wa:WE}{σ H Q}(h:lE K (wBM ty g wa cJ) σ H Q):jt K ty (lM K g) (lE K wa) σ H Q:=by
 obtain ⟨S,σt,Qt,s,c,q,hq⟩:=h
 refine ⟨S,σt,_,s,c,q,λx H1 tx S1 f1 s1 r1 q1=>?_⟩
 exact ⟨sx s1 r1 q1.1,S1,tx,[],Qt,s1,r1,.nil,q1.2,λv H' t S' f=>hq v H' t S' (f1.trans f)⟩
theorem Fe {ty:String}{g:GM}{wa:WE}{wr:WA}{e:Expr}(hp:PE X e (tBM K ty (lM K g) (lE K wa) (lA K wr))):QE K X e (wBM ty g wa wr):=PE.of hp λ_ _ _ h=>A5 h
theorem Do {ty:String}{g:GM}{wa:WE}{e:Expr}(hp:PE X e (jt K ty (lM K g) (lE K wa))):QE K X e (wBM ty g wa cJ):=PE.of hp λ_ _ _ h=>yM h
def qA (tr:Bool):GM:=λx ts S Q=>match x,ts with
 |.str a,[.str c]=>c.length≠0/\a.length<=1000/\aR tr ((Txt.split a c).map T.str) S Q
 |_,_=>False
theorem pJ (tr:Bool):MtR X "str.split" (lM K (qA tr)):=by
 rintro pins s σ H x vs v us Q I rx rv ⟨S,t,ts,Qt,sr,hx,rs,hg,b⟩
 cases hx<;>first|exact hg.elim|skip
 cases rs with
 |nil=>exact hg.elim
 |cons a l =>
  cases l with
  |cons _ _=>cases a<;>exact hg.elim
  |nil =>
   cases a<;>first|exact hg.elim|skip
   exact wQ pins s σ H _ _ v us Q I rx rv ⟨_,_,rfl,rfl,hg.1,hg.2.1,fe sr Rps.strs hg.2.2 b⟩
def lU:GM:=λx ts S Q=>match x,ts with
 |.str a,[y]=>∃ us zs,aD S y=some us/\dh us=some zs/\JoinOk a zs=true/\Q (.str (Txt.join a zs)) S
 |_,_=>False
theorem k6 (hK:X.K=K):MtR X "str.join" (lM K lU):=by
 subst hK
 rintro pins s σ H x vs v us Q I rx rv ⟨S,t,ts,Qt,sr,hx,rs,hg,b⟩
 cases hx<;>first|exact hg.elim|skip
 cases rs with
 |nil=>exact hg.elim
 |cons a l =>
  cases l with
  |cons _ _=>exact hg.elim
  |nil =>
   obtain ⟨ws,zs,e,en,hj,q⟩:=hg
   obtain ⟨p,ys,rfl,hq,rs⟩:=bz sr a e
   exact yy pins s σ H _ _ v us Q I rx rv ⟨_,p,zs,rfl,rfl,by rw [<- pI rs en];exact hq,hj,b _ H _ S .refl sr .str q⟩
def qB:GM:=λx ts S Q=>match x,ts with
 |.str a,[.str c]=>a.length<=sizeLine/\Q (.str (Txt.stripChars a c)) S
 |_,_=>False
theorem yN:MtR X "str.strip" (lM K qB):=by
 rintro pins s σ H x vs v us Q I rx rv ⟨S,t,ts,Qt,sr,hx,rs,hg,b⟩
 cases hx<;>first|exact hg.elim|skip
 cases rs with
 |nil=>exact hg.elim
 |cons a l =>
  cases l with
  |cons _ _=>cases a<;>exact hg.elim
  |nil =>
   cases a<;>first|exact hg.elim|skip
   exact wR pins s σ H _ _ v us Q I rx rv ⟨_,_,rfl,rfl,hg.1,b _ H _ S .refl sr .str hg.2⟩
def pK:GM:=λx ts S Q=>match x,ts with
 |.str a,[.str c]=>Q (.bl (Txt.startswith a c)) S
 |_,_=>False
theorem oO:MtR X "str.startswith" (lM K pK):=by
 rintro pins s σ H x vs v us Q I rx rv ⟨S,t,ts,Qt,sr,hx,rs,hg,b⟩
 cases hx<;>first|exact hg.elim|skip
 cases rs with
 |nil=>exact hg.elim
 |cons a l =>
  cases l with
  |cons _ _=>cases a<;>exact hg.elim
  |nil =>
   cases a<;>first|exact hg.elim|skip
   exact ui pins s σ H _ _ v us Q I rx rv ⟨_,_,rfl,rfl,b _ H _ S .refl sr .bl hg⟩
theorem k7 {H S}{a:Addr}{ts:List T}(s:SRp K H S) (e:S a=some (.lst ts)):∃ vs,H a=some (.lst vs)/\Rps K H S ts vs:=by
 cases s a _ e with
 |lst h r=>exact ⟨_,h,r⟩
theorem on {H S}{a:Addr}{ts us:List T}{ws:List V}{Qt:T->Sto->Prop}{Q:VK}{t:T}{v:V}(s:SRp K H S) (e:S a=some (.lst ts)) (r:Rps K H S us ws) (b:Bh K H S Qt Q) (rt:Rp K H S t v) (q:Qt t (put S a (.lst us))):Q v (upd H a (.lst ws)):=by
 have hn:S a≠none:=by rw [e];simp
 exact b _ _ t _ (Fr.write hn) (s.write hn (.lst aA (r.fr (Fr.write hn)))) (rt.fr (Fr.write hn)) q
def kF:GM:=λx ts S Q=>match x,ts with
 |.ref a,[y]=>∃ us,S a=some (.lst us)/\us.length<sizeLine/\Q .non (put S a (.lst (us++[y])))
 |_,_=>False
theorem eN:MtR X "list.append" (lM K kF):=by
 rintro pins s σ H x vs v us Q I rx rv ⟨S,t,ts,Qt,sr,hx,rs,hg,b⟩
 cases hx<;>first|exact hg.elim|skip
 cases rs with
 |nil=>exact hg.elim
 |cons a l =>
  cases l with
  |cons _ _=>exact hg.elim
  |nil =>
   obtain ⟨ws,e,hl,q⟩:=hg
   obtain ⟨ys,hy,ry⟩:=k7 sr e
   exact n6 pins s σ H _ _ v us Q I rx rv ⟨_,ys,_,rfl,rfl,hy,by rw [ry.length];exact hl,on sr e (ry.append (.cons a .nil)) b .non q⟩
abbrev GS:=T->T->T->Sto->(Sto->Prop)->Prop
def gZ (K:Fg) (g:GS):js:=λo i v H Q=>∃ S to ti tv Qt,SRp K H S/\Rp K H S to o/\Rp K H S ti i/\Rp K H S tv v/\g to ti tv S Qt/\∀ H' S',Fr H S H' S'->SRp K H' S'->Qt S'->Q H'
def Dp:GS:=λo i v S Q=>match o,i with
 |.ref a,.int k=>∃ us j,S a=some (.lst us)/\ixN us.length k=some j/\Q (put S a (.lst (us.set j v)))
 |_,_=>False
theorem A6:dU X (gZ K Dp):=by
 rintro pins s σ H o i v ov iv u Q I ro ri rv ⟨S,to,ti,tv,Qt,sr,hO,hI,hV,hg,b⟩
 cases hO<;>first|exact hg.elim|skip
 cases hI<;>first|exact hg.elim|skip
 rename_i a k
 obtain ⟨us,j,e,hj,q⟩:=hg
 obtain ⟨ys,hy,ry⟩:=k7 sr e
 have hn:S a≠none:=by rw [e];simp
 exact wK pins s σ H _ _ _ ov iv u Q I ro ri rv ⟨_,ys,_,j,rfl,rfl,hy,by rw [ry.length];exact hj,b _ _ (Fr.write hn) (sr.write hn (.lst aA ((Rps.set hV j ry).fr (Fr.write hn)))) q⟩
def lV (k:Nat):GS:=λo i v S Q=>match o,i with
 |.ref a,.int j=>j=k/\∃ us,S a=some (.lst us)/\k<us.length/\Q (put S a (.lst (us.set k v)))
 |_,_=>False
theorem gr (k:Nat):dU X (gZ K (lV k)):=by
 rintro pins s σ H o i v ov iv u Q I ro ri rv ⟨S,to,ti,tv,Qt,sr,hO,hI,hV,hg,b⟩
 refine A6 pins s σ H o i v ov iv u Q I ro ri rv ⟨S,to,ti,tv,Qt,sr,hO,hI,hV,?_,b⟩
 cases hO<;>first|exact hg.elim|skip
 cases hI<;>first|exact hg.elim|skip
 obtain ⟨rfl,us,e,hk,q⟩:=hg
 refine ⟨us,k,e,?_,q⟩
 unfold ixN
 rw [if_pos (by omega),if_pos (by omega)]
 rfl
def wgS (wo wi:WE) (g:GS):WG:=λt σ S Q=>wo σ S λo S1=>wi σ S1 λi S2=>g o i t S2 λS3=>Q σ S3
theorem A7 {o i:Expr}{wo wi:WE}{g:GS}{pos:Pos}(h:PG X (.Subscript o i pos) (L2.fL (lE K wo) (lE K wi) (gZ K g))):QG K X (.Subscript o i pos) (wgS wo wi g):=PG.of h λv σ H Q zz91=>by
 obtain ⟨S,t,σt,Qt,s,r,c,q,hq⟩:=zz91
 refine ⟨S,σt,_,s,c,q,λx H1 tx S1 f1 s1 r1 q1=>?_⟩
 refine ⟨S1,σt,_,s1,c.fr f1,q1,λy H2 ty S2 f2 s2 r2 q2=>?_⟩
 exact ⟨S2,tx,ty,t,_,s2,r1.fr f2,r2,(r.fr f1).fr f2,q2,λH' S' f s' q'=>hq σ H' σt S' ((f1.trans f2).trans f) s' (c.fr ((f1.trans f2).trans f)) q'⟩
end
theorem cH {w u:WS}{D:EndsT}{σ:StT}{S:Sto}(M:StT->Sto->Prop) (h1:∀ X:StT->Sto->Prop,(∀ σ S,M σ S->X σ S)->w { D with nx:=X } σ S) (h2:∀ σ S,M σ S->u D σ S):mq w u D σ S:=h1 _ h2
theorem kG {α:Type}{grd:Sto->Prop}{g:WG}{wb:WS}{D:EndsT}{f:α->T}{ls:List α}{σ:StT}{S:Sto}(Iv:List α->StT->Sto->Prop) (h0:Iv ls σ S)
  (step:∀ a r σ S (N:StT->Sto->Prop),Iv (a::r) σ S->(∀ σ' S',Iv r σ' S'->N σ' S')->grd S/\g (f a) σ S λσ2 S2=>wb { nx:=N,rt:=D.rt,bk:=D.nx,ct:=N } σ2 S2)
  (done:∀ σ S,Iv [] σ S->grd S/\D.nx σ S):c8 grd g wb D (ls.map f) σ S:=by
 induction ls generalizing σ S with
 |nil=>exact done σ S h0
 |cons a r ih=>exact step a r σ S _ h0 λσ' S' iv=>ih iv
theorem jM {grd:Sto->Prop}{g:WG}{wb:WS}{D:EndsT}{lo:Int}{n:Nat}{σ:StT}{S:Sto}(Iv:Nat->StT->Sto->Prop) (h0:Iv 0 σ S)
  (step:∀ k σ S (N:StT->Sto->Prop),k<n->Iv k σ S->(∀ σ' S',Iv (k+1) σ' S'->N σ' S')->grd S/\g (.int (lo+k)) σ S λσ2 S2=>wb { nx:=N,rt:=D.rt,bk:=D.nx,ct:=N } σ2 S2)
  (done:∀ σ S,Iv n σ S->grd S/\D.nx σ S):c8 grd g wb D (cE lo n) σ S:=by
 unfold cE
 have main:∀ (m k:Nat) σ S,k+m=n->Iv k σ S->c8 grd g wb D ((List.range' k m).map λ(i:Nat)=>T.int (lo+i)) σ S:=by
  intro m
  induction m with
  |zero=>intro k σ S e iv;rw [show k=n by omega] at iv;exact done σ S iv
  |succ m ih =>
   intro k σ S e iv
   rw [List.range'_succ,List.map_cons]
   exact step k σ S _ (by omega) iv λσ' S' iv'=>ih (k+1) σ' S' (by omega) iv'
 rw [List.range_eq_range']
 exact main n 0 σ S (by omega) h0
theorem jT {grd:Sto->Prop}{g:WG}{tt:WT}{te:WE}{Q:List T->Sto->Prop}{items acc:List T}{σ:StT}{S:Sto}(Iv:List T->List T->StT->Sto->Prop) (h0:Iv items acc σ S)
  (step:∀ t ts acc σ S (N:List T->StT->Sto->Prop),Iv (t::ts) acc σ S->(∀ acc' σ' S',Iv ts acc' σ' S'->N acc' σ' S') ->
   grd S/\g t σ S λσ2 S2=>tt σ2 S2 λb S3=>if b=true then te σ2 S3 λy S4=>acc.length<sizeLine/\N (acc++[y]) σ2 S4 else N acc σ2 S3)
  (done:∀ acc σ S,Iv [] acc σ S->grd S/\Q acc S):cU grd g tt te Q items acc σ S:=by
 induction items generalizing acc σ S with
 |nil=>exact done acc σ S h0
 |cons t ts ih=>exact step t ts acc σ S _ h0 λacc' σ' S' iv=>ih iv
theorem eM {α:Type}{grd:Sto->Prop}{g:WG}{tt:WT}{te:WE}{Q:List T->Sto->Prop}(f:α->T) (φ:α->Option T) (cs:StT){ls:List α}{S:Sto}(hg:grd S) (hz:ls.length<=sizeLine)
  (step:∀ a∈ls,∀ (u:Option T) (acc:List T) (N:List T->StT->Sto->Prop),acc.length<sizeLine->(∀ u',N (acc++(φ a).toList) (u'::cs) S) ->
   g (f a) (u::cs) S λσ2 S2=>tt σ2 S2 λb S3=>if b=true then te σ2 S3 λy S4=>acc.length<sizeLine/\N (acc++[y]) σ2 S4 else N acc σ2 S3)
  (done:Q (ls.filterMap φ) S):cU grd g tt te Q (ls.map f) [] (none::cs) S:=by
 refine jT (λitems acc σ' S'=>∃ pre suf u,ls=pre++suf/\items=suf.map f/\acc=pre.filterMap φ/\σ'=u::cs/\S'=S) ⟨[],ls,none,rfl,rfl,rfl,rfl,rfl⟩ ?_ ?_
 ·rintro t ts acc σ' S' N ⟨pre,suf,u,e,e2,rfl,rfl,rfl⟩ hN
  cases suf with
  |nil=>cases e2
  |cons a r =>
   simp only [List.map_cons,List.cons.injEq] at e2
   obtain ⟨rfl,rfl⟩:=e2
   refine ⟨hg,step a (by rw [e];simp) u _ N ?_ λu'=>hN _ _ _ ⟨pre++[a],r,u',by rw [e];simp,rfl,?_,rfl,rfl⟩⟩
   ·have h1:=List.length_filterMap_le φ pre
    have h2:=congrArg List.length e
    simp only [List.length_append,List.length_cons] at h2
    omega
   ·rw [List.filterMap_append];cases h:φ a<;>simp [h]
 ·rintro acc σ' S' ⟨pre,suf,u,e,e2,rfl,rfl,rfl⟩
  cases suf with
  |nil=>rw [List.append_nil] at e;subst e;exact ⟨hg,done⟩
  |cons a r=>cases e2
section
variable {σ:StT}{S S0:Sto}{D:EndsT}{Q:T->Sto->Prop}{B:Bool->Sto->Prop}{L:List T->Sto->Prop}{t x y z:T}{p:Addr}
theorem Dq {w u:WS}(h:w { D with nx:=u D } σ S):mq w u D σ S:=h
theorem A8 (h:D.nx σ S):r9 D σ S:=h
theorem Ba {w:WE}(h:w σ S λ_ S1=>D.nx σ S1):se w D σ S:=h
theorem Ds {w:WE}(h:w σ S D.rt):tG w D σ S:=h
theorem Du {t:WT}{w u:WS}(h:t σ S λb S1=>if b=true then w D σ S1 else u D σ S1):tH t w u D σ S:=h
theorem Dv {w:WE}{g:WG}(h:w σ S λt S1=>g t σ S1 D.nx):gU w g D σ S:=h
theorem Dx {i:Nat}{σ2:StT}{Q:StT->Sto->Prop}(e:σ.set i (some t)=σ2) (h:Q σ2 S):wgN i t σ S Q:=by subst e;exact h
theorem Ff {wo wi:WE}{g:GS}{Q:StT->Sto->Prop}(h:wo σ S λo S1=>wi σ S1 λi S2=>g o i t S2 λS3=>Q σ S3):wgS wo wi g t σ S Q:=h
theorem Fh {n:Nat}{g:WGs}{ts:List T}{Q:StT->Sto->Prop}(l:ts.length=n) (h:g ts σ S Q):si n g (.tup ts) σ S Q:=⟨ts,rfl,l,h⟩
theorem yO {g:WG}{h:WGs}{ts:List T}{Q:StT->Sto->Prop}(q:g t σ S λσ' S'=>h ts σ' S' Q):qo g h (t::ts) σ S Q:=⟨t,ts,rfl,q⟩
theorem Bb {Q:StT->Sto->Prop}(q:Q σ S):sf [] σ S Q:=⟨rfl,q⟩
theorem Dy {wi:WI}{g:WG}{wb:WS}(h:wi σ S λsrc S1=>c8 src.grd g wb D src.items σ S1):mC wi g wb D σ S:=h
theorem i_V {i:Nat}(e:σ[i]?=some (some t)) (h:Q t S):wV i σ S Q:=⟨t,e,h⟩
theorem i_C (h:Q t S):wC t σ S Q:=h
theorem i_2 {g:G2}{wa wb:WE}(h:wa σ S λx S1=>wb σ S1 λy S2=>g x y S2 Q):w2 g wa wb σ S Q:=h
theorem i_B {w:WE}(h:w σ S λx S1=>∃ k,x=.bl k/\B k S1):wB w σ S B:=h
theorem Fi {k:Bool}{C:Bool->Prop}(h:C k):∃ k',T.bl k=.bl k'/\C k':=⟨k,rfl,h⟩
theorem yP {g g':G2}{wa wb wc:WE}(h:wa σ S λx S1=>wb σ S1 λy S2=>g x y S2 λz S3=>∃ k,z=.bl k/\if k=true then wc σ S3 λu S4=>g' y u S4 Q else Q (.bl false) S3):iW g g' wa wb wc σ S Q:=h
theorem Dz {t u:WT}(h:t σ S λc S1=>if c=true then u σ S1 B else B false S1):tw t u σ S B:=h
theorem Fj {t u:WT}(h:t σ S λc S1=>if c=true then B true S1 else u σ S1 B):wOr t u σ S B:=h
theorem DA {t:WT}(h:t σ S λc S1=>B (!c) S1):tD t σ S B:=h
theorem Bc (h:B true S):sk σ S B:=h
theorem Be {wa wb:WE}(h:wa σ S λx S1=>∃ k,x=.bl k/\if k=true then wb σ S1 Q else Q (.bl false) S1):rT wa wb σ S Q:=h
theorem DB (h:L [] S):cJ σ S L:=h
theorem Bf {wa:WE}{wr:WA}(h:wa σ S λx S1=>wr σ S1 λxs S2=>L (x::xs) S2):rW wa wr σ S L:=h
theorem DC {wr:WA}(h:wr σ S λts S1=>ts.length<=sizeLine/\Q (.tup ts) S1):tE wr σ S Q:=h
theorem DD {wr:WA}(h:wr σ S λts S1=>ts.length<=sizeLine/\Q (.lst ts) S1):tF wr σ S Q:=h
theorem Bg {wr:WA}(h:wr σ S λts S1=>ts.length<=sizeLine/\∀ p,S1 p=none->Q (.ref p) (put S1 p (.lst ts))):rZ wr σ S Q:=h
theorem Bi {w:WSp}{dts:List T}{wr:WA}(h:wr σ S λts S1=>w (ts++dts) S1 Q):gH w dts wr σ S Q:=h
theorem Fk {g:GC}{wr:WA}(h:wr σ S λts S1=>g ts S1 Q):wCB g wr σ S Q:=h
theorem Fl {ty:String}{g:GM}{wa:WE}{wr:WA}(h:wa σ S λx S1=>tyM ty S1 x/\wr σ S1 λts S2=>g x ts S2 Q):wBM ty g wa wr σ S Q:=h
theorem DE {wa:WE}(h:wa σ S λx S1=>match x with|.int i=>Q (.int (-i)) S1|_=>False):tN wa σ S Q:=h
theorem Fm {tr:Bool}{wa:WE}{wl wh:WO}(h:wa σ S λx S1=>wl σ S1 λl S2=>wh σ S2 λh S3=>gSl tr x l h S3 Q):wSl tr wa wl wh σ S Q:=h
theorem Fn {O':Option Int->Sto->Prop}(h:O' none S):woN σ S O':=h
theorem Fo {wa:WE}{O':Option Int->Sto->Prop}(h:wa σ S λx S1=>match x with|.int i=>O' (some i) S1|_=>False):woS wa σ S O':=h
theorem Bj {tr:Bool}{wi:WI}{n:Nat}{caps:List Nat}{g:WG}{tt:WT}{te:WE}(h:wi σ S λsrc S1=>cU src.grd g tt te (λts S2=>aR tr ts S2 Q) src.items [] (eU n caps σ) S1):jf tr wi n caps g tt te σ S Q:=h
theorem Bk {ts:List T}(h:Q (.lst ts) S):aR false ts S Q:=h
variable {R:Src->Sto->Prop}
theorem Fp {wa:WE}(h:wa σ S λx S1=>∃ ts,aD S1 x=some ts/\R ⟨ts,fg x ts⟩ S1):wiL wa σ S R:=h
theorem DF {wa:WE}(h:wa σ S λx S1=>match x with|.int j=>-(2 ^ 62)<=j/\j<2 ^ 62/\R ⟨cE 0 j.toNat,λ_=>True⟩ S1|_=>False):tO wa σ S R:=h
theorem Fq {wa:WE}(h:wa σ S λx S1=>match x with|.str z=>R ⟨gp z,λ_=>True⟩ S1|_=>False):wiS wa σ S R:=h
variable {i j:Int}{a c:Str}{ts us:List T}
theorem DG (h:Q (.int (i - j)) S):fL (.int i) (.int j) S Q:=⟨trivial,h⟩
theorem DH (h0:0<j) (h1:j<18446744073709551616) (h:Q (.int (i / j)) S):tI (.int i) (.int j) S Q:=⟨⟨h0,h1⟩,h⟩
theorem DI (h0:0<j) (h:Q (.int (i % j)) S):tJ (.int i) (.int j) S Q:=⟨h0,h⟩
theorem DJ (h0:0<=j) (h:Q (.int (i / 2 ^ j.toNat)) S):tK (.int i) (.int j) S Q:=⟨h0,h⟩
theorem Bl {tr:Bool}(h:Q (.int (i+j)) S):jy tr (.int i) (.int j) S Q:=h
theorem Bm {tr:Bool}(h0:a.length+c.length<=sizeLine) (h:Q (.str (a++c)) S):jy tr (.str a) (.str c) S Q:=⟨h0,h⟩
theorem fh {tr:Bool}(e1:b9 S x=some ts) (e2:b9 S y=some us) (hz:ts.length+us.length<=sizeLine) (h:aR tr (ts++us) S Q):jy tr x y S Q:=by
 cases x<;>first|(cases e1;done)|exact ⟨ts,us,e1,e2,hz,h⟩
theorem Bn {tr:Bool}(h0:gQ i j) (h:Q (.int (i * j)) S):tL tr (.int i) (.int j) S Q:=⟨h0,h⟩
theorem DK {n:Bool}(h:Q (.bl (n ^^ decide (i=j))) S):gEq n (.int i) (.int j) S Q:=h
theorem DL (h:Q (.bl (decide (i<j))) S):gLt (.int i) (.int j) S Q:=h
theorem DM (h:Q (.bl (decide (i<=j))) S):gLe (.int i) (.int j) S Q:=h
theorem DN (h:Q (.bl (decide (j<i))) S):gGt (.int i) (.int j) S Q:=h
theorem DO (h:Q (.bl (!ltS c a)) S):gLe (.str a) (.str c) S Q:=h
theorem sy (e:atI ts i=some t) (h:Q t S):gIx (.tup ts) (.int i) S Q:=⟨t,e,h⟩
theorem DP (e:atI ts i=some t) (h:Q t S):gIx (.lst ts) (.int i) S Q:=⟨t,e,h⟩
theorem DQ (e:S p=some (.lst ts)) (e2:atI ts i=some t) (h:Q t S):gIx (.ref p) (.int i) S Q:=⟨t,(qv e).trans e2,h⟩
theorem DR {d:Nat}(hz:a.length<=sizeLine) (e:atI a.cps.toList i=some d) (h:Q (.str ⟨#[d]⟩) S):gIx (.str a) (.int i) S Q:=⟨_,by show (if _ then _ else _)=_;rw [if_pos hz,e];rfl,h⟩
theorem DS {tr:Bool}{lo hi:Option Int}(hz:a.length<=sizeLine) (h:Q (.str (Txt.slice a lo hi)) S):gSl tr (.str a) lo hi S Q:=⟨hz,h⟩
theorem sB {tr:Bool}{lo hi:Option Int}(h:aR tr (c6 ts lo hi) S Q):gSl tr (.lst ts) lo hi S Q:=⟨ts,rfl,h⟩
theorem DT {tr:Bool}{lo hi:Option Int}{ns:List Int}(h:aR tr (c6 (ns.map T.int) lo hi) S Q):gSl tr (.scr ns) lo hi S Q:=⟨_,rfl,h⟩
theorem DU {tr:Bool}{lo hi:Option Int}(e:S p=some (.lst ts)) (h:aR tr (c6 ts lo hi) S Q):gSl tr (.ref p) lo hi S Q:=⟨ts,cD e,h⟩
theorem iY {α:Type}{ls:List α}(h0:0<=i) (h1:i<ls.length):∃ z,atI ls i=some z/\z∈ls:=by
 have hj:i.toNat<ls.length:=by omega
 refine ⟨ls[i.toNat],?_,List.getElem_mem hj⟩
 have e:((i.toNat:Nat):Int)=i:=by omega
 have:=ym (xs:=ls) (j:=i.toNat) (v:=ls[i.toNat]) (by simp [hj])
 rw [e] at this
 exact this
theorem pL {α β:Type}{ls:List α}(f:α->β):atI (ls.map f) i=(atI ls i).map f:=by
 unfold atI
 rw [List.length_map]
 cases ixN ls.length i with
 |none=>rfl
 |some j=>simp [List.getElem?_map]
theorem fG (P:T->Prop) (h0:0<=i) (h1:i<ts.length) (hp:∀ t∈ts,P t) (h:∀ t,P t->Q t S):gIx (.lst ts) (.int i) S Q:=by
 obtain ⟨z,e,hz⟩:=iY h0 h1
 exact ⟨z,by simp only [AZ,e],h z (hp z hz)⟩
theorem DV {ns:List Int}(h0:0<=i) (h1:i<ns.length) (h:∀ z,z∈ns->atI ns i=some z->Q (.int z) S):gIx (.scr ns) (.int i) S Q:=by
 obtain ⟨z,e,hz⟩:=iY h0 h1
 exact ⟨.int z,by show atI (ns.map T.int) i=_;simp only [pL,e,Option.map_some],h z hz e⟩
theorem Bo {α:Type}{f:α->T}{ls:List α}(e:S p=some (.lst (ls.map f))) (h0:0<=i) (h1:i<ls.length) (h:∀ z,z∈ls->atI ls i=some z->Q (f z) S):gIx (.ref p) (.int i) S Q:=by
 obtain ⟨z,e',hz⟩:=iY h0 h1
 exact ⟨f z,by simp only [qv e,pL,e',Option.map_some],h z hz e'⟩
theorem yQ {Q:Sto->Prop}{k:Nat}(e0:i=k) (hk:k<ts.length) (e:ts.set k t=us) (h:Q (put S p (.lst us))):lV k (.ref p) (.int i) t (put S p (.lst ts)) Q:=⟨e0,ts,aK,hk,by rw [dD,e];exact h⟩
theorem Bp {Q:Sto->Prop}{k:Nat}(e1:S p=some (.lst ts)) (e0:i=k) (hk:k<ts.length) (e:ts.set k t=us) (h:Q (put S p (.lst us))):lV k (.ref p) (.int i) t S Q:=⟨e0,ts,e1,hk,by rw [e];exact h⟩
theorem DW {n:Bool}(f:bG x=true) (f2:ts.all bG=true) (h:Q (.bl (n ^^ ts.any λy=>eqF y x)) S):gIn n x (.lst ts) S Q:=.inr (.inr ⟨ts,rfl,f,f2,h⟩)
theorem DX {n:Bool}(e:S p=some (.lst ts)) (f:bG x=true) (f2:ts.all bG=true) (h:Q (.bl (n ^^ ts.any λy=>eqF y x)) S):gIn n x (.ref p) S Q:=.inr (.inr ⟨ts,cD e,f,f2,h⟩)
theorem Bq (hz:a.length<=sizeLine) (h:Q (.int a.length) S):gY [.str a] S Q:=⟨_,if_pos hz,h⟩
theorem yR (e:S p=some (.lst ts)):gX S (.ref p)=some (ts.length:Int):=by
 show (aD S (.ref p)).map (λts=>(ts.length:Int))=_
 rw [cD e];rfl
theorem yS:gX S (.lst ts)=some (ts.length:Int):=rfl
theorem yT {ns:List Int}:gX S (.scr ns)=some ((ns.map T.int).length:Int):=rfl
theorem Br {α:Type}{f:α->T}{ls:List α}(h:Q (.int ls.length) S):gY [.lst (ls.map f)] S Q:=⟨_,by rw [yS,List.length_map],h⟩
theorem Bs {ns:List Int}(h:Q (.int ns.length) S):gY [.scr ns] S Q:=⟨_,by rw [yT,List.length_map],h⟩
theorem jh {K:Fg}{n:String}{v:Value}{b:Bool}(e:tyT S x=some v) (k:PySem.W.kitOne K v (.type n)=some b) (h:Q (.bl b) S):tQ K [x,.ty n] S Q:=⟨v,b,e,k,h⟩
theorem qC {bs:List Bool}(e:dn ts=some bs) (h:Q (.bl (bs.all id)) S):tR [.lst ts] S Q:=⟨ts,bs,rfl,e,h⟩
theorem Bt {k:Bool}(h:Q (.int (if k then 1 else 0)) S):tS [.bl k] S Q:=h
theorem yU {tr:Bool}(e:S p=some (.lst ts)) (h:aR tr ts S Q):su tr [.ref p] S Q:=⟨ts,cD e,h⟩
theorem yV {tr:Bool}(h0:c.length≠0) (h1:a.length<=1000) (h:aR tr ((Txt.split a c).map T.str) S Q):qA tr (.str a) [.str c] S Q:=⟨h0,h1,h⟩
theorem pM {zs:List Str}(e:dh ts=some zs) (h0:JoinOk a zs=true) (h:Q (.str (Txt.join a zs)) S):lU (.str a) [.lst ts] S Q:=⟨ts,zs,rfl,e,h0,h⟩
theorem yW {zs:List Str}(e0:S p=some (.lst ts)) (e:dh ts=some zs) (h0:JoinOk a zs=true) (h:Q (.str (Txt.join a zs)) S):lU (.str a) [.ref p] S Q:=⟨ts,zs,cD e0,e,h0,h⟩
theorem yX (h0:a.length<=sizeLine) (h:Q (.str (Txt.stripChars a c)) S):qB (.str a) [.str c] S Q:=⟨h0,h⟩
theorem xf (h:Q (.bl (Txt.startswith a c)) S):pK (.str a) [.str c] S Q:=h
theorem oo (h0:ts.length<sizeLine) (h:Q .non (put S p (.lst (ts++[y])))):kF (.ref p) [y] (put S p (.lst ts)) Q:=⟨ts,aK,h0,by rw [dD];exact h⟩
theorem iF (e:S p=some (.lst ts)) (h0:ts.length<sizeLine) (h:Q .non (put S p (.lst (ts++[y])))):kF (.ref p) [y] S Q:=⟨ts,e,h0,h⟩
theorem DY {Q:Prop}(h:Q):tyM "str" S (.str a)/\Q:=⟨rfl,h⟩
theorem DZ {Q:Prop}(h:Q):tyM "list" S (.lst ts)/\Q:=⟨rfl,h⟩
theorem D0 {Q:Prop}(e:S p=some (.lst ts)) (h:Q):tyM "list" S (.ref p)/\Q:=⟨by delta tyM;dsimp only;rw [e],h⟩
theorem D6 {A:List T->Prop}(h:A ts):∃ us,aD S (.lst ts)=some us/\A us:=⟨ts,rfl,h⟩
theorem D7 {A:List T->Prop}(e:S p=some (.lst ts)) (h:A ts):∃ us,aD S (.ref p)=some us/\A us:=⟨ts,cD e,h⟩
theorem Fs {ts:List T}{n:Nat}{Q:Prop}(e:ts.length<=sizeLine) (h:Q):ts.length<=sizeLine/\Q:=⟨e,h⟩
theorem Bu (hz:a.length<=sizeLine) (h0:0<=i) (h1:i<a.length) (h:∀ d,d∈a.cps.toList->atI a.cps.toList i=some d->Q (.str ⟨#[d]⟩) S):gIx (.str a) (.int i) S Q:=by
 obtain ⟨d,e,hd⟩:=iY (ls:=a.cps.toList) h0 (by simpa [Str.length] using h1)
 exact DR hz e (h d hd e)
theorem yY {α:Type}{f:α->T}{ls:List α}(e:S p=some (.lst (ls.map f))) (h:Q (.int ls.length) S):gY [.ref p] S Q:=⟨_,by simp only [yR e,List.length_map],h⟩
theorem Le.put {o:O}(h:S p=Option.none):Le S (T2.put S p o):=λa u e=>by
 have:a≠p:=λz=>by rw [z,h] at e;cases e
 rw [aO this];exact e
theorem oP {a b:Addr}{x y:O}(h:a≠b):T2.put (T2.put S a x) b y=T2.put (T2.put S b y) a x:=by
 funext c
 unfold T2.put
 by_cases h1:c=b
 ·by_cases h2:c=a
  ·exact absurd (h2.symm.trans h1) h
  ·simp [h1,h2,Ne.symm h]
 ·by_cases h2:c=a
  ·simp [h1,h2,h]
  ·simp [h1,h2]
theorem Bv {a b:Addr}{x y z:O}(h:a≠b):T2.put (T2.put (T2.put S a x) b y) a z=T2.put (T2.put S a z) b y:=by
 rw [oP (S:=T2.put S a x) (a:=b) (b:=a) (Ne.symm h),dD]
theorem xg {a b:Addr}{o:O}(h:T2.put S a o b=Option.none):b≠a/\S b=Option.none:=by
 have ne:b≠a:=λz=>by rw [z,aK] at h;cases h
 exact ⟨ne,by rw [aO ne] at h;exact h⟩
theorem yZ (z:Str) (ws:List Str):((ws.map T.str).any λy=>eqF y (.str z))=decide (z∈ws):=by
 induction ws with
 |nil=>rfl
 |cons a l ih =>
  rw [List.map_cons,List.any_cons,ih,Bool.eq_iff_iff]
  simp only [Dl,Bool.or_eq_true,beq_iff_eq,decide_eq_true_eq,List.mem_cons]
  constructor
  ·rintro (h|h)
   ·exact .inl h.symm
   ·exact .inr h
  ·rintro (h|h)
   ·exact .inl h.symm
   ·exact .inr h
theorem vN (ws:List Str):(ws.map T.str).all bG=true:=by
 induction ws with
 |nil=>rfl
 |cons a l ih=>rw [List.map_cons,List.all_cons,ih];rfl
theorem qD {n:Bool}(h:Q (.bl (n ^^ !(Builtin.Str.occurrences c a 0 c.length 1).isEmpty)) S):gIn n (.str a) (.str c) S Q:=.inl ⟨_,_,rfl,rfl,h⟩
theorem Bw {n:Bool}{ws:List Str}{zz:Str}(e:S p=some (.lst (ws.map T.str))) (h:Q (.bl (n ^^ decide (zz∈ws))) S):gIn n (.str zz) (.ref p) S Q:=DX e rfl (vN ws) (by rw [yZ];exact h)
theorem Le.put2 {S1 S2:Sto}{o:O}(l:Le S1 S2):Le (T2.put S1 p o) (T2.put S2 p o):=λa u e=>by
 by_cases h:a=p
 ·subst h;rw [aK] at e ⊢;exact e
 ·rw [aO h] at e ⊢;exact l a u e
def bM {α:Type}(ls:List α) (lo hi:Option Int):List α:=(ls.drop (HT.sIx ls.length 0 lo)).take (HT.sIx ls.length ls.length hi - HT.sIx ls.length 0 lo)
theorem j3 {α:Type}{f:α->T}{ls:List α}{lo hi:Option Int}:c6 (ls.map f) lo hi=(bM ls lo hi).map f:=by
 unfold c6 bM
 rw [List.length_map,List.map_take,List.map_drop]
theorem y1 {α:Type}{ls:List α}{k:Int}(h:0<=k):bM ls none (some k)=ls.take k.toNat:=by
 unfold bM
 have e:((k.toNat:Nat):Int)=k:=by omega
 rw [<- e,HT.sIx_nat,HT.sIx_none,Int.toNat_natCast,List.drop_zero,Nat.sub_zero,Nat.min_comm,<- List.take_take]
 exact List.take_of_length_le (by rw [List.length_take];omega)
theorem D8 {tr:Bool}{α:Type}{f:α->T}{ls:List α}{lo hi:Option Int}(h:aR tr ((bM ls lo hi).map f) S Q):gSl tr (.lst (ls.map f)) lo hi S Q:=sB (by rw [j3];exact h)
theorem D9 {A:Prop}(h0:-(2 ^ 62)<=j) (h1:j<2 ^ 62) (h:A):-(2 ^ 62)<=j/\j<2 ^ 62/\A:=⟨h0,h1,h⟩
theorem ifT {A C:Prop}(h:A):if true=true then A else C:=by rw [if_pos rfl];exact h
theorem ifF {A C:Prop}(h:C):if false=true then A else C:=by rw [if_neg Bool.false_ne_true];exact h
theorem Ft {A C:Prop}(h:C):if (!true)=true then A else C:=ifF h
theorem Fu {A C:Prop}(h:A):if (!false)=true then A else C:=ifT h
theorem ifB {b:Bool}{A C:Prop}(h1:b=true->A) (h2:b=false->C):if b=true then A else C:=by
 cases b with
 |true=>exact ifT (h1 rfl)
 |false=>exact ifF (h2 rfl)
end
end T2
namespace S6
open PySem PyProof.Rows
def rk (ρ:Keyed->Nat) (xs:Array Keyed) (i:Nat):Nat:=((xs[i]?).map ρ).getD 0
theorem sC {ρ:Keyed->Nat}{xs ys:Array Keyed}{i j:Nat}(h:xs[i]?=ys[j]?):rk ρ xs i=rk ρ ys j:=by unfold rk;rw [h]
theorem Bx {ρ:Keyed->Nat}{xs:Array Keyed}{i j:Nat}(hj:j<=xs.size) (k:Nat) :
  rk ρ (mirror xs i j ((j - i) / 2)) k=rk ρ xs (if i<=k/\k<j then i+j - 1 - k else k):=by
 refine sC ?_
 rw [getElem?_mirror_all hj]
 split<;>rfl
theorem y3 {ρ:Keyed->Nat}{xs:Array Keyed}{n d:Nat}(hn:n<xs.size) (hd:d<=n) (k:Nat) :
  rk ρ (bubble xs n d) k=rk ρ xs (if k=n - d then n else if n - d<k/\k<=n then k - 1 else k):=by
 refine sC ?_
 rw [getElem?_bubble hn d hd]
 split
 ·rfl
 ·split<;>rfl
def Up (ρ:Keyed->Nat) (xs:Array Keyed) (n:Nat):Prop:=∀ i j,i<=j->j<n->rk ρ xs i<=rk ρ xs j
structure Ok (kd:SortKind) (a₀:Array Keyed) (st:SortSt):Prop where
 perm:(arrOf st).Perm a₀
 kind:kindOf st=kd
 well:failedOf st=none
 runs:pendingOf st=#[]
theorem Ok.sz {kd a₀ st}(o:Ok kd a₀ st):(arrOf st).size=a₀.size:=o.perm.size_eq
def Cm (prog:Program) (w:World) (A:Around) (s:Shared) (kd:SortKind) (a₀:Array Keyed) (ρ:Keyed->Nat):Prop :=
 ∀ x y,x∈a₀.toList->y∈a₀.toList->∀ (E:Value->Shared->Prop) (Q:Bool->Shared->Prop),Q (decide (ρ x<ρ y)) s->wpAny (model prog w) A (keyLt' kd x.1 y.1) Q E s
section
variable {prog:Program}{w:World}{A:Around}{E:Value->Shared->Prop}{s:Shared}{a₀:Array Keyed}{kd:SortKind}{ρ:Keyed->Nat}{st:SortSt}
def Lk (ρ:Keyed->Nat) (xs:Array Keyed) (m e:Nat):Prop:=e+1<=m/\∀ i,m - (e+1)<=i->i<m->rk ρ xs i=rk ρ xs (m - 1)
end
end S6
namespace S6
open PySem PyProof.Rows PySem.SeqAt
inductive Ky where
 |i (n:Int)|s (x:Str)|tt (v:Bool)|nil|cons (h t:Ky)
 deriving DecidableEq
namespace Ky
mutual
def dat:Ky->PyData
 |.i n=>.int n
 |.s x=>.str x
 |.tt v=>.bool v
 |.nil=>.tuple []
 |.cons h t=>.tuple (dat h::row t)
def row:Ky->List PyData
 |.cons h t=>dat h::row t
 |_=>[]
end
def shp:Ky->Ky->Bool
 |.i _,.i _=>true
 |.s _,.s _=>true
 |.tt _,.tt _=>true
 |.nil,.nil=>true
 |.cons h t,.cons h' t'=>shp h h'&&shp t t'
 |_,_=>false
def lt:Ky->Ky->Bool
 |.i a,.i b=>decide (a<b)
 |.s a,.s b=>decide (a.cps.toList<b.cps.toList)
 |.tt a,.tt b=>!a&&b
 |.cons h t,.cons h' t'=>if h=h' then lt t t' else lt h h'
 |_,_=>false
def ok:Ky->Bool
 |.tt _=>false
 |.cons h t=>ok h&&ok t&&isRow t
 |_=>true
where isRow:Ky->Bool
 |.nil=>true
 |.cons _ _=>true
 |_=>false
def dep:Ky->Nat
 |.nil=>1
 |.cons h t=>max (dep h+1) (dep t)
 |_=>0
theorem bK {h t h' t':Ky}:shp (.cons h t) (.cons h' t')=(shp h h'&&shp t t'):=rfl
theorem bN {a b:Int}:lt (.i a) (.i b)=decide (a<b):=rfl
theorem bO {a b:Str}:lt (.s a) (.s b)=decide (a.cps.toList<b.cps.toList):=rfl
theorem bP {a b:Bool}:lt (.tt a) (.tt b)=(!a&&b):=rfl
theorem bd {h t h' t':Ky}:lt (.cons h t) (.cons h' t')=if h=h' then lt t t' else lt h h':=rfl
theorem dX {h t:Ky}:ok (.cons h t)=(ok h&&ok t&&ok.isRow t):=rfl
theorem ji {h t:Ky}:dep (.cons h t)=max (dep h+1) (dep t):=rfl
theorem By {a b:Str}(h:a≠b):a.cps.toList≠b.cps.toList:=λe=>h (by
 cases a;cases b
 simp only [Str.mk.injEq] at h ⊢
 exact Array.toList_inj.mp e)
theorem tri:∀ {x y:Ky},shp x y=true->lt x y=true\/x=y\/lt y x=true
 |.i a,.i b,_=>by
  simp only [bN,bO,bP,bd,decide_eq_true_eq,Ky.i.injEq];omega
 |.s a,.s b,_=>by
  simp only [bN,bO,bP,bd,decide_eq_true_eq,Ky.s.injEq]
  by_cases e:a=b
  ·exact .inr (.inl e)
  ·by_cases l:a.cps.toList<b.cps.toList
   ·exact .inl l
   ·refine .inr (.inr ?_)
    rcases List.le_iff_lt_or_eq.mp (List.not_lt.mp l) with z|z
    ·exact z
    ·exact (By e z.symm).elim
 |.tt a,.tt b,_=>by cases a<;>cases b<;>simp [bN,bO,bP,bd]
 |.nil,.nil,_=>.inr (.inl rfl)
 |.cons h t,.cons h' t',e=>by
  simp only [bK,Bool.and_eq_true] at e
  by_cases q:h=h'
  ·subst q
   rcases tri e.2 with z|z|z
   ·exact .inl (by simp [bN,bO,bP,bd,z])
   ·exact .inr (.inl (by rw [z]))
   ·exact .inr (.inr (by simp [bN,bO,bP,bd,z]))
  ·rcases tri e.1 with z|z|z
   ·exact .inl (by simp [bN,bO,bP,bd,q,z])
   ·exact (q z).elim
   ·exact .inr (.inr (by simp [bN,bO,bP,bd,Ne.symm q,z]))
theorem irr:∀ x:Ky,lt x x=false
 |.i _=>by simp [bN,bO,bP,bd]
 |.s x=>by simp only [bN,bO,bP,bd,decide_eq_false_iff_not];exact List.lt_irrefl _
 |.tt v=>by cases v<;>rfl
 |.nil=>rfl
 |.cons h t=>by simp [bN,bO,bP,bd,irr t]
theorem trans:∀ {x y z:Ky},shp x y=true->shp y z=true->lt x y=true->lt y z=true->lt x z=true
 |.i a,.i b,.i c,_,_,p,q=>by simp only [bN,bO,bP,bd,decide_eq_true_eq] at *;omega
 |.s a,.s b,.s c,_,_,p,q=>by simp only [bN,bO,bP,bd,decide_eq_true_eq] at *;exact List.lt_trans p q
 |.tt a,.tt b,.tt c,_,_,p,q=>by cases a<;>cases b<;>cases c<;>simp [bN,bO,bP,bd] at *
 |.cons h t,.cons h' t',.cons h2 t2,e,f,p,q=>by
  simp only [bK,Bool.and_eq_true] at e f
  simp only [bN,bO,bP,bd] at p q ⊢
  by_cases a:h=h'
  ·subst a
   rw [if_pos rfl] at p
   by_cases b:h=h2
   ·subst b
    rw [if_pos rfl] at q ⊢
    exact trans e.2 f.2 p q
   ·rw [if_neg b] at q ⊢;exact q
  ·rw [if_neg a] at p
   by_cases b:h'=h2
   ·subst b
    rw [if_neg a];exact p
   ·rw [if_neg b] at q
    have:=trans e.1 f.1 p q
    rw [if_neg (λz=>by rw [z,irr] at this;cases this)]
    exact this
theorem Fv {x y:Ky}(h:shp x y=true) (p:lt x y=true):lt y x=false:=by
 cases q:lt y x with
 |false=>rfl
 |true =>
  have h':shp y x=true:=by
   have:∀ {a b:Ky},shp a b=true->shp b a=true:=by
    intro a
    induction a with
    |cons u v iu iv =>
     intro b e
     cases b with
     |cons=>simp only [bK,Bool.and_eq_true] at e ⊢;exact ⟨iu e.1,iv e.2⟩
     |_=>cases e
    |_=>intro b e;cases b<;>first|rfl|cases e
   exact this h
  have:=trans h h' p q
  rw [irr] at this;cases this
theorem xh:∀ {a b:Ky},shp a b=true->shp b a=true:=by
 intro a
 induction a with
 |cons u v iu iv =>
  intro b e
  cases b with
  |cons=>simp only [bK,Bool.and_eq_true] at e ⊢;exact ⟨iu e.1,iv e.2⟩
  |_=>cases e
 |_=>intro b e;cases b<;>first|rfl|cases e
theorem iP:∀ {x y:Ky},shp x y=true->ok x=true->PyData.eqv (dat x) (dat y)=decide (x=y)/\(ok.isRow x=true->PyData.eqvAll (row x) (row y)=decide (x=y))
 |.i a,.i b,_,_=>⟨by simp only [dat,PyData.eqv,Ky.i.injEq];rfl,λh=>by cases h⟩
 |.s a,.s b,_,_=>⟨by simp only [dat,PyData.eqv,Ky.s.injEq];rfl,λh=>by cases h⟩
 |.tt a,.tt b,_,_=>⟨by cases a<;>cases b<;>rfl,λh=>by cases h⟩
 |.nil,.nil,_,_=>⟨rfl,λ_=>rfl⟩
 |.cons h t,.cons h' t',e,o=>by
  simp only [bK,Bool.and_eq_true] at e
  simp only [dX,Bool.and_eq_true] at o
  have h1:=(iP e.1 o.1.1).1
  have h2:=(iP e.2 o.1.2).2 o.2
  have z:PyData.eqvAll (dat h::row t) (dat h'::row t')=decide (Ky.cons h t=Ky.cons h' t'):=by
   simp only [PyData.eqvAll,h1,h2,Ky.cons.injEq,Bool.decide_and]
  exact ⟨by simp only [dat,PyData.eqv];exact z,λ_=>by simp only [row];exact z⟩
end Ky
end S6
namespace S6
open PySem PyProof.Rows PySem.SeqAt
theorem qE {α:Type}{p q:α->Bool}{x:α}:∀ {l:List α},(∀ z∈l,p z=true->q z=true)->x∈l->p x=false->q x=true->l.countP p<l.countP q
 |[],_,h,_,_=>by cases h
 |y::l,m,h,px,qx=>by
  have ml:∀ z∈l,p z=true->q z=true:=λz hz=>m z (List.mem_cons_of_mem _ hz)
  have le:=List.countP_mono_left ml
  rw [List.countP_cons,List.countP_cons]
  rcases List.mem_cons.mp h with rfl|h
  ·simp only [px,qx,Bool.false_eq_true,if_false,if_true];omega
  ·have ih:=qE ml h px qx
   have:(if p y=true then 1 else 0)<=if q y=true then 1 else 0:=by
    split
    ·rw [if_pos (m y (List.mem_cons_self ..) ‹_›)];exact Nat.le_refl _
    ·exact Nat.zero_le _
   omega
def rnk (ks:List Ky) (x:Ky):Nat:=ks.countP λz=>Ky.lt z x
theorem qF {ks:List Ky}(hs:∀ x∈ks,∀ y∈ks,Ky.shp x y=true){x y:Ky}(hx:x∈ks) (hy:y∈ks):decide (rnk ks x<rnk ks y)=Ky.lt x y:=by
 cases e:Ky.lt x y with
 |true=>exact decide_eq_true (qE (λz hz l=>Ky.trans (hs z hz x hx) (hs x hx y hy) l e) hx (Ky.irr x) e)
 |false =>
  refine decide_eq_false (Nat.not_lt.mpr (List.countP_mono_left λz hz l=>?_))
  rcases Ky.tri (hs x hx y hy) with q|q|q
  ·rw [e] at q;cases q
  ·rw [q];exact l
  ·exact Ky.trans (hs z hz y hy) (hs y hy x hx) l q
inductive Cp where
 |lt|gt|ge|le
def cop:Cp->CmpOp
 |.lt=>.Lt
 |.gt=>.Gt
 |.ge=>.GtE
 |.le=>.LtE
def gl (g:Cp) (x y:Ky):Bool:=match g with
 |.lt=>Ky.lt x y
 |.gt=>Ky.lt y x
 |.ge=>!Ky.lt x y
 |.le=>!Ky.lt y x
def jA:CmpOp->Bool
 |.GtE=>true
 |.LtE=>true
 |_=>false
def cV (A:Around) (s:Shared) (op:CmpOp) (x y:Value) (c:Bool):Prop :=
 ∀ (prog:Program) (w:World) (E:Value->Shared->Prop) (Q:Value->Shared->Prop),Q (.bool c) s->wpAny (model prog w) A (richCompare op x y) Q E s
inductive LexAt (A:Around) (s:Shared) (op:CmpOp):List Value->List Value->Bool->Prop
 |nil:LexAt A s op [] [] (jA op)
 |same {x y xs ys c}:EqAt A s x y true->LexAt A s op xs ys c->LexAt A s op (x::xs) (y::ys) c
 |diff {x y xs ys c}:EqAt A s x y false->cV A s op x y c->LexAt A s op (x::xs) (y::ys) c
def eV (op:CmpOp) (us vs:List Value) (n m:Nat):Sem Fin:=do
 for (x,y) in us.zip vs do
  if !(<- eqBool x y) then
   rule "tuple.compare.by-the-first-pair-that-differs";return <- ret (<- richCompare op x y)
 ret (Builtin.Tuple.tupleCompareSizes op n m)
theorem vO (a b:Value):Builtin.«tuple.__lt__» ⟨[a,b],[]⟩=(do
  if !(<- isInstance b (.type "tuple")) then return <- ret .notImplemented
  let xs <- Builtin.Tuple.tupleItemsOf a
  let ys <- Builtin.Tuple.tupleItemsOf b
  eV .Lt xs.toList ys.toList xs.size ys.size):=rfl
theorem vP (a b:Value):Builtin.«tuple.__le__» ⟨[a,b],[]⟩=(do
  if !(<- isInstance b (.type "tuple")) then return <- ret .notImplemented
  let xs <- Builtin.Tuple.tupleItemsOf a
  let ys <- Builtin.Tuple.tupleItemsOf b
  eV .LtE xs.toList ys.toList xs.size ys.size):=rfl
theorem vQ (a b:Value):Builtin.«tuple.__ge__» ⟨[a,b],[]⟩=(do
  if !(<- isInstance b (.type "tuple")) then return <- ret .notImplemented
  let xs <- Builtin.Tuple.tupleItemsOf a
  let ys <- Builtin.Tuple.tupleItemsOf b
  eV .GtE xs.toList ys.toList xs.size ys.size):=rfl
theorem vR (a b:Value):Builtin.«tuple.__gt__» ⟨[a,b],[]⟩=(do
  if !(<- isInstance b (.type "tuple")) then return <- ret .notImplemented
  let xs <- Builtin.Tuple.tupleItemsOf a
  let ys <- Builtin.Tuple.tupleItemsOf b
  eV .Gt xs.toList ys.toList xs.size ys.size):=rfl
section
variable {A:Around}{s:Shared}
theorem iZ {g:Cp}{prog:Program}{w:World}{E:Value->Shared->Prop}{P:Fin->Shared->Prop}{us vs:List Value}{c:Bool}(L:LexAt A s (cop g) us vs c){n m:Nat}(hnm:n=m)
  (h:P (.done (.ret (.bool c))) s):wpAny (model prog w) A (eV (cop g) us vs n m) P E s:=by
 unfold eV
 refine wpAny_bind ?_
 refine wpAny_forIn_list _ (λrest r z=>r.1=none/\z=s/\∃ us' vs',rest=us'.zip vs'/\LexAt A s (cop g) us' vs' c) _ ?_ ?_ _ _ ⟨rfl,rfl,us,vs,rfl,L⟩
 ·rintro ⟨x,y⟩ rest r z ⟨hr,rfl,us',vs',hz,L'⟩
  cases L' with
  |nil=>simp at hz
  |same e L2 =>
   simp only [List.zip_cons_cons,List.cons.injEq,Prod.mk.injEq] at hz
   obtain ⟨⟨rfl,rfl⟩,rfl⟩:=hz
   refine wpAny_bind (e prog w _ _ ?_)
   exact wpAny_pure ⟨rfl,rfl,_,_,rfl,L2⟩
  |diff e cm =>
   simp only [List.zip_cons_cons,List.cons.injEq,Prod.mk.injEq] at hz
   obtain ⟨⟨rfl,rfl⟩,rfl⟩:=hz
   refine wpAny_bind (e prog w _ _ ?_)
   refine wpAny_bind (wpAny_rule (wpAny_bind (cm prog w _ _ ?_)))
   exact wpAny_bind (wpAny_pure (wpAny_pure (wpAny_pure h)))
 ·rintro ⟨r1,r2⟩ z ⟨hr,rfl,us',vs',hz,L'⟩
  simp only at hr
  subst hr
  have hc:c=jA (cop g):=by
   cases L' with
   |nil=>rfl
   |same _ _=>simp at hz
   |diff _ _=>simp at hz
  subst hc hnm
  have e:Builtin.Tuple.tupleCompareSizes (cop g) n n=.bool (jA (cop g)):=by cases g<;>simp [cop,jA,Builtin.Tuple.tupleCompareSizes]
  show wpAny _ _ (ret (Builtin.Tuple.tupleCompareSizes (cop g) n n)) P E _
  rw [e]
  exact wpAny_pure h
theorem uV {g:Cp}{l m:Addr}{o u:Obj}{xs ys:Array Value}{n k:Nat}{c:Bool}(h1:s.heap.get? l=some o) (c1:o.cls=.type "tuple") (d1:o.data=.seq xs n)
  (h2:s.heap.get? m=some u) (c2:u.cls=.type "tuple") (d2:u.data=.seq ys k) (hu:A.units<cLine) (L:LexAt A.in1 s (cop g) xs.toList ys.toList c) (hs:xs.size=ys.size):cV A s (cop g) (.ref l) (.ref m) c:=by
 intro prog w E Q q
 have t1:s.TypeIs (.ref l) "tuple":=⟨o,h1,c1⟩
 have t2:s.TypeIs (.ref m) "tuple":=⟨u,h2,c2⟩
 cases g with
 |lt =>
  refine wpAny_richCompare_same_room (op:=.Lt) t1 t2 F.slot_tuple_lt (wpAny_call_entry F.slot_tuple_lt t1 F.entry_tuple_lt ?_ (F.args_tuple_lt_2 _ _)) hu
  rw [vO]
  refine wpAny_bind (wpAny_isInstance t2 isSubtype_tuple_tuple ?_)
  simp only [Bool.not_true,Bool.false_eq_true,if_false]
  refine wpAny_bind (wpAny_tupleItemsOf h1 d1 (wpAny_bind (wpAny_tupleItemsOf h2 d2 ?_)))
  exact iZ (g:=.lt) L hs ⟨_,rfl,by simp,q⟩
 |gt =>
  refine wpAny_richCompare_same_room (op:=.Gt) t1 t2 F.slot_tuple_gt (wpAny_call_entry F.slot_tuple_gt t1 F.entry_tuple_gt ?_ (F.args_tuple_gt_2 _ _)) hu
  rw [vR]
  refine wpAny_bind (wpAny_isInstance t2 isSubtype_tuple_tuple ?_)
  simp only [Bool.not_true,Bool.false_eq_true,if_false]
  refine wpAny_bind (wpAny_tupleItemsOf h1 d1 (wpAny_bind (wpAny_tupleItemsOf h2 d2 ?_)))
  exact iZ (g:=.gt) L hs ⟨_,rfl,by simp,q⟩
 |ge =>
  refine wpAny_richCompare_same_room (op:=.GtE) t1 t2 F.slot_tuple_ge (wpAny_call_entry F.slot_tuple_ge t1 F.entry_tuple_ge ?_ (F.args_tuple_ge_2 _ _)) hu
  rw [vQ]
  refine wpAny_bind (wpAny_isInstance t2 isSubtype_tuple_tuple ?_)
  simp only [Bool.not_true,Bool.false_eq_true,if_false]
  refine wpAny_bind (wpAny_tupleItemsOf h1 d1 (wpAny_bind (wpAny_tupleItemsOf h2 d2 ?_)))
  exact iZ (g:=.ge) L hs ⟨_,rfl,by simp,q⟩
 |le =>
  refine wpAny_richCompare_same_room (op:=.LtE) t1 t2 F.slot_tuple_le (wpAny_call_entry F.slot_tuple_le t1 F.entry_tuple_le ?_ (F.args_tuple_le_2 _ _)) hu
  rw [vP]
  refine wpAny_bind (wpAny_isInstance t2 isSubtype_tuple_tuple ?_)
  simp only [Bool.not_true,Bool.false_eq_true,if_false]
  refine wpAny_bind (wpAny_tupleItemsOf h1 d1 (wpAny_bind (wpAny_tupleItemsOf h2 d2 ?_)))
  exact iZ (g:=.le) L hs ⟨_,rfl,by simp,q⟩
theorem xi {g:Cp}(a b:Int) (t u:Tok):cV A s (cop g) (.int a t) (.int b u) (gl g (.i a) (.i b)):=by
 intro prog w E Q q
 cases g with
 |lt=>exact lt_int (A:=A) q
 |gt=>exact gt_int (A:=A) q
 |ge =>
  have e:gl .ge (.i a) (.i b)=decide (b<=a):=by
   show (!decide (a<b))=_
   rw [Bool.eq_iff_iff]
   simp only [Bool.not_eq_true',decide_eq_false_iff_not,decide_eq_true_eq,Int.not_lt]
  rw [e] at q
  exact PySem.P.ge_int (A:=A) q
 |le =>
  have e:gl .le (.i a) (.i b)=decide (a<=b):=by
   show (!decide (b<a))=_
   rw [Bool.eq_iff_iff]
   simp only [Bool.not_eq_true',decide_eq_false_iff_not,decide_eq_true_eq,Int.not_lt]
  rw [e] at q
  exact PySem.P.le_int (A:=A) q
theorem xj {g:Cp}(a b:Str) (t u:Tok):cV A s (cop g) (.str a t) (.str b u) (gl g (.s a) (.s b)):=by
 intro prog w E Q q
 cases g with
 |lt=>exact lt_str (A:=A) q
 |gt=>exact PySem.P.gt_str (A:=A) q
 |ge=>exact PySem.P.ge_str (A:=A) q
 |le=>exact PySem.P.le_str (A:=A) q
theorem y4 {g:Cp}{h t h' t':Ky}:gl g (.cons h t) (.cons h' t')=if h=h' then gl g t t' else gl g h h':=by
 cases g with
 |lt=>show Ky.lt _ _=if h=h' then Ky.lt t t' else Ky.lt h h';rw [Ky.bd]
 |gt =>
  show Ky.lt _ _=if h=h' then Ky.lt t' t else Ky.lt h' h
  rw [Ky.bd]
  by_cases e:h=h'
  ·rw [if_pos e,if_pos e.symm]
  ·rw [if_neg e,if_neg (Ne.symm e)]
 |ge =>
  show (!Ky.lt _ _)=if h=h' then !Ky.lt t t' else !Ky.lt h h'
  rw [Ky.bd]
  by_cases e:h=h'
  ·rw [if_pos e,if_pos e]
  ·rw [if_neg e,if_neg e]
 |le =>
  show (!Ky.lt _ _)=if h=h' then !Ky.lt t' t else !Ky.lt h' h
  rw [Ky.bd]
  by_cases e:h=h'
  ·rw [if_pos e,if_pos e.symm]
  ·rw [if_neg e,if_neg (Ne.symm e)]
end
theorem bZ {h:Heap}{a:Value}{n:Int}{as:List Addr}(r:Reads h a (.int n) as):∃ t,a=.int n t:=by cases r;exact ⟨_,rfl⟩
theorem b0 {h:Heap}{a:Value}{n:Str}{as:List Addr}(r:Reads h a (.str n) as):∃ t,a=.str n t:=by cases r;exact ⟨_,rfl⟩
theorem bn {h:Heap}{a:Value}{ds:List PyData}{as:List Addr}(r:Reads h a (.tuple ds) as):∃ (l:Addr) (o:Obj) (vs:Array Value) (n:Nat),a=.ref l/\h.get? l=some o/\o.cls=.type "tuple" /\ o.data=.seq vs n/\ReadsAll h vs.toList ds as:=by
 cases r with
 |tuple a1 a2 a3 a4=>exact ⟨_,_,_,_,rfl,a1,a2,a3,a4⟩
theorem dq {h:Heap}{us:List Value}{d:PyData}{ds:List PyData}{as:List Addr}(r:ReadsAll h us (d::ds) as):∃ u vs a1 a2,us=u::vs/\Reads h u d a1/\ReadsAll h vs ds a2:=by
 cases r with
 |cons r1 r2=>exact ⟨_,_,_,_,rfl,r1,r2⟩
theorem oq:∀ {x y:Ky}{h:Heap},Ky.ok x=true->Ky.ok y=true->(∀ {a:Value}{as bs:List Addr},Reads h a x.dat as->Reads h a y.dat bs->x=y) /\
  (∀ {us:List Value}{as bs:List Addr},Ky.ok.isRow x=true->Ky.ok.isRow y=true->ReadsAll h us x.row as->ReadsAll h us y.row bs->x=y):=by
 intro x
 induction x with
 |i n =>
  intro y h _ oy
  refine ⟨fun {a as bs} r q=>?_,fun {us as bs} z=>by cases z⟩
  obtain ⟨t,rfl⟩:=bZ r
  cases y with
  |i m=>obtain ⟨_,e⟩:=bZ q;cases e;rfl
  |s m=>obtain ⟨_,e⟩:=b0 q;cases e
  |tt m=>cases oy
  |nil=>obtain ⟨_,_,_,_,e,_⟩:=bn q;cases e
  |cons u v=>obtain ⟨_,_,_,_,e,_⟩:=bn q;cases e
 |s n =>
  intro y h _ oy
  refine ⟨fun {a as bs} r q=>?_,fun {us as bs} z=>by cases z⟩
  obtain ⟨t,rfl⟩:=b0 r
  cases y with
  |i m=>obtain ⟨_,e⟩:=bZ q;cases e
  |s m=>obtain ⟨_,e⟩:=b0 q;cases e;rfl
  |tt m=>cases oy
  |nil=>obtain ⟨_,_,_,_,e,_⟩:=bn q;cases e
  |cons u v=>obtain ⟨_,_,_,_,e,_⟩:=bn q;cases e
 |tt n=>intro y h z;cases z
 |nil =>
  intro y h _ oy
  have go:∀ {us:List Value}{as bs:List Addr},Ky.ok.isRow y=true->ReadsAll h us [] as->ReadsAll h us y.row bs->Ky.nil=y:=fun {us as bs} z r q=>by
   cases r
   cases y with
   |nil=>rfl
   |cons u v=>simp only [Ky.row] at q;cases q
   |_=>cases z
  refine ⟨fun {a as bs} r q=>?_,fun {us as bs} _ z r q=>go z (by simpa only [Ky.row] using r) q⟩
  obtain ⟨l,o,vs,n,rfl,a1,a2,a3,a4⟩:=bn r
  cases y with
  |nil=>rfl
  |cons u v =>
   obtain ⟨l',o',vs',n',e,b1,b2,b3,b4⟩:=bn q
   cases e
   rw [a1] at b1;cases b1
   rw [a3] at b3;cases b3
   exact go rfl a4 b4
  |i n=>obtain ⟨_,e⟩:=bZ q;cases e
  |s n=>obtain ⟨_,e⟩:=b0 q;cases e
  |tt n=>cases oy
 |cons u v iu iv =>
  intro y h ox oy
  simp only [Ky.dX,Bool.and_eq_true] at ox
  have go:∀ {us:List Value}{as bs:List Addr},Ky.ok.isRow y=true->ReadsAll h us (u.dat::v.row) as->ReadsAll h us y.row bs->Ky.cons u v=y:=fun {us as bs} z r q=>by
   cases y with
   |nil=>simp only [Ky.row] at q;cases q;cases r
   |cons u' v' =>
    simp only [Ky.dX,Bool.and_eq_true] at oy
    simp only [Ky.row] at q
    obtain ⟨_,_,_,_,rfl,r1,r2⟩:=dq r
    obtain ⟨_,_,_,_,e,q1,q2⟩:=dq q
    cases e
    rw [(iu ox.1.1 oy.1.1).1 r1 q1,(iv ox.1.2 oy.1.2).2 ox.2 oy.2 r2 q2]
   |_=>cases z
  refine ⟨fun {a as bs} r q=>?_,fun {us as bs} _ z r q=>go z (by simpa only [Ky.row] using r) q⟩
  obtain ⟨l,o,vs,n,rfl,a1,a2,a3,a4⟩:=bn r
  have tup:∀ {ds:List PyData}{bs:List Addr},Reads h (.ref l) (.tuple ds) bs->ReadsAll h vs.toList ds bs:=fun {ds bs} q=>by
   obtain ⟨l',o',vs',n',e,b1,b2,b3,b4⟩:=bn q
   cases e
   rw [a1] at b1;cases b1
   rw [a3] at b3;cases b3
   exact b4
  cases y with
  |nil=>exact go rfl a4 (tup q)
  |cons u' v'=>exact go rfl a4 (tup q)
  |i n=>obtain ⟨_,e⟩:=bZ q;cases e
  |s n=>obtain ⟨_,e⟩:=b0 q;cases e
  |tt n=>cases oy
theorem y6:∀ (x:Ky),
  (∀ {y:Ky}{A:Around}{s:Shared}{a b:Value}{as bs:List Addr},Ky.shp x y=true->Ky.ok x=true->Ky.ok y=true->Reads s.heap a x.dat as->Reads s.heap b y.dat bs->A.units+x.dep<cLine->EqAt A s a b (decide (x=y))) /\
  (∀ {y:Ky}{A:Around}{s:Shared}{us vs:List Value}{as bs:List Addr},Ky.ok.isRow x=true->Ky.shp x y=true->Ky.ok x=true->Ky.ok y=true->ReadsAll s.heap us x.row as->ReadsAll s.heap vs y.row bs->A.units+x.dep<=cLine ->
   ∀ j (h1:j<us.length) (h2:j<vs.length),EqAt A s us[j] vs[j] (pairEq x.row y.row j)):=by
 have tup:∀ {x y:Ky}{A:Around}{s:Shared}{l m:Addr}{o u:Obj}{xs ys:Array Value}{n k:Nat}{as bs:List Addr},
   (∀ {y:Ky}{A:Around}{s:Shared}{us vs:List Value}{as bs:List Addr},Ky.ok.isRow x=true->Ky.shp x y=true->Ky.ok x=true->Ky.ok y=true->ReadsAll s.heap us x.row as->ReadsAll s.heap vs y.row bs->A.units+x.dep<=cLine ->
    ∀ j (h1:j<us.length) (h2:j<vs.length),EqAt A s us[j] vs[j] (pairEq x.row y.row j)) ->
   Ky.ok.isRow x=true->Ky.ok.isRow y=true->Ky.shp x y=true->Ky.ok x=true->Ky.ok y=true->s.heap.get? l=some o->o.cls=.type "tuple"->o.data=.seq xs n->ReadsAll s.heap xs.toList x.row as ->
   s.heap.get? m=some u->u.cls=.type "tuple"->u.data=.seq ys k->ReadsAll s.heap ys.toList y.row bs->A.units+x.dep<cLine->EqAt A s (.ref l) (.ref m) (decide (x=y)):=by
  intro x y A s l m o u xs ys n k as bs lp hr hr' hs ox oy a1 a2 a3 a4 b1 b2 b3 b4 hu
  by_cases hll:l=m
  ·subst hll
   rw [a1] at b1;cases b1
   rw [a3] at b3;cases b3
   rw [decide_eq_true ((oq ox oy).2 hr hr' a4 b4)]
   exact EqAt.same _
  ·have n1:xs.size=x.row.length:=by simpa using ReadsAll.length _ _ _ a4
   have n2:ys.size=y.row.length:=by simpa using ReadsAll.length _ _ _ b4
   rw [<- (Ky.iP hs ox).2 hr,<- eqvAll_eq,<- n1,<- n2]
   refine EqAt.of_refs hll (RcAt.tuples ⟨_,a1,a2,_,a3⟩ ⟨_,b1,b2,_,b3⟩ (by omega) λj j1 j2=>?_)
   have:=lp (A:=A.in1) hr hs ox oy a4 b4 (by show A.units+1+x.dep<=cLine;omega) j (by simpa using j1) (by simpa using j2)
   simpa using this
 intro x
 induction x with
 |i a =>
  refine ⟨fun {y A s a' b' as bs} hs ox oy ra rb hu=>?_,fun {y A s us vs as bs} h=>by cases h⟩
  cases y<;>first|cases hs|skip
  obtain ⟨t,rfl⟩:=bZ ra
  obtain ⟨u,rfl⟩:=bZ rb
  rename_i b
  rw [show decide (Ky.i a=Ky.i b)=(a==b) by rw [Bool.eq_iff_iff];simp]
  exact EqAt.int_int a t b u
 |s a =>
  refine ⟨fun {y A s a' b' as bs} hs ox oy ra rb hu=>?_,fun {y A s us vs as bs} h=>by cases h⟩
  cases y<;>first|cases hs|skip
  obtain ⟨t,rfl⟩:=b0 ra
  obtain ⟨u,rfl⟩:=b0 rb
  rename_i b
  rw [show decide (Ky.s a=Ky.s b)=(a==b) by rw [Bool.eq_iff_iff];simp]
  exact EqAt.str_str a t b u
 |tt a=>exact ⟨fun {y A s a' b' as bs} hs ox=>(by cases ox),fun {y A s us vs as bs} h=>by cases h⟩
 |nil =>
  have lp:∀ {y:Ky}{A:Around}{s:Shared}{us vs:List Value}{as bs:List Addr},Ky.ok.isRow .nil=true->Ky.shp .nil y=true->Ky.ok .nil=true->Ky.ok y=true->ReadsAll s.heap us Ky.nil.row as->ReadsAll s.heap vs y.row bs->A.units+Ky.nil.dep<=cLine ->
    ∀ j (h1:j<us.length) (h2:j<vs.length),EqAt A s us[j] vs[j] (pairEq Ky.nil.row y.row j):=by
   intro y A s us vs as bs _ hs _ _ ra rb _ j h1
   simp only [Ky.row] at ra
   cases ra
   exact absurd h1 (Nat.not_lt_zero _)
  refine ⟨fun {y A s a' b' as bs} hs ox oy ra rb hu=>?_,lp⟩
  cases y<;>first|cases hs|skip
  obtain ⟨_,_,_,_,rfl,a1,a2,a3,a4⟩:=bn ra
  obtain ⟨_,_,_,_,rfl,b1,b2,b3,b4⟩:=bn rb
  exact tup lp rfl rfl rfl rfl rfl a1 a2 a3 a4 b1 b2 b3 b4 hu
 |cons h t ih it =>
  have lp:∀ {y:Ky}{A:Around}{s:Shared}{us vs:List Value}{as bs:List Addr},Ky.ok.isRow (.cons h t)=true->Ky.shp (.cons h t) y=true->Ky.ok (.cons h t)=true->Ky.ok y=true->ReadsAll s.heap us (Ky.cons h t).row as->ReadsAll s.heap vs y.row bs->A.units+(Ky.cons h t).dep<=cLine ->
    ∀ j (h1:j<us.length) (h2:j<vs.length),EqAt A s us[j] vs[j] (pairEq (Ky.cons h t).row y.row j):=by
   intro y A s us vs as bs _ hs ox oy ra rb hu j h1 h2
   cases y with
   |cons h' t' =>
    simp only [Ky.bK,Bool.and_eq_true] at hs
    simp only [Ky.dX,Bool.and_eq_true] at ox oy
    simp only [Ky.ji] at hu
    simp only [Ky.row] at ra rb ⊢
    ·obtain ⟨_,_,_,_,rfl,r,rs⟩:=dq ra
     ·obtain ⟨_,_,_,_,rfl,r',rs'⟩:=dq rb
      cases j with
      |zero =>
       have:=ih.1 (A:=A) hs.1 ox.1.1 oy.1.1 r r' (by omega)
       rw [<- (Ky.iP hs.1 ox.1.1).1] at this
       exact this
      |succ j=>exact it.2 (A:=A) ox.2 hs.2 ox.1.2 oy.1.2 rs rs' (by omega) j (Nat.lt_of_succ_lt_succ h1) (Nat.lt_of_succ_lt_succ h2)
   |_=>cases hs
  refine ⟨fun {y A s a' b' as bs} hs ox oy ra rb hu=>?_,lp⟩
  cases y with
  |cons h' t' =>
   obtain ⟨_,_,_,_,rfl,a1,a2,a3,a4⟩:=bn ra
   obtain ⟨_,_,_,_,rfl,b1,b2,b3,b4⟩:=bn rb
   exact tup lp rfl rfl hs ox oy a1 a2 a3 a4 b1 b2 b3 b4 hu
  |_=>cases hs
theorem nv {x y:Ky}{A:Around}{s:Shared}{a b:Value}{as bs:List Addr}(h:Ky.shp x y=true) (ox:Ky.ok x=true) (oy:Ky.ok y=true) (ra:Reads s.heap a x.dat as) (rb:Reads s.heap b y.dat bs) (hu:A.units+x.dep<cLine) :
  EqAt A s a b (decide (x=y)):=(y6 x).1 h ox oy ra rb hu
theorem kH (g:Cp):∀ (x:Ky),
  (∀ {y:Ky}{A:Around}{s:Shared}{a b:Value}{as bs:List Addr},Ky.shp x y=true->Ky.ok x=true->Ky.ok y=true->Reads s.heap a x.dat as->Reads s.heap b y.dat bs->A.units+x.dep+1<cLine->cV A s (cop g) a b (gl g x y)) /\
  (∀ {y:Ky}{A:Around}{s:Shared}{us vs:List Value}{as bs:List Addr},Ky.ok.isRow x=true->Ky.shp x y=true->Ky.ok x=true->Ky.ok y=true->ReadsAll s.heap us x.row as->ReadsAll s.heap vs y.row bs->A.units+x.dep<cLine ->
   LexAt A s (cop g) us vs (gl g x y)/\us.length=vs.length):=by
 have tup:∀ {x y:Ky}{A:Around}{s:Shared}{l m:Addr}{o u:Obj}{xs ys:Array Value}{n k:Nat}{as bs:List Addr},
   (∀ {y:Ky}{A:Around}{s:Shared}{us vs:List Value}{as bs:List Addr},Ky.ok.isRow x=true->Ky.shp x y=true->Ky.ok x=true->Ky.ok y=true->ReadsAll s.heap us x.row as->ReadsAll s.heap vs y.row bs->A.units+x.dep<cLine->LexAt A s (cop g) us vs (gl g x y)/\us.length=vs.length) ->
   Ky.ok.isRow x=true->Ky.shp x y=true->Ky.ok x=true->Ky.ok y=true->s.heap.get? l=some o->o.cls=.type "tuple"->o.data=.seq xs n->ReadsAll s.heap xs.toList x.row as ->
   s.heap.get? m=some u->u.cls=.type "tuple"->u.data=.seq ys k->ReadsAll s.heap ys.toList y.row bs->A.units+x.dep+1<cLine->cV A s (cop g) (.ref l) (.ref m) (gl g x y):=by
  intro x y A s l m o u xs ys n k as bs lp hr hs ox oy a1 a2 a3 a4 b1 b2 b3 b4 hu
  obtain ⟨L,hl⟩:=lp (A:=A.in1) hr hs ox oy a4 b4 (by show A.units+1+x.dep<cLine;omega)
  exact uV a1 a2 a3 b1 b2 b3 (by omega) L (by simpa using hl)
 intro x
 induction x with
 |i a =>
  refine ⟨fun {y A s a' b' as bs} hs ox oy ra rb hu=>?_,fun {y A s us vs as bs} h=>by cases h⟩
  cases y<;>first|cases hs|skip
  obtain ⟨t,rfl⟩:=bZ ra
  obtain ⟨u,rfl⟩:=bZ rb
  exact xi _ _ _ _
 |s a =>
  refine ⟨fun {y A s a' b' as bs} hs ox oy ra rb hu=>?_,fun {y A s us vs as bs} h=>by cases h⟩
  cases y<;>first|cases hs|skip
  obtain ⟨t,rfl⟩:=b0 ra
  obtain ⟨u,rfl⟩:=b0 rb
  exact xj _ _ _ _
 |tt a=>exact ⟨fun {y A s a' b' as bs} hs ox=>(by cases ox),fun {y A s us vs as bs} h=>by cases h⟩
 |nil =>
  have lp:∀ {y:Ky}{A:Around}{s:Shared}{us vs:List Value}{as bs:List Addr},Ky.ok.isRow .nil=true->Ky.shp .nil y=true->Ky.ok .nil=true->Ky.ok y=true->ReadsAll s.heap us Ky.nil.row as->ReadsAll s.heap vs y.row bs->A.units+Ky.nil.dep<cLine ->
    LexAt A s (cop g) us vs (gl g .nil y)/\us.length=vs.length:=by
   intro y A s us vs as bs _ hs _ _ ra rb _
   cases y<;>first|cases hs|skip
   simp only [Ky.row] at ra rb
   cases ra;cases rb
   exact ⟨by cases g<;>exact .nil,rfl⟩
  refine ⟨fun {y A s a' b' as bs} hs ox oy ra rb hu=>?_,lp⟩
  cases y<;>first|cases hs|skip
  obtain ⟨_,_,_,_,rfl,a1,a2,a3,a4⟩:=bn ra
  obtain ⟨_,_,_,_,rfl,b1,b2,b3,b4⟩:=bn rb
  exact tup lp rfl rfl rfl rfl a1 a2 a3 a4 b1 b2 b3 b4 hu
 |cons h t ih it =>
  have lp:∀ {y:Ky}{A:Around}{s:Shared}{us vs:List Value}{as bs:List Addr},Ky.ok.isRow (.cons h t)=true->Ky.shp (.cons h t) y=true->Ky.ok (.cons h t)=true->Ky.ok y=true->ReadsAll s.heap us (Ky.cons h t).row as->ReadsAll s.heap vs y.row bs->A.units+(Ky.cons h t).dep<cLine ->
    LexAt A s (cop g) us vs (gl g (.cons h t) y)/\us.length=vs.length:=by
   intro y A s us vs as bs _ hs ox oy ra rb hu
   cases y with
   |cons h' t' =>
    simp only [Ky.bK,Bool.and_eq_true] at hs
    simp only [Ky.dX,Bool.and_eq_true] at ox oy
    simp only [Ky.ji] at hu
    simp only [Ky.row] at ra rb
    ·obtain ⟨_,_,_,_,rfl,r,rs⟩:=dq ra
     ·obtain ⟨_,_,_,_,rfl,r',rs'⟩:=dq rb
      have eq:=nv (A:=A) hs.1 ox.1.1 oy.1.1 r r' (by omega)
      rw [y4]
      by_cases e:h=h'
      ·rw [decide_eq_true e] at eq
       rw [if_pos e]
       obtain ⟨L,l⟩:=it.2 (A:=A) ox.2 hs.2 ox.1.2 oy.1.2 rs rs' (by omega)
       exact ⟨.same eq L,by simp [l]⟩
      ·rw [decide_eq_false e] at eq
       rw [if_neg e]
       refine ⟨.diff eq (ih.1 hs.1 ox.1.1 oy.1.1 r r' (by omega)),?_⟩
       have l1:=ReadsAll.length _ _ _ rs
       have l2:=ReadsAll.length _ _ _ rs'
       have rowlen:∀ {a b:Ky},Ky.shp a b=true->a.row.length=b.row.length:=by
        intro a
        induction a with
        |cons u v iu iv =>
         intro b e
         cases b with
         |cons u' v' =>
          simp only [Ky.bK,Bool.and_eq_true] at e
          simp only [Ky.row,List.length_cons,iv e.2]
         |_=>cases e
        |_=>intro b e;cases b<;>first|rfl|cases e
       simp [l1,l2,rowlen hs.2]
   |_=>cases hs
  refine ⟨fun {y A s a' b' as bs} hs ox oy ra rb hu=>?_,lp⟩
  cases y with
  |cons h' t' =>
   obtain ⟨_,_,_,_,rfl,a1,a2,a3,a4⟩:=bn ra
   obtain ⟨_,_,_,_,rfl,b1,b2,b3,b4⟩:=bn rb
   exact tup lp rfl hs ox oy a1 a2 a3 a4 b1 b2 b3 b4 hu
  |_=>cases hs
def KR (s:Shared) (v:Value) (k:Ky):Prop:=Ky.ok k=true/\∃ as,Reads s.heap v k.dat as
theorem KR.inj {s:Shared}{v:Value}{k k':Ky}(h:KR s v k) (h':KR s v k'):k=k':=by
 obtain ⟨o,as,r⟩:=h
 obtain ⟨o',as',r'⟩:=h'
 exact (oq o o').1 r r'
open Classical in
noncomputable def ce (s:Shared) (v:Value):Ky:=if h:∃ k,KR s v k then h.choose else .nil
theorem fS {s:Shared}{v:Value}{k:Ky}(h:KR s v k):ce s v=k:=by
 unfold ce
 have e:∃ k,KR s v k:=⟨k,h⟩
 rw [dif_pos e]
 exact e.choose_spec.inj h
def sD (A:Around) (s:Shared) (one:Bool) (x y:Value) (c:Bool):Prop :=
 ∀ (prog:Program) (w:World) (E:Value->Shared->Prop) (Q:Bool->Shared->Prop),Q c s->wpAny (model prog w) A (oneLt' one x y) Q E s
theorem cV.one {A:Around}{s:Shared}{x y:Value}{c:Bool}(h:cV A s .Lt x y c):sD A s false x y c:=λprog w E Q q=>by
 rw [oneLt'_eq]
 simp only [Bool.false_eq_true,if_false]
 exact wpAny_bind (h prog w _ _ (wpAny_truthy_bool q))
inductive LexO (A:Around) (s:Shared):Bool->List Value->List Value->Bool->Prop
 |nil {one}:LexO A s one [] [] false
 |same {one x y xs ys c}:EqAt A s x y true->LexO A s false xs ys c->LexO A s one (x::xs) (y::ys) c
 |diff {one x y xs ys c}:EqAt A s x y false->sD A s one x y c->LexO A s one (x::xs) (y::ys) c
theorem LexAt.o {A:Around}{s:Shared}{xs ys:List Value}{c:Bool}(h:LexAt A s .Lt xs ys c):LexO A s false xs ys c:=by
 induction h with
 |nil=>exact .nil
 |same e _ ih=>exact .same e ih
 |diff e c=>exact .diff e c.one
theorem uj (fb:Bool) (x y:Value):keyLt' (tuples' fb) x y=(do
  let xs <- Builtin.List.listItems x;let ys <- Builtin.List.listItems y
  for ((p,q),i) in (xs.toList.zip ys.toList).zipIdx do
   if !(<- eqBool p q) then return <- oneLt' (fb&&i==0) p q
  return xs.size<ys.size):=rfl
theorem y7 {A:Around}{s:Shared}{fb:Bool}{l m:Addr}{o u:Obj}{xs ys:Array Value}{n k:Nat}{c:Bool}(h1:s.heap.get? l=some o) (d1:o.data=.seq xs n) (h2:s.heap.get? m=some u) (d2:u.data=.seq ys k)
  (L:LexO A s fb xs.toList ys.toList c) (hs:xs.size=ys.size){prog:Program}{w:World}{E:Value->Shared->Prop}{Q:Bool->Shared->Prop}(q:Q c s):wpAny (model prog w) A (keyLt' (tuples' fb) (.ref l) (.ref m)) Q E s:=by
 rw [uj]
 refine wpAny_bind (listItems_at h1 d1 (wpAny_bind (listItems_at h2 d2 (wpAny_bind ?_))))
 refine wpAny_forIn_list _ (λrest r z=>r.1=none/\z=s/\∃ us' vs' i one,rest=(us'.zip vs').zipIdx i/\(fb&&i==0)=one/\LexO A s one us' vs' c) _ ?_ ?_ _ _ ⟨rfl,rfl,xs.toList,ys.toList,0,fb,rfl,by simp,L⟩
 ·rintro ⟨⟨x,y⟩,i'⟩ rest r z ⟨hr,rfl,us',vs',i,one,hz,ho,L'⟩
  cases L' with
  |nil=>simp at hz
  |same e L2 =>
   simp only [List.zip_cons_cons,List.zipIdx_cons,List.cons.injEq,Prod.mk.injEq] at hz
   obtain ⟨⟨⟨rfl,rfl⟩,rfl⟩,rfl⟩:=hz
   refine wpAny_bind (e prog w _ _ ?_)
   exact wpAny_pure ⟨rfl,rfl,_,_,_,false,rfl,by simp,L2⟩
  |diff e cm =>
   simp only [List.zip_cons_cons,List.zipIdx_cons,List.cons.injEq,Prod.mk.injEq] at hz
   obtain ⟨⟨⟨rfl,rfl⟩,rfl⟩,rfl⟩:=hz
   refine wpAny_bind (e prog w _ _ ?_)
   rw [<- ho] at cm
   exact wpAny_bind (cm prog w _ _ (wpAny_pure (wpAny_pure q)))
 ·rintro ⟨r1,r2⟩ z ⟨hr,rfl,us',vs',i,one,hz,ho,L'⟩
  simp only at hr
  subst hr
  have hc:c=false:=by
   cases L' with
   |nil=>rfl
   |same _ _=>simp at hz
   |diff _ _=>simp at hz
  subst hc
  refine wpAny_pure ?_
  rw [hs]
  simpa using q
def tyK:Ky->String
 |.i _=>"int"
 |.s _=>"str"
 |.tt _=>"bool"
 |_=>"tuple"
def du:Ky->SortKind
 |.cons h _=>tuples' (Value.type (tyK h) != Value.type "tuple")
 |_=>oneType'
def fit:Ky->Bool
 |.i _=>true
 |.s _=>true
 |.cons h _=>match h with|.i _|.s _|.cons _ _=>true|_=>false
 |_=>false
theorem D' {x y:Ky}{A:Around}{s:Shared}{a b:Value}(hx:KR s a x) (hy:KR s b y) (hs:Ky.shp x y=true) (hf:fit x=true) (hu:A.units+x.dep+1<cLine){prog:Program}{w:World}{E:Value->Shared->Prop}{Q:Bool->Shared->Prop}
  (q:Q (Ky.lt x y) s):wpAny (model prog w) A (keyLt' (du x) a b) Q E s:=by
 obtain ⟨ox,as,ra⟩:=hx
 obtain ⟨oy,bs,rb⟩:=hy
 cases x with
 |i n =>
  cases y<;>first|cases hs|skip
  obtain ⟨t,rfl⟩:=bZ ra
  obtain ⟨u,rfl⟩:=bZ rb
  exact oneLt_int q
 |s n =>
  cases y<;>first|cases hs|skip
  obtain ⟨t,rfl⟩:=b0 ra
  obtain ⟨u,rfl⟩:=b0 rb
  exact oneLt_str q
 |tt v=>cases hf
 |nil=>cases hf
 |cons h t =>
  cases y with
  |cons h' t' =>
   ·obtain ⟨_,_,_,_,rfl,a1,a2,a3,a4⟩:=bn ra
    ·obtain ⟨_,_,_,_,rfl,b1,b2,b3,b4⟩:=bn rb
     have L:=(kH .lt (.cons h t)).2 (A:=A) rfl hs ox oy a4 b4 (by omega)
     refine y7 a1 a3 b1 b3 ?_ (by simpa using L.2) q
     simp only [Ky.bK,Bool.and_eq_true] at hs
     simp only [Ky.dX,Bool.and_eq_true] at ox oy
     simp only [Ky.ji] at hu
     clear L
     generalize Array.toList _=us0 at a4 ⊢
     generalize Array.toList _=vs0 at b4 ⊢
     ·obtain ⟨_,_,_,_,rfl,r,rs⟩:=dq a4
      ·obtain ⟨_,_,_,_,rfl,r',rs'⟩:=dq b4
       have eq:=nv (A:=A) hs.1 ox.1.1 oy.1.1 r r' (by omega)
       have rest:=(kH .lt t).2 (A:=A) ox.2 hs.2 ox.1.2 oy.1.2 rs rs' (by omega)
       show LexO A s _ _ _ (Ky.lt (.cons h t) (.cons h' t'))
       simp only [Ky.bd]
       by_cases e:h=h'
       ·rw [decide_eq_true e] at eq
        rw [if_pos e]
        exact .same eq rest.1.o
       ·rw [decide_eq_false e] at eq
        rw [if_neg e]
        refine .diff eq ?_
        cases h with
        |i n =>
         cases h'<;>first|cases hs.1|skip
         obtain ⟨t,rfl⟩:=bZ r
         obtain ⟨u,rfl⟩:=bZ r'
         exact λprog w E Q q=>oneLt_int q
        |s n =>
         cases h'<;>first|cases hs.1|skip
         obtain ⟨t,rfl⟩:=b0 r
         obtain ⟨u,rfl⟩:=b0 r'
         exact λprog w E Q q=>oneLt_str q
        |tt v=>cases hf
        |nil=>cases hf
        |cons h2 t2=>exact cV.one ((kH .lt (.cons h2 t2)).1 (A:=A) hs.1 ox.1.1 oy.1.1 r r' (by omega))
  |_=>cases hs
end S6
namespace S6
open PySem PyProof.Rows PySem.SeqAt
theorem Ky.shp_trans:∀ {a b c:Ky},Ky.shp a b=true->Ky.shp b c=true->Ky.shp a c=true:=by
 intro a
 induction a with
 |cons u v iu iv =>
  intro b c e f
  cases b<;>first|cases e|skip
  cases c<;>first|cases f|skip
  simp only [Ky.bK,Bool.and_eq_true] at *
  exact ⟨iu e.1 f.1,iv e.2 f.2⟩
 |_ =>
     intro b c e f;cases b<;>first|cases e|skip
     all_goals (cases c<;>first|cases f|skip)
     all_goals rfl
theorem Ky.shp_dep:∀ {a b:Ky},Ky.shp a b=true->a.dep=b.dep:=by
 intro a
 induction a with
 |cons u v iu iv =>
  intro b e
  cases b<;>first|cases e|skip
  simp only [Ky.bK,Bool.and_eq_true] at e
  simp only [Ky.ji,iu e.1,iv e.2]
 |_=>intro b e;cases b<;>first|rfl|cases e
theorem qG {a b:Ky}(e:Ky.shp a b=true):tyK b=tyK a:=by
 cases a<;>cases b<;>first|rfl|cases e
theorem Bz {a b:Ky}(e:Ky.shp a b=true):du b=du a:=by
 cases a with
 |cons h t =>
  cases b with
  |cons h' t' =>
   simp only [Ky.bK,Bool.and_eq_true] at e
   simp only [du,qG e.1]
  |_=>cases e
 |_=>cases b<;>first|rfl|cases e
theorem y8 {a b:Ky}(e:Ky.shp a b=true) (hf:fit a=true):fit b=true:=by
 cases a with
 |cons h t =>
  cases b with
  |cons h' t' =>
   simp only [Ky.bK,Bool.and_eq_true] at e
   have e1:=e.1
   cases h<;>cases h'<;>first|rfl|(cases hf;done)|(cases e1;done)
  |_=>cases e
 |_=>cases b<;>first|rfl|(cases hf;done)|(cases e;done)
section
variable {M:Model}{A:Around}{E:Value->Shared->Prop}{s:Shared}
theorem iQ {α β:Type}{f:α->Sem β}{g:α->β}:∀ {l:List α}{Q:List β->Shared->Prop},(∀ v∈l,∀ Q':β->Shared->Prop,Q' (g v) s->wpAny M A (f v) Q' E s)->Q (l.map g) s->wpAny M A (l.mapM f) Q E s
 |[],Q,_,q=>by rw [List.mapM_nil];exact wpAny_pure q
 |v::l,Q,h,q=>by
  rw [List.mapM_cons]
  refine wpAny_bind (h v (List.mem_cons_self ..) _ (wpAny_bind (iQ (λu hu=>h u (List.mem_cons_of_mem _ hu)) (wpAny_pure ?_))))
  exact q
theorem KR.ty {v:Value}{k:Ky}(h:KR s v k):s.TypeIs v (tyK k):=by
 obtain ⟨_,as,r⟩:=h
 cases k<;>simp only [Ky.dat] at r<;>cases r
 ·exact typeIs_int s _ _
 ·exact typeIs_str s _ _
 ·exact PySem.typeIs_bool s _
 ·exact ⟨_,‹_›,‹_›⟩
 ·exact ⟨_,‹_›,‹_›⟩
theorem nN {l:List Value}{T:String}{Q:Option Value->Shared->Prop}(h0:l≠[]) (h:∀ u∈l,s.TypeIs u T) (q:Q (some (.type T)) s):wpAny M A (oneTypeOnly' l.toArray) Q E s:=by
 rw [oneTypeOnly'_eq,List.mapM_toArray,map_eq_pure_bind]
 refine wpAny_bind (wpAny_bind (iQ (g:=λ_=>Value.type T) (λu hu Q' q'=>wpAny_typeOf (h u hu) q') (wpAny_pure ?_)))
 cases l with
 |nil=>exact (h0 rfl).elim
 |cons v l =>
  have e0:(List.map (λ_:Value=>Value.type T) (v::l)).toArray[0]?=some (Value.type T):=by simp
  have ea:((List.map (λ_:Value=>Value.type T) (v::l)).toArray.all λx=>x==Value.type T)=true:=by
   simp only [List.all_toArray,List.all_map,List.all_eq_true]
   intro _ _
   show (Value.type T==Value.type T)=true
   exact beq_self_eq_true _
  rw [e0]
  simp only [ea,if_true]
  exact wpAny_pure q
theorem mK (v:Value):firstOfTuple' v=(do
  if (<- typeOf v) != .type "tuple" then return none
  return (<- Builtin.List.listItems v)[0]?):=rfl
def hd1 (s:Shared):Value->Option Value
 |.ref a=>match s.heap.get? a with
  |some o=>match o.data with
   |.seq xs _=>xs[0]?
   |_=>none
  |none=>none
 |_=>none
theorem uW {vs:List Value}{k0:Ky}{Q:SortKind->Shared->Prop}(h0:vs≠[]) (hf:fit k0=true) (hk:∀ v∈vs,∃ k,KR s v k/\Ky.shp k0 k=true) (q:Q (du k0) s):wpAny M A (keyKind' vs.toArray) Q E s:=by
 rw [keyKind'_eq,List.mapM_toArray,map_eq_pure_bind]
 have flat:∀ T:String,(Value.type T != Value.type "tuple")=true->(∀ v∈vs,s.TypeIs v T)->du k0=oneType'->wpAny M A (do
   let firsts <- vs.mapM firstOfTuple' >>= λx=>pure x.toArray
   if firsts.all (·.isSome) then
    rule "list.sort.keys-are-tuples"
    return tuples' ((<- oneTypeOnly' (firsts.filterMap id)).any (· != .type "tuple"))
   if (firsts[0]?.bind id).isSome then return general'
   return if (<- oneTypeOnly' vs.toArray).isSome then oneType' else general') Q E s:=by
  intro T hT ht hkd
  refine wpAny_bind (wpAny_bind (iQ (g:=λ_=>none) (λv hv Q' q'=>?_) (wpAny_pure ?_)))
  ·rw [mK]
   refine wpAny_bind (wpAny_typeOf (ht v hv) ?_)
   rw [if_pos hT]
   exact wpAny_pure q'
  ·cases vs with
   |nil=>exact (h0 rfl).elim
   |cons v l =>
    rw [if_neg (by simp),if_neg (by simp)]
    refine wpAny_bind (nN (by simp) ht ?_)
    rw [hkd] at q
    exact wpAny_pure q
 cases k0 with
 |tt v=>cases hf
 |nil=>cases hf
 |i n =>
  refine flat "int" (by decide) (λv hv=>?_) rfl
  obtain ⟨k,r,e⟩:=hk v hv
  cases k<;>first|exact r.ty|cases e
 |s n =>
  refine flat "str" (by decide) (λv hv=>?_) rfl
  obtain ⟨k,r,e⟩:=hk v hv
  cases k<;>first|exact r.ty|cases e
 |cons h t =>
  have each:∀ v∈vs,∃ a o xs n u,v=.ref a/\s.heap.get? a=some o/\o.cls=.type "tuple" /\ o.data=.seq xs n/\xs[0]?=some u/\s.TypeIs u (tyK h):=by
   intro v hv
   obtain ⟨k,⟨ok,as,r⟩,e⟩:=hk v hv
   cases k with
   |cons h' t' =>
    simp only [Ky.dat] at r
    cases r with
    |tuple a1 a2 a3 a4 =>
     rename_i xs n
     generalize hl:xs.toList=l at a4
     cases a4 with
     |cons r rs =>
      rename_i u us _ _
      simp only [Ky.dX,Bool.and_eq_true] at ok
      simp only [Ky.bK,Bool.and_eq_true] at e
      have ty:s.TypeIs u (tyK h'):=KR.ty ⟨ok.1.1,_,r⟩
      have et:tyK h'=tyK h:=qG e.1
      refine ⟨_,_,xs,_,u,rfl,a1,a2,a3,?_,et ▸ ty⟩
      rw [<- Array.getElem?_toList,hl];rfl
   |_=>cases e
  have gh:∀ v∈vs,∃ u,hd1 s v=some u/\s.TypeIs u (tyK h):=by
   intro v hv
   obtain ⟨a,o,xs,n,u,rfl,h1,_,h3,h4,h5⟩:=each v hv
   exact ⟨u,by simp only [hd1,h1,h3,h4],h5⟩
  refine wpAny_bind (wpAny_bind (iQ (g:=hd1 s) (λv hv Q' q'=>?_) (wpAny_pure ?_)))
  ·obtain ⟨a,o,xs,n,u,rfl,h1,h2,h3,h4,h5⟩:=each v hv
   rw [mK]
   refine wpAny_bind (wpAny_typeOf (T:="tuple") ⟨o,h1,h2⟩ ?_)
   rw [if_neg (by decide)]
   refine wpAny_bind (listItems_at h1 h3 (wpAny_pure ?_))
   simpa only [hd1,h1,h3] using q'
  ·have all:(List.map (hd1 s) vs).toArray.all (·.isSome)=true:=by
    simp only [List.all_toArray,List.all_map,List.all_eq_true]
    intro v hv
    obtain ⟨u,e,_⟩:=gh v hv
    show (hd1 s v).isSome=true
    rw [e];rfl
   rw [if_pos all]
   refine wpAny_bind (wpAny_rule ?_)
   have fm:(List.map (hd1 s) vs).toArray.filterMap id=((List.map (hd1 s) vs).filterMap id).toArray:=by simp
   rw [fm]
   refine wpAny_bind (nN (T:=tyK h) ?_ (λu hu=>?_) (wpAny_pure q))
   ·cases vs with
    |nil=>exact (h0 rfl).elim
    |cons v l =>
     obtain ⟨u,e,_⟩:=gh v (List.mem_cons_self ..)
     simp [e]
   ·rw [List.mem_filterMap] at hu
    obtain ⟨x,hx,ex⟩:=hu
    rw [List.mem_map] at hx
    obtain ⟨v,hv,rfl⟩:=hx
    obtain ⟨u',e,ht⟩:=gh v hv
    rw [show id (hd1 s v)=hd1 s v from rfl,e] at ex
    cases ex;exact ht
end
end S6
namespace T2
open PySem PySem.Spec PyProof.Rows L2 S6
mutual
def tre:Ky->T
 |.i n=>.int n
 |.s x=>.str x
 |.tt v=>.bl v
 |.nil=>.tup []
 |.cons h t=>.tup (tre h::hE t)
def hE:Ky->List T
 |.cons h t=>tre h::hE t
 |_=>[]
end
theorem j4:∀ k:Ky,cg (tre k)=some k.dat/\bv (hE k)=some k.row
 |.i n=>⟨rfl,rfl⟩
 |.s n=>⟨rfl,rfl⟩
 |.tt n=>⟨rfl,rfl⟩
 |.nil=>⟨rfl,rfl⟩
 |.cons h t=>by
  have h1:=(j4 h).1
  have h2:=(j4 t).2
  exact ⟨by show (bv (tre h::hE t)).map PyData.tuple=_;rw [kC h1 h2];rfl,kC h1 h2⟩
theorem sE {X:Cx}{K:Fg}{pins:List (Addr×Obj)}{σ:L2.St}{H:Hp}{S:Sto}{s:Shared}{k:Ky}{v:V}{u:Value}(hK:X.K=K) (I:Inv X pins σ H s) (r:Rp K H S (tre k) v) (rv:ak v u) (ok:Ky.ok k=true):KR s u k:=by
 subst hK
 exact ⟨ok,dB I (kD r (j4 k).1) rv⟩
theorem iG {α β:Type}(f:α->β){m n:List β}(h:m.Perm n):∀ {l:List α},n=l.map f->∃ l':List α,l'.Perm l/\m=l'.map f:=by
 induction h with
 |nil =>
  intro l e
  exact ⟨[],by rw [List.map_eq_nil_iff.mp e.symm],rfl⟩
 |cons x _ ih =>
  intro l e
  cases l with
  |nil=>cases e
  |cons a l =>
   simp only [List.map_cons,List.cons.injEq] at e
   obtain ⟨l',p,q⟩:=ih e.2
   exact ⟨a::l',p.cons a,by rw [List.map_cons,q,e.1]⟩
 |swap x y z =>
  intro l e
  cases l with
  |nil=>cases e
  |cons a l =>
   cases l with
   |nil=>simp at e
   |cons b l =>
    simp only [List.map_cons,List.cons.injEq] at e
    exact ⟨b::a::l,List.Perm.swap a b l,by rw [List.map_cons,List.map_cons,e.1,e.2.1,e.2.2]⟩
 |trans _ _ ih1 ih2 =>
  intro l e
  obtain ⟨l',p,q⟩:=ih2 e
  obtain ⟨l2,p2,q2⟩:=ih1 q
  exact ⟨l2,p2.trans p,q2⟩
structure Rec where
 t:T
 v:V
 u:Value
 ku:Value
section
variable {X:Cx}{K:Fg}{pins:List (Addr×Obj)}{σ:L2.St}{H H':Hp}{S:Sto}{s:Shared}
theorem kI:∀ {ts:List T}{vs:List V}{us ks:List Value},Rps K H S ts vs->ai vs us->ks.length=us.length->∃ R:List Rec,R.map (·.t)=ts/\R.map (·.v)=vs/\R.map (·.u)=us/\R.map (·.ku)=ks/\∀ r∈R,Rp K H S r.t r.v/\ak r.v r.u
 |_,_,_,[],.nil,.nil,_=>⟨[],rfl,rfl,rfl,rfl,λ_ h=>by cases h⟩
 |_,_,_,_::_,.nil,.nil,h=>by simp at h
 |_,_,_,[],.cons _ _,.cons _ _,h=>by simp at h
 |t::ts,v::vs,u::us,k::ks,.cons a b,.cons c d,h=>by
  obtain ⟨R,e1,e2,e3,e4,e5⟩:=kI b d (by simpa using h)
  refine ⟨⟨t,v,u,k⟩::R,by simp [e1],by simp [e2],by simp [e3],by simp [e4],λr hr=>?_⟩
  rcases List.mem_cons.mp hr with rfl|hr
  ·exact ⟨a,c⟩
  ·exact e5 r hr
theorem j5:∀ {R:List Rec},(∀ r∈R,Rp K H S r.t r.v/\ak r.v r.u)->Rps K H S (R.map (·.t)) (R.map (·.v))/\ai (R.map (·.v)) (R.map (·.u))
 |[],_=>⟨.nil,.nil⟩
 |r::R,h=>by
  obtain ⟨a,b⟩:=h r (List.mem_cons_self ..)
  obtain ⟨c,d⟩:=j5 λx hx=>h x (List.mem_cons_of_mem _ hx)
  exact ⟨.cons a c,.cons b d⟩
end
theorem uu (a f:Value):argsOk "sorted" ⟨[a],[(Str.ofString "key",f)]⟩:=by unfold argsOk;kernel_rfl
theorem ud (a f:Value):argsOk "list.sort" ⟨[a],[(Str.ofString "key",f)]⟩:=by unfold argsOk;kernel_rfl
theorem mR {prog:Program}{w:World}{A:Around}{E:Value->Shared->Prop}{s:Shared}{Ty:String}{name:Str}{id:String}{b:Builtin}{self:Value}{rest:List Value}{kw:List (Str×Value)}{Q:Value->Shared->Prop}(h:Slot Ty name id) (hT:s.TypeIs self Ty)
  (hb:entryFor table id=some b) (hc:wpAny (model prog w) A.in1 (b ⟨self::rest,kw⟩) (λfin s'=>∃ v,fin=.done (.ret v)/\Q v s') E s) (ha:argsOk id ⟨self::rest,kw⟩):wpAny (model prog w) A (call (.builtin id) (self::rest) kw) Q E s:=by
 refine wpAny_call (codeAny_call_builtin h.plain hb (h.check _ _ _ _ _ _ _ _ hT ha (wpAny_mono hc (λfin s' h'=>?_) λ_ _ h'=>h')))
 obtain ⟨v,rfl,hv⟩:=h';exact hv
theorem uH (a fa:Addr):Builtin.«list.sort» ⟨[.ref a],[(Str.ofString "key",.ref fa)]⟩=(do
  let items <- Builtin.List.listItems (.ref a)
  Builtin.List.listUpdate (.ref a) λ_=>#[]
  let before <- seqEpoch a
  let held <- newTuple items.toList
  let keyStore <- newList []
  holding [held,keyStore] do
   rule "list.sort.key"
   for x in items do
    match <- (call (.ref fa) [x]).attempt with
    |.ok k=>Builtin.List.listUpdate keyStore (·.push k)
    |.error e =>
     rule "list.sort.key-raised"
     let made <- Builtin.List.listItems keyStore
     Builtin.List.listUpdate keyStore λ_=>#[]
     letGo made.toList.reverse [e]
     Builtin.List.listUpdate (.ref a) λ_=>items;throw e
   let keys <- Builtin.List.listItems keyStore
   let kind <- if items.size<2 then pure general' else keyKind' keys
   let ((),s) <- (if items.size<2 then pure () else sortRuns').run (SortSt.mk' kind (keys.zip items) #[] 7 none)
   let sorted:=(arrOf s).map (·.2)
   Builtin.List.listUpdate keyStore λ_=>#[]
   letGo ((arrOf s).map (·.1)).toList (failedOf s).toList
   let touched:=(<- seqEpoch a) != before
   Builtin.List.listUpdate (.ref a) λ_=>sorted
   if let some e:=failedOf s then rule "list.sort.comparison-raised";throw e
   if touched then rule "list.sort.modified";raiseError "ValueError" "list modified during sort"
   ret .none):=by rfl
section
variable {X:Cx}{K:Fg}{pins:List (Addr×Obj)}{σ:L2.St}{H H':Hp}{S:Sto}{s:Shared}
theorem i3 {D:Addr}{φ:Heap->Prop}{ws:List V}{its its':List Value}{n:Nat}{f:Array Value->Array Value}(I:Inv X pins σ H s) (h:H D=some (.ext φ)) (e:s.heap.get? D=some (seqObj "list" its.toArray n)) (hf:f its.toArray=its'.toArray) (r:ai ws its') (hz:ws.length<=sizeLine) :
  Inv X pins σ (upd H D (a8 D ws)) { s with heap:=s.heap.update D (Obj.mapSeq f) }:=by
 obtain ⟨hh,g,d,t,os⟩:=s
 have e2:=get?_update_seq e f
 rw [hf] at e2
 refine I.write (t':=t) (h':=hh.update D (Obj.mapSeq f)) (x:=D) (e:=D) (by rw [h];trivial) (.inl rfl) (λb u hb q=>(Heap.get?_update_other _ _ (Ne.symm hb)).trans q) ⟨_,e2⟩ ⟨⟨hz,its',_,r,e2⟩,⟨_,e2⟩,λh1 h2 ⟨z',i',n',r',q'⟩ k=>⟨z',i',n',r',k _ q'⟩⟩
theorem sF {D:Addr}{zs:List V}(I:Inv X pins σ H s) (h:H D=some (a8 D zs)):zs.length<=sizeLine/\∃ its n,ai zs its/\s.heap.get? D=some (seqObj "list" its.toArray n):=by
 obtain ⟨⟨z,its,n,r,e⟩,_,_⟩:=I.hok D _ h
 exact ⟨z,its,n,r,e⟩
theorem qH {D:Addr}{zs:List V}{its:List Value}{n t':Nat}{h':Heap}(I:Inv X pins σ H s) (k:∀ b u,s.heap.get? b=some u->h'.get? b=some u) (hp:s.heap.objs.size<=D) (r:ai zs its) (hz:zs.length<=sizeLine)
  (e:h'.get? D=some (seqObj "list" its.toArray n)):Inv X pins σ (upd H D (a8 D zs)) { s with heap:=h',toks:=t' } :=
 I.laid k hp ⟨⟨hz,its,n,r,e⟩,⟨_,e⟩,λh1 h2 zz92 k=>by obtain ⟨z',i',n',r',q'⟩:=zz92;exact ⟨z',i',n',r',k _ q'⟩⟩
end
def ci (D:Addr) (o:Obj):HO:=.ext λh=>h.get? D=some o
theorem qI {X:Cx}{pins:List (Addr×Obj)}{σ:L2.St}{H:Hp}{s:Shared}{D:Addr}{o:Obj}{t':Nat}{h':Heap}(I:Inv X pins σ H s) (k:∀ b u,s.heap.get? b=some u->h'.get? b=some u) (hp:s.heap.objs.size<=D) (e:h'.get? D=some o):Inv X pins σ (upd H D (ci D o)) { s with heap:=h',toks:=t' } :=
 I.laid k hp ⟨e,⟨_,e⟩,λh1 h2 p k=>k _ p⟩
theorem sG {X:Cx}{pins:List (Addr×Obj)}{σ:L2.St}{H:Hp}{s:Shared}{D:Addr}{o:Obj}(I:Inv X pins σ H s) (h:H D=some (ci D o)):s.heap.get? D=some o:=(I.hok D _ h).1
def mD (tr:Bool) (xs:List T) (κ:T->Ky) (S:Sto) (Q:T->Sto->Prop):Prop:=∀ zs:List T,zs.Perm xs->zs.Pairwise (λa b=>Ky.lt (κ b) (κ a)=false)->aR tr zs S Q
def lCK (K:Fg) (g:List T->List T->Sto->(T->Sto->Prop)->Prop):List V->List V->Hp->VK->Prop:=λxs zs H Q=>∃ S ts us Qt,SRp K H S/\Rps K H S ts xs/\Rps K H S us zs/\g ts us S Qt/\Bh K H S Qt Q
def wSK (g:List T->List T->Sto->(T->Sto->Prop)->Prop) (wr:WA) (wk:WE):WE:=λσ S Q=>wr σ S λts S1=>wk σ S1 λy S2=>g ts [y] S2 Q
theorem BA {K:Fg}{g:List T->List T->Sto->(T->Sto->Prop)->Prop}{wr:WA}{wk:WE}{σ H Q}(h:lE K (wSK g wr wk) σ H Q):mm (lCK K g) (lA K wr) (i8 (lE K wk) cY) σ H Q:=by
 obtain ⟨S,σt,Qt,s,c,q,hq⟩:=h
 refine ⟨S,σt,_,s,c,q,λvs H1 ts S1 f1 s1 r1 q1=>?_⟩
 refine ⟨S1,σt,_,s1,c.fr f1,q1,λy H2 ty S2 f2 s2 r2 q2=>?_⟩
 exact ⟨S2,ts,[ty],Qt,s2,r1.fr f2,.cons r2 .nil,q2,λv H' t S' f=>hq v H' t S' ((f1.trans f2).trans f)⟩
theorem Fy {σ:StT}{S:Sto}{Q:T->Sto->Prop}{g:List T->List T->Sto->(T->Sto->Prop)->Prop}{wr:WA}{wk:WE}(h:wr σ S λts S1=>wk σ S1 λy S2=>g ts [y] S2 Q):wSK g wr wk σ S Q:=h
end T2
namespace Tm
open PySem PySem.Spec PyProof.Rows
abbrev tl (x:Str):List Nat:=x.cps.toList
theorem ext {x y:Str}(h:tl x=tl y):x=y:=by cases x;cases y;simp only [tl] at h;rw [Array.toList_inj.mp h]
theorem len (x:Str):(tl x).length=x.length:=by simp [tl,Str.length]
theorem i4 (x y:Str):tl (x++y)=tl x++tl y:=by show (x.cps++y.cps).toList=_;simp [tl]
theorem Ea (l:List Nat):tl ⟨l.toArray⟩=l:=by simp [tl]
def aT (g:List Nat):List (List Nat)->List Nat
 |[]=>[]
 |[p]=>p
 |p::q::r=>p++g++aT g (q::r)
theorem j6 (g:Str):∀ ps:List Str,tl (Str.join g ps)=aT (tl g) (ps.map tl)
 |[]=>rfl
 |[p]=>rfl
 |p::q::r=>by
  have ih:=j6 g (q::r)
  show tl ((p++g++Str.join g (q::r)):Str)=tl p++tl g++aT (tl g) ((q::r).map tl)
  rw [<- ih,i4,i4]
theorem kJ (g:Str) (ps:List Str):tl (Txt.join g ps)=aT (tl g) (ps.map tl):=by
 rw [show Txt.join g ps=Str.join g ps from StrLaws.glued_eq_join g ps,j6]
theorem lW:tl (" ":Str)=[32]:=by decide +kernel
theorem empty:tl ("":Str)=[]:=by decide +kernel
theorem nO (x:Str):aT [32] ((Txt.split x " ").map tl)=tl x:=by
 have:=j6 " " (Txt.split x " ")
 rw [StrLaws.join_split,lW] at this
 exact this.symm
theorem split_free (x:Str):∀ p∈(Txt.split x " ").map tl,32∉p:=λp hp=>by
 obtain ⟨q,hq,rfl⟩:=List.mem_map.mp hp
 exact StrLaws.split_free x 32 q hq
theorem xk (x:Str):(Txt.split x " ")≠[]:=λh=>by
 have:=split_pos x " "
 rw [h] at this;simp at this
theorem qJ (n d:Nat) (h:d<=n) (o:Option Int):HT.sIx n d o<=n:=by
 cases o with
 |none=>exact h
 |some v=>simp only [HT.sIx];split<;>omega
theorem xl (lo hi:Option Int) (n:Nat):Builtin.Str.strSliceIndices lo hi 1 n=(List.range (HT.sIx n n hi - HT.sIx n 0 lo)).map λk=>HT.sIx n 0 lo+k:=by
 have c:∀ i:Int,max 0 (min (if i<0 then i+(n:Int) else i) (n:Int))=(((if i<0 then (i+(n:Int)).toNat else min i.toNat n):Nat):Int):=λi=>by split<;>omega
 have key:Builtin.Str.strSliceIndices lo hi 1 n=sliceRange ((HT.sIx n 0 lo:Nat):Int) ((HT.sIx n n hi:Nat):Int) 1:=by
  unfold Builtin.Str.strSliceIndices
  cases lo with
  |none =>
   cases hi with
   |none=>rfl
   |some j=>simp only [show (1:Int)>0 by decide,if_true,c,HT.sIx];rfl
  |some i =>
   cases hi with
   |none=>simp only [show (1:Int)>0 by decide,if_true,c,HT.sIx]
   |some j=>simp only [show (1:Int)>0 by decide,if_true,c,HT.sIx]
 rw [key]
 unfold sliceRange
 simp only [show (1:Int)>0 by decide,if_true,Int.one_mul]
 have hc:(if ((HT.sIx n 0 lo:Nat):Int)<((HT.sIx n n hi:Nat):Int) then (((HT.sIx n n hi:Nat):Int) - ((HT.sIx n 0 lo:Nat):Int)+1 - 1) / 1 else 0).toNat=HT.sIx n n hi - HT.sIx n 0 lo:=by
  split
  ·rw [Int.ediv_one];omega
  ·simp;omega
 rw [hc]
 apply List.map_congr_left
 intro k _
 omega
theorem j7 (x:Str) (lo hi:Option Int):tl (Txt.slice x lo hi)=((tl x).drop (HT.sIx x.length 0 lo)).take (HT.sIx x.length x.length hi - HT.sIx x.length 0 lo):=by
 have hA:=qJ x.length 0 (Nat.zero_le _) lo
 have hB:=qJ x.length x.length (Nat.le_refl _) hi
 have hl:=len x
 unfold Txt.slice
 rw [xl]
 split
 ·next h =>
  simp only [beq_self_eq_true,Bool.true_and,List.length_map,List.length_range,beq_iff_eq] at h
  have h0:HT.sIx x.length 0 lo=0\/x.length=0:=by omega
  rcases h0 with h0|h0
  ·rw [h0,List.drop_zero,List.take_of_length_le (by omega)]
  ·have:tl x=[]:=List.length_eq_zero_iff.mp (by omega)
   rw [this];simp
 ·rw [Ea]
  have:=StrLaws.picks (tl x) (HT.sIx x.length x.length hi - HT.sIx x.length 0 lo) (HT.sIx x.length 0 lo)
  by_cases hle:HT.sIx x.length 0 lo<=HT.sIx x.length x.length hi
  ·rw [<- this (by rw [hl];omega)]
   simp [tl]
  ·rw [show HT.sIx x.length x.length hi - HT.sIx x.length 0 lo=0 by omega];simp
theorem fT (x:Str) (k:Nat):tl (Txt.slice x none (some k))=(tl x).take k:=by
 rw [j7,HT.sIx_none,HT.sIx_nat,List.drop_zero,Nat.sub_zero,<- len x,<- List.take_take,List.take_of_length_le (Nat.le_refl _)]
theorem BB (x y:Str):Txt.startswith x y=decide ((tl x).take (tl y).length=tl y):=by
 unfold Txt.startswith
 rw [StrLaws.subAt_eq,List.drop_zero,Nat.zero_add,len]
 by_cases h:y.length<=x.length
 ·simp only [h,decide_true,Bool.true_and]
  rw [Bool.eq_iff_iff];simp
 ·simp only [h,decide_false,Bool.false_and]
  symm
  rw [decide_eq_false_iff_not]
  intro e
  have:=congrArg List.length e
  rw [List.length_take,len,len] at this
  omega
theorem k8 {g:Str}{ps:List Str}{b:Nat}(h:∀ p∈ps,p.length<=b) (h2:ps.length * (b+g.length)<=10000):JoinOk g ps=true:=by
 have main:∀ (ps:List Str) (acc:Nat),(∀ p∈ps,p.length<=b)->ps.foldl (λa p=>a+p.length+g.length) acc<=acc+ps.length * (b+g.length):=by
  intro ps
  induction ps with
  |nil=>intro acc _;simp
  |cons p r ih =>
   intro acc h
   have:=ih (acc+p.length+g.length) λq hq=>h q (List.mem_cons_of_mem _ hq)
   have hp:=h p List.mem_cons_self
   simp only [List.foldl_cons,List.length_cons,Nat.add_mul,Nat.one_mul] at this ⊢
   omega
 have:=main ps 0 h
 unfold JoinOk Builtin.Str.tooLong
 rw [List.foldl_toArray]
 have hs:sizeLine=16777216:=sizeLine_eq
 simp only [Bool.not_eq_true',decide_eq_false_iff_not]
 omega
theorem j8 (zs:List Str):T2.dh (zs.map T2.T.str)=some zs:=by
 induction zs with
 |nil=>rfl
 |cons a l ih=>simp [T2.pH,ih]
theorem y9 (d:Nat):Str.length ⟨#[d]⟩=1:=rfl
theorem jU:Str.length (Str.ofString " ")=1:=by decide +kernel
theorem fP:Str.length (Str.ofString "")=0:=by decide +kernel
theorem kK (g:Str){b:Nat}:∀ zs:List Str,(∀ y∈zs,y.length<=b)->(Txt.join g zs).length<=zs.length * (b+g.length):=by
 intro zs h
 rw [<- len,kJ,<- len g]
 induction zs with
 |nil=>simp [aT]
 |cons y r ih =>
  have hy:=h y List.mem_cons_self
  rw [<- len] at hy
  have h3:=ih λq hq=>h q (List.mem_cons_of_mem _ hq)
  cases r with
  |nil=>simp only [List.map_cons,List.map_nil,aT,List.length_cons,List.length_nil];omega
  |cons y2 r2 =>
   simp only [List.map_cons,aT,List.length_append,List.length_cons,Nat.add_mul,Nat.one_mul] at h3 ⊢
   omega
theorem nw (x:Str){k:Int}(h:0<=k):(Txt.slice x none (some k)).length<=k.toNat:=by
 have e:((k.toNat:Nat):Int)=k:=by omega
 rw [<- len,<- e,fT,List.length_take];omega
theorem ou (g:List Nat):∀ (ps:List (List Nat)) (p:List Nat),p∈ps->p.length<=(aT g ps).length
 |[],_,h=>by cases h
 |[q],p,h=>by rw [List.mem_singleton.mp h];simp [aT]
 |q::q2::r,p,h=>by
  simp only [aT,List.length_append]
  rcases List.mem_cons.mp h with rfl|h
  ·omega
  ·have:=ou g (q2::r) p h
   omega
theorem ow {a x:Str}(h:x∈Txt.split a " "):x.length<=a.length:=by
 have:=ou [32] _ _ (List.mem_map_of_mem (f:=tl) h)
 rw [nO,len,len] at this
 exact this
theorem uv (x y:Str):Txt.startswith x y=decide (Txt.slice x none (some (y.length:Int))=y):=by
 rw [BB,len,Bool.eq_iff_iff]
 simp only [decide_eq_true_eq]
 constructor
 ·intro h;exact ext (by rw [fT];exact h)
 ·intro h;rw [<- fT,h]
end Tm
namespace T2
open PySem PySem.Spec PyProof.Rows L2
section
variable {K:Fg}{X:Cx}{k:Nat}{f:Addr}{fd:FuncData}{ps:List Str}{wsp:WSp}{x m:Str}{p pos apos cpos:Pos}{e o:Expr}{es:List Expr}{wa wb:WE}{wr:WA}{id ty:String}{g:GC}{gm:GM}{i:Nat}
theorem aa (i:Nat) (hN:X.N[i]?=some x:=by rfl) (hv:Vis X.env.scope x:=by first|exact Or.inl rfl|exact Or.inr (Or.inl rfl)|exact Or.inr (Or.inr rfl)) (hd:(x==("__debug__":Str))=false:=by decide)
  (hcd:(x==("__classdict__":Str))=false:=by decide):QE K X (.Name x pos) (wV i):=Dg (Ai hN hv hd hcd)
theorem jB {n:String}(hg:Gl X x) (hm:X.mg x=none) (hv:bootBuiltins x=some (.type n)) (hn:x ≠ "__name__":=by decide) (hd:(x==("__debug__":Str))=false:=by decide):QE K X (.Name x pos) (wC (.ty n)) :=
 kY (xZ (v:=.ty n) hg hm hv rfl hn hd) λ_ _=>.ty
theorem k9 {n:Int}(hg:Gl X x) (hm:∃ tk,X.mg x=some (.int n tk)) (hd:(x==("__debug__":Str))=false:=by decide):QE K X (.Name x pos) (wC (.int n)):=by
 obtain ⟨tk,hm⟩:=hm
 exact kY (pb (v:=.int n) hg hm ⟨tk,rfl⟩ hd) λ_ _=>.int
theorem ay (F:FnOk X.prog X.w X.K X.mg X.base CX0 k f fd ps (lSp K wsp)) (D:Df X.K X.mg x f fd ps) (hr:Room k X.A) (hg:Gl X x) (ha:QA K X (e::es) wr)
  (hdb:(x==("__debug__":Str))=false:=by decide) (he:starEach (e::es) X.env=(false,eval e X.env)::starEach es X.env:=by rfl) (hpl:(backTo pos (starEach es X.env)).any (·.1)=false:=by rfl) :
  QE K X (.Call (.Name x p) (e::es) [] pos) (gH wsp [] wr):=qq (dvs:=[]) (λ_ _=>.nil) (yi F hr hg D.hm D.kp D.b .nil fq ha hdb he hpl)
theorem aP (hc:bu X (.builtin id) (lC K g)) (hg:Gl X x) (hm:X.mg x=none) (hv:bootBuiltins x=some (.builtin id)) (ha:QA K X (e::es) wr) (hn:x ≠ "__name__":=by decide) (hdb:(x==("__debug__":Str))=false:=by decide)
  (he:starEach (e::es) X.env=(false,eval e X.env)::starEach es X.env:=by rfl) (hpl:(backTo pos (starEach es X.env)).any (·.1)=false:=by rfl):QE K X (.Call (.Name x p) (e::es) [] pos) (wCB g wr):=tP (wI hc hg hm hv ha hn hdb he hpl)
theorem sH (hc:bu X (.type id) (lC K g)) (hg:Gl X x) (hm:X.mg x=none) (hv:bootBuiltins x=some (.type id)) (ha:QA K X (e::es) wr) (hn:x ≠ "__name__":=by decide) (hdb:(x==("__debug__":Str))=false:=by decide)
  (he:starEach (e::es) X.env=(false,eval e X.env)::starEach es X.env:=by rfl) (hpl:(backTo pos (starEach es X.env)).any (·.1)=false:=by rfl):QE K X (.Call (.Name x p) (e::es) [] pos) (wCB g wr):=tP (vq hc hg hm hv ha hn hdb he hpl)
theorem bo (hK:X.K=K) (pa:PlainAttrs ty) (slot:Slot ty m id) (hty:typeOf (.builtin id)=pure (.type "method_descriptor")) (hm:MtR X id (lM K gm)) (ho:QE K X o wa) (ha:QA K X (e::es) wr)
  (h:∀ {to t r},PE X o to->MtR X id r->PA X (e::es) t->PE X (.Call (.Attribute o m apos) (e::es) [] cpos) (tBM X.K ty r to t)):QE K X (.Call (.Attribute o m apos) (e::es) [] cpos) (wBM ty gm wa wr):=by
 subst hK
 exact Fe (h ho hm ha)
theorem Eb (hK:X.K=K) (pa:PlainAttrs ty) (slot:Slot ty m id) (hty:typeOf (.builtin id)=pure (.type "method_descriptor")) (hm:MtR X id (lM K gm)) (ho:QE K X o wa)
  (h:∀ {to r},PE X o to->MtR X id r->PE X (.Call (.Attribute o m apos) [] [] cpos) (jt X.K ty r to)):QE K X (.Call (.Attribute o m apos) [] [] cpos) (wBM ty gm wa cJ):=by
 subst hK
 exact Do (h ho hm)
theorem bq {y:Str}{i:Nat}(hN:X.N.Nodup) (hi:X.N[i]?=some y) (hx:Loc X.env.scope y) (hf:X.fn y=true\/X.env.scope.names.lookup y=some .local:=by first|exact .inl rfl|exact .inr rfl|assumption):QG K X (.Name y pos) (wgN i):=yE (x9 hN hi hx hf)
theorem dL {i:Expr}{wo wi:WE}{g:GS}(ho:QE K X o wo) (hi:QE K X i wi) (hs:dU X (gZ K g))
  (h:∀ {to ti t},PE X o to->PE X i ti->dU X t->PG X (.Subscript o i pos) (L2.fL to ti t)):QG K X (.Subscript o i pos) (wgS wo wi g):=A7 (h ho hi hs)
end
end T2
namespace T2
open PySem PySem.Spec PyProof.Rows L2 S6
theorem uw (a:Value):argsOk "sorted" ⟨[a],[]⟩:=by unfold argsOk;kernel_rfl
theorem ue (a:Value):argsOk "list.sort" ⟨[a],[]⟩:=by unfold argsOk;kernel_rfl
theorem ul (a:Addr):Builtin.«list.sort» ⟨[.ref a],[]⟩=(do
  let items <- Builtin.List.listItems (.ref a)
  Builtin.List.listUpdate (.ref a) λ_=>#[]
  let before <- seqEpoch a
  let held <- newTuple items.toList
  let keyStore <- newList []
  holding [held,keyStore] do
   let keys <- pure items
   let kind <- if items.size<2 then pure general' else keyKind' keys
   let ((),s) <- (if items.size<2 then pure () else sortRuns').run (SortSt.mk' kind (keys.zip items) #[] 7 none)
   let sorted:=(arrOf s).map (·.2)
   let touched:=(<- seqEpoch a) != before
   Builtin.List.listUpdate (.ref a) λ_=>sorted
   if let some e:=failedOf s then rule "list.sort.comparison-raised";throw e
   if touched then rule "list.sort.modified";raiseError "ValueError" "list modified during sort"
   ret .none):=by rfl
end T2
namespace T2
open PySem PySem.Spec PyProof.Rows L2
section
variable {κ:Type}[DecidableEq κ]
def bx (kts:List (κ×T)) (k:κ):Option T:=(kts.find? λkv=>decide (kv.1=k)).map (·.2)
def fH (kts:List (κ×T)) (k:κ) (t:T):List (κ×T) :=
 if (kts.any λkv=>decide (kv.1=k))=true then kts.map (λkv=>if kv.1=k then (kv.1,t) else kv) else kts++[(k,t)]
def fI (kts:List (κ×T)) (k:κ):List (κ×T):=kts.filter λkv=>decide (kv.1≠k)
abbrev PrT (K:Fg) (H:Hp) (S:Sto):List (κ×T)->List (κ×V)->Prop:=Paired λ(p:κ×T) (q:κ×V)=>p.1=q.1/\Rp K H S p.2 q.2
variable {K:Fg}{H:Hp}{S:Sto}
theorem j9 {k:κ}{t:T}:∀ {kts:List (κ×T)}{kvs:List (κ×V)},PrT K H S kts kvs->bx kts k=some t->∃ v,aZ kvs k=some v/\Rp K H S t v := by
 intro kts kvs pr
 induction pr with
 | nil => intro e; cases e
 | @cons p q2 l l' er ps ih =>
  intro h
  obtain ⟨a, b⟩ := p; obtain ⟨c, d⟩ := q2; obtain ⟨e, r⟩ := er
  simp only at e;subst e
  unfold bx aZ at *
  rw [List.find?_cons] at h ⊢
  by_cases z:a=k
  ·simp only [z,decide_true,Option.map_some,Option.some.injEq] at h ⊢
   subst h;exact ⟨d,rfl,r⟩
  ·simp only [z,decide_false] at h ⊢
   exact ih h
theorem ka {k:κ}:∀ {kts:List (κ×T)}{kvs:List (κ×V)},PrT K H S kts kvs->(aZ kvs k).isSome=(bx kts k).isSome := by
 intro kts kvs pr
 induction pr with
 | nil => exact rfl
 | @cons p q2 l l' er ps ih =>
  obtain ⟨a, b⟩ := p; obtain ⟨c, d⟩ := q2; obtain ⟨e, r⟩ := er
  simp only at e;subst e
  unfold bx aZ
  rw [List.find?_cons,List.find?_cons]
  by_cases z:a=k
  ·simp [z]
  ·simp only [z,decide_false]
   exact ih
theorem qK {k:κ}:∀ {kts:List (κ×T)}{kvs:List (κ×V)},PrT K H S kts kvs->(kvs.any λkv=>decide (kv.1=k))=kts.any λkv=>decide (kv.1=k) := by
 intro kts kvs pr
 induction pr with
 | nil => exact rfl
 | @cons p q2 l l' er ps ih =>
  obtain ⟨a, b⟩ := p; obtain ⟨c, d⟩ := q2; obtain ⟨e, r⟩ := er
  simp only at e;subst e
  rw [List.any_cons,List.any_cons,ih]
theorem Paired.app {α β:Type}{F:α->β->Prop}:∀ {a:List α}{b:List β}{c:List α}{d:List β},Paired F a b->Paired F c d->Paired F (a++c) (b++d)
 |_,_,_,_,.nil,r=>r
 |_,_,_,_,.cons h t,r=>.cons h (Paired.app t r)
theorem pN {k:κ}{t:T}{v:V}(r:Rp K H S t v):∀ {kts:List (κ×T)}{kvs:List (κ×V)},PrT K H S kts kvs->PrT K H S (kts.map λkv=>if kv.1=k then (kv.1,t) else kv) (kvs.map λkv=>if kv.1=k then (kv.1,v) else kv) := by
 intro kts kvs pr
 induction pr with
 | nil => exact .nil
 | @cons p q2 l l' er ps ih =>
  obtain ⟨a, b⟩ := p; obtain ⟨c, d⟩ := q2; obtain ⟨e, q⟩ := er
  simp only at e;subst e
  refine .cons ?_ (ih)
  dsimp only
  by_cases z:a=k
  ·rw [if_pos z,if_pos z];exact ⟨rfl,r⟩
  ·rw [if_neg z,if_neg z];exact ⟨rfl,q⟩
theorem BC {k:κ}{t:T}{v:V}(r:Rp K H S t v){kts:List (κ×T)}{kvs:List (κ×V)}(p:PrT K H S kts kvs):PrT K H S (fH kts k t) (bL kvs k v):=by
 unfold fH bL
 rw [qK p]
 split
 ·exact pN r p
 ·exact Paired.app p (.cons ⟨rfl,r⟩ .nil)
theorem kL {k:κ}:∀ {kts:List (κ×T)}{kvs:List (κ×V)},PrT K H S kts kvs->PrT K H S (fI kts k) (dP kvs k) := by
 intro kts kvs pr
 induction pr with
 | nil => exact .nil
 | @cons p q2 l l' er ps ih =>
  obtain ⟨a, b⟩ := p; obtain ⟨c, d⟩ := q2; obtain ⟨e, q⟩ := er
  simp only at e;subst e
  unfold fI dP
  rw [List.filter_cons,List.filter_cons]
  by_cases z:a=k
  ·simp only [z,ne_eq,not_true,decide_false,Bool.false_eq_true,if_false];exact ih
  ·simp only [z,ne_eq,not_false_eq_true,decide_true,if_true];exact .cons ⟨rfl,q⟩ (ih)
end
def tT:Key->T
 |.inl i=>.int i
 |.inr x=>.str x
section
variable {K:Fg}{X:Cx}{H:Hp}{S:Sto}
theorem gJ {t:T}{v:V}{k:Key}(r:Rp K H S t v) (e:cG t=some k):v=kV k:=by
 cases r<;>simp only [cG,Option.some.injEq,reduceCtorEq] at e<;>subst e<;>rfl
theorem y' (k:Key):Rp K H S (tT k) (kV k):=by cases k<;>constructor
def RdT (w:World) (S:Sto) (a:Addr) (kts:List (Key×T)):Prop:=S a=some (.dK kts)\/∃ od kvs,S a=some (.fK w od kvs kts)
theorem lX {w:World}{a:Addr}{kts:List (Key×T)}(s:SRp K H S) (g:RdT w S a kts):∃ kvs,RdK w H a kvs/\PrT K H S kts kvs:=by
 rcases g with e|⟨od,kvs,e⟩
 ·cases s a _ e with
  |dK h p=>exact ⟨_,.inl h,p⟩
 ·cases s a _ e with
  |fK h p=>exact ⟨_,.inr ⟨_,h⟩,p⟩
theorem lY {a:Addr}{kts:List (Key×T)}(s:SRp K H S) (e:S a=some (.dK kts)):∃ kvs,H a=some (.dK kvs)/\PrT K H S kts kvs:=by
 cases s a _ e with
 |dK h p=>exact ⟨_,h,p⟩
theorem xm {a:Addr}{kts us:List (Key×T)}{ws:List (Key×V)}{Qt:T->Sto->Prop}{Q:VK}{t:T}{v:V}(s:SRp K H S) (e:S a=some (.dK kts)) (p:PrT K H S us ws) (b:Bh K H S Qt Q) (r:Rp K H S t v) (q:Qt t (put S a (.dK us))):Q v (upd H a (.dK ws)):=by
 have hn:S a≠none:=by rw [e];simp
 have f:Fr H S (upd H a (.dK ws)) (put S a (.dK us)):=Fr.write hn
 exact b _ _ _ _ f (s.write hn (.dK aA (Paired.mapP p λ_ _ z=>⟨z.1,z.2.fr f⟩))) (r.fr f) q
def mE (w:World):G2:=λx y S Q=>∃ a kts k t,x=.ref a/\RdT w S a kts/\cG y=some k/\bx kts k=some t/\Q t S
theorem Ec {o i:Expr}{wo wi:WE}{pos:Pos}(ho:QE K X o wo) (hi:QE K X i wi) (hs:jw i):QE K X (.Subscript o i pos) (w2 (mE X.w) wo wi):=PE.of (yC ho hi hs) λσ H Q zz93=>by
 obtain ⟨S,σt,Qt,s,c,q,hq⟩:=zz93
 refine ⟨S,σt,_,s,c,q,λx H1 tx S1 f1 s1 r1 q1=>?_⟩
 refine ⟨S1,σt,_,s1,c.fr f1,q1,λy H2 ty S2 f2 s2 r2 q2=>?_⟩
 obtain ⟨a,kts,k,t,rfl,g,ek,l,q2⟩:=q2
 cases r1
 obtain ⟨kvs,hg,p⟩:=lX s2 g
 obtain ⟨v,lv,rv⟩:=j9 p l
 exact ⟨a,kvs,k,v,rfl,hg,gJ r2 ek,lv,hq v H2 t S2 (f1.trans f2) s2 rv q2⟩
def hJ (w:World) (neg:Bool):G2:=λx y S Q=>∃ a kts k,y=.ref a/\RdT w S a kts/\cG x=some k/\Q (.bl (neg ^^ (bx kts k).isSome)) S
theorem Ed:OpR X (compareOp .In) (l2 K (hJ X.w false)):=by
 rintro pins s σ H x y v u Q I rx ry ⟨S,tx,ty,Qt,sr,hx,hy,⟨a,kts,k,e,g,ek,q⟩,b⟩
 subst e
 cases hy
 cases (show u=Value.ref a from ry)
 obtain ⟨kvs,hg,p⟩:=lX sr g
 have:=gJ hx ek
 subst this
 refine E8 I hg rx λs' I'=>⟨.bl (aZ kvs k).isSome,H,I',rfl,b _ H _ S .refl sr .bl ?_⟩
 rw [ka p];simpa using q
theorem xn:OpR X (compareOp .NotIn) (l2 K (hJ X.w true)):=by
 rintro pins s σ H x y v u Q I rx ry ⟨S,tx,ty,Qt,sr,hx,hy,⟨a,kts,k,e,g,ek,q⟩,b⟩
 subst e
 cases hy
 cases (show u=Value.ref a from ry)
 obtain ⟨kvs,hg,p⟩:=lX sr g
 have:=gJ hx ek
 subst this
 refine yB I hg rx λs' I'=>⟨.bl (!(aZ kvs k).isSome),H,I',rfl,b _ H _ S .refl sr .bl ?_⟩
 rw [ka p];simpa using q
def sI:GS:=λo i v S Q=>∃ a kts k,o=.ref a/\S a=some (.dK kts)/\cG i=some k/\kts.length<sizeLine/\Q (put S a (.dK (fH kts k v)))
theorem qL (hu:X.A.units+1<cLine):dU X (gZ K sI):=by
 rintro pins s σ H o i v ov iv u Q I ro ri rv ⟨S,to,ti,tv,Qt,sr,hO,hI,hV,⟨a,kts,k,e,ea,ek,hl,q⟩,b⟩
 subst e
 cases hO
 cases (show ov=Value.ref a from ro)
 obtain ⟨kvs,hk,p⟩:=lY sr ea
 have:=gJ hI ek
 subst this
 have hn:S a≠none:=by rw [ea];simp
 refine vE hu I (jv.k hk (by rw [Paired.len p];exact hl)) ri rv λs' I'=>⟨_,I',?_⟩
 exact b _ _ (Fr.write hn) (sr.write hn (.dK aA (Paired.mapP (BC hV p) λ_ _ z=>⟨z.1,z.2.fr (Fr.write hn)⟩))) q
def sJ:GM:=λx ts S Q=>∃ a kts y k t,x=.ref a/\ts=[y]/\S a=some (.dK kts)/\cG y=some k/\bx kts k=some t/\Q t (put S a (.dK (fI kts k)))
theorem BD:MtR X "dict.pop" (lM K sJ):=by
 rintro pins s σ H x xs v us Q I rx rv ⟨S,t,ts,Qt,sr,hx,rs,⟨a,kts,y,k,t',e,e2,ea,ek,l,q⟩,b⟩
 subst e e2
 cases hx
 cases rs with
 |cons ry rn =>
  cases rn
  obtain ⟨kvs,hk,p⟩:=lY sr ea
  obtain ⟨w',lw,rw'⟩:=j9 p l
  have:=gJ ry ek
  subst this
  exact yD pins s σ H _ _ v us Q I rx rv ⟨a,kvs,k,w',rfl,rfl,hk,lw,xm sr ea (kL p) b rw' q⟩
def sK:WE:=λ_ S Q=>∀ p,S p=none->Q (.ref p) (put S p (.dK []))
theorem BE {pos:Pos}:QE K X (.Dict [] [] pos) sK:=PE.of wU λσ H Q ⟨S,σt,Qt,s,c,q,hq⟩=>λp hp =>
 hq _ _ (.ref p) _ (Fr.newT hp) (s.newT hp (.dK aA .nil)) .ref (q p (s.fresh hp))
def gK (kv:Key×T):T:=.tup [tT kv.1,kv.2]
def wiP (w:World) (wa:WE):WI:=λσ S R=>wa σ S λx S1=>∃ d kts,x=.ref d/\S1 d=some (.dK kts)/\∀ od kvs,R ⟨kts.map gK,λS'=>S' d=some (.fK w od kvs kts)⟩ (put S1 d (.fK w od kvs kts))
theorem za {w:World}{d:Addr}{od:Obj}{kts:List (Key×T)}{kvs:List (Key×V)}(s:SRp K H S) (e:S d=some (.dK kts)) (p:PrT K H S kts kvs) :
  Fr H S (upd H d (fzH w d od kvs)) (put S d (.fK w od kvs kts))/\SRp K (upd H d (fzH w d od kvs)) (put S d (.fK w od kvs kts)):=by
 have hn:S d≠none:=by rw [e];simp
 exact ⟨Fr.write hn,s.write hn (.fK aA (Paired.mapP p λ_ _ z=>⟨z.1,z.2.fr (Fr.write hn)⟩))⟩
theorem xo {o:Expr}{wa:WE}{elts:List Expr}{x1:Nat}{tpos apos cpos:Pos}(ho:QE K X o wa) (hK:X.K=K)
  (hbase:attributeBase o "items" X.env (eval o X.env)=eval o X.env:=by rfl) (hline:(apos.endLine==cpos.line)=true:=by rfl):QI K X (.Tuple elts x1 tpos) (.Call (.Attribute o "items" apos) [] [] cpos) (wiP X.w wa):=by
 subst hK
 refine PI.of (wZ (qg PySem.F.plainAttrs_dict PySem.F.slot_dict_items PySem.F.type_dict_items wY ho hbase hline)) λσ H R zz94=>?_
 obtain ⟨S,σt,Rt,s,c,q,hq⟩:=zz94
 refine ⟨S,σt,_,s,c,q,λx H1 tx S1 f1 s1 r1 q1=>?_⟩
 obtain ⟨d,kts,rfl,ed,q1⟩:=q1
 cases r1
 obtain ⟨kvs,hk,p⟩:=lY s1 ed
 refine ⟨.inr (.inr (.inl ⟨rfl,.inl ⟨_,hk⟩⟩)),d,kvs,rfl,rfl,hk,λv hv=>?_⟩
 have nd:d≠v:=bf hk hv
 refine ⟨v,d,kvs,rfl,aA,by rw [ap nd];exact hk,λod=>?_⟩
 have fv:Fr H1 S1 (upd H1 v (gF v d)) S1:=Fr.new hv
 obtain ⟨f2,s2⟩:=za (w:=X.w) (od:=od) (s1.new (u:=gF v d) hv) ed (Paired.mapP p λ_ _ z=>⟨z.1,z.2.fr fv⟩)
 refine hq _ _ _ _ ((f1.trans fv).trans f2) s2 ⟨?_,?_,?_⟩ (q1 od kvs)
 ·intro H' S' i f' s' g hi
  cases s' d _ g with
  |fK h p' =>
   dsimp only at hi
   rw [List.length_map] at hi
   exact ⟨h,by rw [Paired.len p'];exact hi⟩
 ·rintro H' S' i x H'' f' s' g hi ⟨pp,kv,ek,hp,ex,eH⟩
  subst eH ex
  cases s' d _ g with
  |fK h p' =>
   obtain ⟨kt,e1,e2⟩:=mo p' ek
   refine ⟨gK kt,by rw [List.getElem?_map,e1];rfl,Fr.new hp,s'.new hp,?_⟩
   refine .tup (s'.fresh hp) aA (.cons ?_ (.cons (e2.2.fr (Fr.new hp)) .nil))
   rw [e2.1];exact y' _
 ·intro H' S' f' s' g
  cases s' d _ g with
  |fK h p'=>exact ⟨h,by rw [Paired.len p',List.length_map];exact Nat.le_refl _⟩
def mF (w:World) (we:WE):WE:=λσ S Q=>we σ S λt S'=>∃ d od kvs kts,S' d=some (.fK w od kvs kts)/\Q t (put S' d (.dK kts))
def mG (w:World) (u:WS):WS:=λD σ S=>u { D with nx:=λσ' S'=>∃ d od kvs kts,S' d=some (.fK w od kvs kts)/\D.nx σ' (put S' d (.dK kts)) } σ S
theorem pO {w:World}{d:Addr}{od:Obj}{kts:List (Key×T)}{kvs:List (Key×V)}(s:SRp K H S) (e:S d=some (.fK w od kvs kts)) :
  H d=some (fzH w d od kvs)/\Fr H S (upd H d (.dK kvs)) (put S d (.dK kts))/\SRp K (upd H d (.dK kvs)) (put S d (.dK kts)):=by
 have hn:S d≠none:=by rw [e];simp
 cases s d _ e with
 |fK h p=>exact ⟨h,Fr.write hn,s.write hn (.dK aA (Paired.mapP p λ_ _ z=>⟨z.1,z.2.fr (Fr.write hn)⟩))⟩
theorem Ee {e:Expr}{we:WE}(h:QE K X e we):QE K X e (mF X.w we):=PE.of (PE.unf h) λσ H Q zz95=>by
 obtain ⟨S,σt,Qt,s,c,q,hq⟩:=zz95
 refine ⟨S,σt,_,s,c,q,λv H1 t S1 f1 s1 r1 q1=>?_⟩
 obtain ⟨d,od,kvs,kts,e,q1⟩:=q1
 obtain ⟨h1,f2,s2⟩:=pO s1 e
 exact ⟨d,od,kvs,h1,hq v _ t _ (f1.trans f2) s2 (r1.fr f2) q1⟩
theorem Ef {st:Stmt}{u:WS}(h:QS K X st u):QS K X st (mG X.w u):=PS.of (PS.unf h) λD σ H zz96=>by
 obtain ⟨S,σt,Dt,s,c,q,he⟩:=zz96
 refine ⟨S,σt,_,s,c,q,⟨λσ' H' σt' S' f s' c' q'=>?_,he.rt,he.bk,he.ct⟩⟩
 obtain ⟨d,od,kvs,kts,e,q1⟩:=q'
 obtain ⟨h1,f2,s2⟩:=pO s' e
 exact ⟨d,od,kvs,h1,he.nx σ' _ σt' _ (f.trans f2) s2 (c'.fr f2) q1⟩
end
def mH (K:Fg) (g:List T->List T->Sto->(T->Sto->Prop)->Prop):List V->List V->Hp->VK->Prop:=λxs zs H Q=>∃ S ts us Qt,SRp K H S/\Rps K H S ts xs/\Rps K H S us zs/\g ts us S Qt/\Bh K H S Qt Q
def lZ (g:List T->List T->Sto->(T->Sto->Prop)->Prop) (wr:WA) (wk:WE):WE:=λσ S Q=>wr σ S λts S1=>wk σ S1 λy S2=>g ts [y] S2 Q
theorem xp {K:Fg}{g:List T->List T->Sto->(T->Sto->Prop)->Prop}{wr:WA}{wk:WE}{σ H Q}(h:lE K (lZ g wr wk) σ H Q):mm (mH K g) (lA K wr) (i8 (lE K wk) cY) σ H Q:=by
 obtain ⟨S,σt,Qt,s,c,q,hq⟩:=h
 refine ⟨S,σt,_,s,c,q,λvs H1 ts S1 f1 s1 r1 q1=>?_⟩
 refine ⟨S1,σt,_,s1,c.fr f1,q1,λy H2 ty S2 f2 s2 r2 q2=>?_⟩
 exact ⟨S2,ts,[ty],Qt,s2,r1.fr f2,.cons r2 .nil,q2,λv H' t S' f=>hq v H' t S' ((f1.trans f2).trans f)⟩
def sL:List T->List T->Sto->(T->Sto->Prop)->Prop:=λts us S Q=>∃ x ns d,ts=[x]/\us=[d]/\aD S x=some (List.map T.int ns)/\(ns=[]->Q d S)/\(ns≠[]->∀ m,m∈ns->(∀ i∈ns,i<=m)->Q (.int m) S)
section
variable {K:Fg}{X:Cx}{k:Nat}{f C:Addr}{fd:FuncData}{ps:List Str}{wsp:WSp}{x m fl:Str}{p pos apos cpos pos':Pos}{e o value:Expr}{es:List Expr}{wa wv:WE}{wr:WA}{G:Addr->Prop}
theorem zb (M:Mk X.K C f) (F:FnOk X.prog X.w X.K X.mg X.base CX0 k f fd ["self"] (lSp K wsp)) (hb:aq X.K fd ["self"] []) (hr:Room (k+1) X.A) (hg:Gl X x) (hm:X.mg x=some (.ref C)) (hdb:(x==("__debug__":Str))=false:=by decide) :
  QE K X (.Call (.Name x p) [] [] pos) (lK C wsp [] cJ):=yI (dvs:=[]) (λ_ _=>.nil) (wH M F hr hg hm hb .nil fq hdb)
theorem br {pl:Sem Bool}(hG:∀ C,G C->Cls X.K C/\Meth X.K C m f) (F:FnOk X.prog X.w X.K X.mg X.base CX0 k f fd ps (lSp K wsp)) (hb:aq X.K fd ps []) (hr:Room k X.A) (ho:QE K X o wa) (ha:QA K X (e::es) wr)
  (hst:starEach (e::es) X.env=(false,eval e X.env)::starEach es X.env:=by rfl) (hpl:(backTo pos (starEach es X.env)).any (·.1)=false:=by rfl)
  (ht:eval (.Call (.Attribute o m apos) (e::es) [] pos) X.env=(do
   let ov <- eval o X.env
   standAt apos.atName
   let (f,first) <- holding [ov] (getMethod ov m pl)
   callWith pos f first (backTo pos (starEach (e::es) X.env)) (backToKw pos (keywordEach [] X.env))):=by rfl) :
  QE K X (.Call (.Attribute o m apos) (e::es) [] pos) (dg G m wsp [] wa wr):=qr (dvs:=[]) (λ_ _=>.nil) (oK (pl:=pl) ho hG F hr hb .nil fq ha hst hpl ht)
theorem kM {pl:Sem Bool}(hG:∀ C,G C->Cls X.K C/\Meth X.K C m f) (F:FnOk X.prog X.w X.K X.mg X.base CX0 k f fd ps (lSp K wsp)) (hb:aq X.K fd ps []) (hr:Room k X.A) (ho:QE K X o wa)
  (ht:eval (.Call (.Attribute o m apos) [] [] pos) X.env=(do
   let ov <- eval o X.env
   standAt apos.atName
   let (f,first) <- holding [ov] (getMethod ov m pl)
   callWith pos f first (backTo pos (starEach [] X.env)) (backToKw pos (keywordEach [] X.env))):=by rfl) :
  QE K X (.Call (.Attribute o m apos) [] [] pos) (dg G m wsp [] wa cJ):=yG (dvs:=[]) (λ_ _=>.nil) (vH (pl:=pl) ho hG F hr hb .nil fq ht)
theorem bw (hK:X.K=K) (hG:∀ C,G C->Cls K C/\bF K C fl) (he:QE K X o wa) (hb:attributeBase o fl X.env (eval o X.env)=eval o X.env:=by rfl):QE K X (.Attribute o fl pos) (mt G wa fl):=Di hK hG he hb
theorem Eg (w:World){i:Expr}{wi:WE}(hw:X.w=w) (ho:QE K X o wa) (hi:QE K X i wi) (hs:jw i):QE K X (.Subscript o i pos) (w2 (mE w) wa wi):=by subst hw;exact Ec ho hi hs
theorem l6 (w:World) (hw:X.w=w):OpR X (compareOp .In) (l2 K (hJ w false)):=by subst hw;exact Ed
theorem oQ (w:World) (hw:X.w=w):OpR X (compareOp .NotIn) (l2 K (hJ w true)):=by subst hw;exact xn
theorem pP (w:World){elts:List Expr}{x1:Nat}{tpos:Pos}(hw:X.w=w) (hK:X.K=K) (ho:QE K X o wa)
  (hbase:attributeBase o "items" X.env (eval o X.env)=eval o X.env:=by rfl) (hline:(apos.endLine==cpos.line)=true:=by rfl):QI K X (.Tuple elts x1 tpos) (.Call (.Attribute o "items" apos) [] [] cpos) (wiP w wa):=by subst hw;exact xo ho hK hbase hline
theorem Eh (w:World) (hw:X.w=w) (h:QE K X e wa):QE K X e (mF w wa):=by subst hw;exact Ee h
theorem Ei (w:World){st:Stmt}{u:WS}(hw:X.w=w) (h:QS K X st u):QS K X st (mG w u):=by subst hw;exact Ef h
theorem Ej {g:List T->List T->Sto->(T->Sto->Prop)->Prop}{id:String}{kw:Str}{ke:Expr}{wk:WE}{kpos:Pos}(hc:gj X (.builtin id) [kw] (mH K g)) (hg:Gl X x) (hm:X.mg x=none) (hv:bootBuiltins x=some (.builtin id)) (ha:QA K X [e] wr) (hk:QE K X ke wk)
  (hks:(backToKw pos (keywordEach [⟨some kw,ke,kpos⟩] X.env)).filterMap (·.1)=[kw]:=by rfl) (hn:x ≠ "__name__":=by decide) (hdb:(x==("__debug__":Str))=false:=by decide)
  (he:backTo pos (starEach [e] X.env)=(false,eval e X.env)::backTo pos (starEach [] X.env):=by rfl) (hplain:(backTo pos (starEach [e] X.env)).any (·.1)=false:=by rfl)
  (hall:(backToKw pos (keywordEach [⟨some kw,ke,kpos⟩] X.env)).all (·.1.isSome)=true:=by rfl) (hkw2:(backToKw pos (keywordEach [⟨some kw,ke,kpos⟩] X.env)).any (·.1.isNone)=false:=by rfl) :
  QE K X (.Call (.Name x p) [e] [⟨some kw,ke,kpos⟩] pos) (lZ g wr wk):=PE.of (og hc hg hm hv ha (pj hk qe) hks hn hdb he hplain hall hkw2) λ_ _ _ h=>xp h
theorem BF (hK:X.K=K) (hc:X.calm=true):gj X (.builtin "max") [Str.ofString "default"] (mH K sL):=by
 subst hK
 rintro pins s σ H xs zs us ws Q I rv rz ⟨S,ts,ds,Qt,sr,r1,r2,⟨x,ns,d,e1,e2,ev,q0,q1⟩,b⟩
 subst e1 e2
 cases r1 with
 |cons rx rn =>
  cases rn
  cases r2 with
  |cons rd rn =>
   cases rn
   obtain ⟨p,vs,rfl,hS,rs⟩:=bz sr rx ev
   have hv:vs=ns.map V.int:=pG rs (by
    clear rs hS q0 q1 ev rx
    induction ns with
    |nil=>rfl
    |cons a l ih=>simp only [List.map_cons,pF,ih,Option.map_some])
   subst hv
   exact vB hc pins s σ H _ _ us ws Q I rv rz ⟨p,ns,_,rfl,rfl,hS,λh=>b _ H _ S .refl sr rd (q0 h),λh m m1 m2=>b _ H _ S .refl sr .int (q1 h m m1 m2)⟩
structure FunD (K:Fg) (x qual:Str) (st:Stmt) (f:Addr) (fd:FuncData):Prop where
 ex:∃ (oc:Value) (od:Option Addr) (dV kV doc pm:Value) (an:Option Addr) (cdv ct:Value) (osl:Array (Option Value)),
  fd=PySem.W.fnOf x qual (av st) (ao st) (aj st) dV kV doc pm an cdv ct/\K.lookup f=some ⟨oc,od,.func fd,osl⟩/\PySem.W.codeIn K cdv qual=true
theorem bW {P:Program}{w:World}{mg:Str->Option Value}{base:Heap}{x qual:Str}{st:Stmt}{N:List Str}(F:FunD K x qual st f fd) (Sc:FnScope N ps (aj st)) (len:∀ ts S Q,wsp ts S Q->ts.length=ps.length)
  (hbody:∀ (cdv:Value) (A:Around) (outer:List Env) (s:Shared) (H:Hp) (E:XK),Room k (A.deeper (envOfC qual (aj st) s.heap.objs.size f cdv)) ->
   ∃ u,QSs K (cf CX0 P w K mg base N qual (aj st) f cdv A outer s H E).nox (ao st) u/\∀ ts S Q,wsp ts S Q->u { nx:=λ_ S'=>Fin Q .non S',rt:=Fin Q } (b7 N ts) S):FnOk P w K mg base CX0 (k+1) f fd ps (lSp K wsp):=by
 obtain ⟨oc,od,dV,kV,doc,pm,an,cdv,ct,osl,rfl,lk,hcd⟩:=F.ex
 refine lD lk hcd Sc (λvs H Q E ⟨S,ts,Qt,s,r,q,_⟩=>by rw [r.length];exact len _ _ _ q) λA outer s H vs Q E hr ⟨S,ts,Qt,sr,r,q,b⟩=>?_
 obtain ⟨u,hu,hq⟩:=hbody cdv A outer s H E hr
 exact ⟨_,L2.PSs.nox hu,S,b7 N ts,_,sr,ix r,hq ts S Qt q,⟨λ_ H' _ S' f s' _ q'=>Fin.ends b f s' .non q',λv H' t S' f s' r' q'=>Fin.ends b f s' r' q',λ_ _ _ _ _ _ _ q'=>q'.elim,λ_ _ _ _ _ _ _ q'=>q'.elim⟩⟩
end
section
variable {σ:StT}{S:Sto}{D:EndsT}{Q:T->Sto->Prop}{R:Prop}{w:World}{a d C:Addr}{G:Addr->Prop}{fs:List (Str×T)}{m fl:Str}{t:T}{x y:T}{kts:List (Key×T)}{k:Key}{i:Int}
theorem BG {wsp:WSp}{wr:WA}(h:wr σ S λts S1=>∀ x,S1 x=none->wsp (.ref x::(ts++[])) (put S1 x (.ins C [])) (λt S2=>t=.non/\Q (.ref x) S2)):lK C wsp [] wr σ S Q:=h
theorem BH {wsp:WSp}{dts:List T}{wa:WE}{wr:WA}(h:wa σ S λx S1=>∃ a C fs,x=.ref a/\S1 a=some (.ins C fs)/\G C/\fs.lookup m=none/\wr σ S1 λts S2=>wsp (x::(ts++dts)) S2 Q):dg G m wsp dts wa wr σ S Q:=h
theorem BI (e:S a=some (.ins C fs)) (g:G C) (l:fs.lookup m=none) (h:R):∃ a' C' fs',T.ref a=.ref a'/\S a'=some (.ins C' fs')/\G C'/\fs'.lookup m=none/\R:=⟨a,C,fs,rfl,e,g,l,h⟩
theorem Ek {wa:WE}(h:wa σ S λx S1=>∃ a C fs v,x=.ref a/\S1 a=some (.ins C fs)/\G C/\fs.lookup fl=some v/\Q v S1):mt G wa fl σ S Q:=h
theorem El {P:T->Prop}(e:S a=some (.ins C fs)) (g:G C) (l:fs.lookup fl=some t) (h:P t):∃ a' C' fs' v,T.ref a=.ref a'/\S a'=some (.ins C' fs')/\G C'/\fs'.lookup fl=some v/\P v:=⟨a,C,fs,t,rfl,e,g,l,h⟩
theorem BJ {wa wv:WE}(h:wv σ S λy S1=>wa σ S1 λx S2=>∃ a C fs,x=.ref a/\S2 a=some (.ins C fs)/\G C/\fs.length<1000/\D.nx σ (put S2 a (.ins C (cZ fl y fs)))):sj G wa wv fl D σ S:=h
theorem qM {P:Addr->Addr->List (Str×T)->Prop}(e:S a=some (.ins C fs)) (g:G C) (l:fs.length<1000) (h:P a C fs):∃ a' C' fs',T.ref a=.ref a'/\S a'=some (.ins C' fs')/\G C'/\fs'.length<1000/\P a' C' fs':=⟨a,C,fs,rfl,e,g,l,h⟩
theorem zc {wa wv:WE}(h:wa σ S λx S1=>∃ a C fs i,x=.ref a/\S1 a=some (.ins C fs)/\G C/\fs.lookup fl=some (.int i) /\
 wv σ S1 λy S2=>∃ j fs',y=.int j/\S2 a=some (.ins C fs')/\fs'.length<1000/\D.nx σ (put S2 a (.ins C (cZ fl (.int (i+j)) fs')))):oM G wa wv fl D σ S:=h
theorem zd {P:Addr->Addr->Int->Prop}(e:S a=some (.ins C fs)) (g:G C) (l:fs.lookup fl=some (.int i)) (h:P a C i):∃ a' C' fs' i',T.ref a=.ref a'/\S a'=some (.ins C' fs')/\G C'/\fs'.lookup fl=some (.int i')/\P a' C' i':=⟨a,C,fs,i,rfl,e,g,l,h⟩
theorem xq {P:Int->List (Str×T)->Prop}{j:Int}(e:S a=some (.ins C fs)) (l:fs.length<1000) (h:P j fs):∃ j' fs',T.int j=.int j'/\S a=some (.ins C fs')/\fs'.length<1000/\P j' fs':=⟨j,fs,rfl,e,l,h⟩
theorem Em {g:List T->List T->Sto->(T->Sto->Prop)->Prop}{wr:WA}{wk:WE}(h:wr σ S λts S1=>wk σ S1 λy S2=>g ts [y] S2 Q):lZ g wr wk σ S Q:=h
theorem BK {ns:List Int}(e:aD S x=some (ns.map T.int)) (h0:ns=[]->Q y S) (h1:ns≠[]->∀ m,m∈ns->(∀ i∈ns,i<=m)->Q (.int m) S):sL [x] [y] S Q:=⟨x,ns,y,rfl,rfl,e,h0,h1⟩
theorem En {u:WS}(h:u { D with nx:=λσ' S'=>∃ d od kvs kts,S' d=some (.fK w od kvs kts)/\D.nx σ' (put S' d (.dK kts)) } σ S):mG w u D σ S:=h
theorem Eo {we:WE}(h:we σ S λt S'=>∃ d od kvs kts,S' d=some (.fK w od kvs kts)/\Q t (put S' d (.dK kts))):mF w we σ S Q:=h
theorem BL (h:∀ p,S p=none->Q (.ref p) (put S p (.dK []))):sK σ S Q:=h
theorem Ep (e:S a=some (.dK kts)) (ek:cG y=some k) (l:bx kts k=some t) (h:Q t S):mE w (.ref a) y S Q:=⟨a,kts,k,t,rfl,.inl e,ek,l,h⟩
theorem gL {n:Bool}(e:S a=some (.dK kts)) (ek:cG x=some k) (h:Q (.bl (n ^^ (bx kts k).isSome)) S):hJ w n x (.ref a) S Q:=⟨a,kts,k,rfl,.inl e,ek,h⟩
theorem qN {v:T}{Q:Sto->Prop}(e:S a=some (.dK kts)) (ek:cG y=some k) (l:kts.length<sizeLine) (h:Q (put S a (.dK (fH kts k v)))):sI (.ref a) y v S Q:=⟨a,kts,k,rfl,e,ek,l,h⟩
theorem BM (e:S a=some (.dK kts)) (ek:cG y=some k) (l:bx kts k=some t) (h:Q t (put S a (.dK (fI kts k)))):sJ (.ref a) [y] S Q:=⟨a,kts,y,k,t,rfl,rfl,e,ek,l,h⟩
theorem Er {R:Prop}(e:S a=some (.dK kts)) (h:R):tyM "dict" S (.ref a)/\R:=⟨by delta tyM;dsimp only;rw [e],h⟩
theorem Fz {wa:WE}{R:Src->Sto->Prop}(h:wa σ S λx S1=>∃ d kts,x=.ref d/\S1 d=some (.dK kts)/\∀ od kvs,R ⟨kts.map gK,λS'=>S' d=some (.fK w od kvs kts)⟩ (put S1 d (.fK w od kvs kts))):wiP w wa σ S R:=h
theorem FA {P:Addr->List (Key×T)->Prop}(e:S d=some (.dK kts)) (h:P d kts):∃ d' kts',T.ref d=.ref d'/\S d'=some (.dK kts')/\P d' kts':=⟨d,kts,rfl,e,h⟩
theorem tU {P:Addr->List (Key×T)->Prop}{od:Obj}{kvs:List (Key×V)}(e:S d=some (.fK w od kvs kts)) (h:P d kts):∃ d' od' kvs' kts',S d'=some (.fK w od' kvs' kts')/\P d' kts':=⟨d,od,kvs,kts,e,h⟩
end
end T2
namespace L2
open PySem PySem.Spec PyProof.Rows
end L2
namespace T2
open PySem PySem.Spec PyProof.Rows L2
section
variable {K:Fg}{X:Cx}{H:Hp}{S:Sto}
end
end T2
namespace S6
open PySem PyProof.Rows
def db:Bool->Keyed->Array Keyed->Nat->Nat->Nat->StateT SortSt Sem (Option Nat):=sortPriv% PySem.Builtin.gallop
def dE (left:Bool) (key:Keyed) (arr:Array Keyed) (base i:Nat):StateT SortSt Sem (Option Bool):=do
 let x <- elem' arr (base+i)
 if left then lt' x key else return (<- lt' key x).map (!·)
theorem uX (left:Bool) (key:Keyed) (arr:Array Keyed) (base n hint:Nat):db left key arr base n hint=(do
 let mut lastofs:=0
 let mut ofs:=1
 let mut lo:=0
 let mut hi:=0
 let some right <- dE left key arr base hint|return none
 if right then
  let maxofs:=n - hint
  for _ in [0:n] do
   if ofs≥maxofs then break
   let some more <- dE left key arr base (hint+ofs)|return none
   if !more then break
   lastofs:=ofs
   ofs:=2 * ofs+1
  lo:=hint+lastofs+1
  hi:=hint+min ofs maxofs
 else
  let maxofs:=hint+1
  for _ in [0:n] do
   if ofs≥maxofs then break
   let some found <- dE left key arr base (hint - ofs)|return none
   if found then break
   lastofs:=ofs
   ofs:=2 * ofs+1
  lo:=hint+1 - min ofs maxofs
  hi:=hint - lastofs
 for _ in [0:n] do
  if lo≥hi then break
  let m:=lo+(hi - lo) / 2
  let some more <- dE left key arr base m|return none
  if more then lo:=m+1 else hi:=m
 return some hi):=rfl
section
variable {prog:Program}{w:World}{A:Around}{E:Value->Shared->Prop}{s:Shared}{a₀:Array Keyed}{kd:SortKind}{ρ:Keyed->Nat}{st:SortSt}
theorem hU {x y:Keyed}{Q:Option Bool->SortSt->Prop}(C:Cm prog w A s kd a₀ ρ) (hk:kindOf st=kd) (hx:x∈a₀.toList) (hy:y∈a₀.toList) (h:Q (some (decide (ρ x<ρ y))) st) :
  wpS (model prog w) A E s (lt' x y) Q st:=by
 rw [lt'_eq]
 refine wpS_bind (wpS_get (wpS_bind ?_))
 rw [hk]
 exact wpS_lift (wpAny_attempt (C x y hx hy _ _ ⟨rfl,wpS_pure h⟩))
def Bd (left:Bool) (ρ:Keyed->Nat) (key:Keyed) (arr:Array Keyed) (base i:Nat):Bool:=if left then decide (rk ρ arr (base+i)<ρ key) else decide (rk ρ arr (base+i)<=ρ key)
theorem iH {left:Bool}{key:Keyed}{arr:Array Keyed}{base i:Nat}{Q:Option Bool->SortSt->Prop}(C:Cm prog w A s kd a₀ ρ) (hk:kindOf st=kd) (hkey:key∈a₀.toList) (hm:∀ p∈arr.toList,p∈a₀.toList) (hi:base+i<arr.size)
  (h:Q (some (Bd left ρ key arr base i)) st):wpS (model prog w) A E s (dE left key arr base i) Q st:=by
 have e:arr[base+i]?=some arr[base+i]:=getElem?_pos arr (base+i) hi
 have mp:arr[base+i]∈a₀.toList:=hm _ (by simp)
 unfold dE
 rw [elem'_eq,e]
 refine wpS_bind (wpS_pure ?_)
 have er:rk ρ arr (base+i)=ρ arr[base+i]:=by unfold rk;rw [e];rfl
 unfold Bd at h
 rw [er] at h
 cases left with
 |true=>exact hU C hk mp hkey h
 |false =>
  refine wpS_bind (hU C hk hkey mp (wpS_pure ?_))
  have:(some (decide (ρ key<ρ arr[base+i]))).map (!·)=some (decide (ρ arr[base+i]<=ρ key)):=by
   simp only [Option.map_some,Option.some.injEq]
   rw [Bool.eq_iff_iff];simp
  rw [this]
  exact h
theorem Bd.anti {left:Bool}{key:Keyed}{arr:Array Keyed}{base n i j:Nat}(up:∀ i j,i<=j->j<n->rk ρ arr (base+i)<=rk ρ arr (base+j)) (ij:i<=j) (jn:j<n) (h:Bd left ρ key arr base j=true):Bd left ρ key arr base i=true:=by
 have:=up i j ij jn
 unfold Bd at h ⊢
 cases left<;>simp only [if_true,if_false,Bool.false_eq_true,decide_eq_true_eq] at h ⊢<;>omega
theorem oR {left:Bool}{key:Keyed}{arr:Array Keyed}{base n lo hi:Nat}{Q:Option Nat->SortSt->Prop}(C:Cm prog w A s kd a₀ ρ) (hk:kindOf st=kd) (hkey:key∈a₀.toList) (hm:∀ p∈arr.toList,p∈a₀.toList) (hn:base+n<=arr.size)
  (up:∀ i j,i<=j->j<n->rk ρ arr (base+i)<=rk ρ arr (base+j)) (hl:lo<=hi) (hh:hi<=n) (h1:∀ i,i<lo->Bd left ρ key arr base i=true) (h2:∀ i,hi<=i->i<n->Bd left ρ key arr base i=false)
  (h:∀ k,k<=n->(∀ i,i<k->Bd left ρ key arr base i=true)->(∀ i,k<=i->i<n->Bd left ρ key arr base i=false)->Q (some k) st) :
  wpS (model prog w) A E s (do
   let mut lo:=lo
   let mut hi:=hi
   for _ in [0:n] do
    if lo≥hi then break
    let m:=lo+(hi - lo) / 2
    let some more <- dE left key arr base m|return none
    if more then lo:=m+1 else hi:=m
   return some hi) Q st:=by
 refine wpS_bind (wpS_mono (wpS_forRange (λt c z=>z=st/\∃ l r,c=(none,l,r)/\l<=r/\r<=n/\r+t<=l+n/\(∀ i,i<l->Bd left ρ key arr base i=true)/\(∀ i,r<=i->i<n->Bd left ρ key arr base i=false))
  (Q:=λc z=>z=st/\∃ l r,c=(none,l,r)/\l=r/\r<=n/\(∀ i,i<l->Bd left ρ key arr base i=true)/\(∀ i,r<=i->i<n->Bd left ρ key arr base i=false)) ?_ ?_ ⟨rfl,lo,hi,rfl,hl,hh,by omega,h1,h2⟩) ?_)
 ·rintro t c z t1 t2 ⟨rfl,l,r,rfl,lr,rn,lt,b1,b2⟩
  dsimp only
  split
  ·exact wpS_pure ⟨rfl,l,r,rfl,by omega,rn,b1,b2⟩
  ·refine wpS_bind (iH C hk hkey hm (by omega) ?_)
   dsimp only
   cases g:Bd left ρ key arr base (l+(r - l) / 2) with
   |true=>exact wpS_pure ⟨rfl,_,_,rfl,by omega,rn,by omega,λi i1=>Bd.anti up (by omega) (by omega) g,b2⟩
   |false =>
    refine wpS_pure ⟨rfl,_,_,rfl,by omega,by omega,by omega,b1,λi i1 i2=>?_⟩
    cases g2:Bd left ρ key arr base i with
    |false=>rfl
    |true=>rw [Bd.anti up i1 i2 g2] at g;cases g
 ·rintro c z ⟨rfl,l,r,rfl,lr,rn,lt,b1,b2⟩
  exact ⟨rfl,l,r,rfl,by omega,rn,b1,b2⟩
 ·rintro c z ⟨rfl,l,r,rfl,rfl,rn,b1,b2⟩
  exact wpS_pure (h l rn b1 b2)
theorem bI {left:Bool}{key:Keyed}{arr:Array Keyed}{base n hint:Nat}{Q:Option Nat->SortSt->Prop}(C:Cm prog w A s kd a₀ ρ) (hk:kindOf st=kd) (hkey:key∈a₀.toList) (hm:∀ p∈arr.toList,p∈a₀.toList) (hn:base+n<=arr.size) (hh:hint<n)
  (up:∀ i j,i<=j->j<n->rk ρ arr (base+i)<=rk ρ arr (base+j))
  (h:∀ k,k<=n->(∀ i,i<k->Bd left ρ key arr base i=true)->(∀ i,k<=i->i<n->Bd left ρ key arr base i=false)->Q (some k) st) :
  wpS (model prog w) A E s (db left key arr base n hint) Q st:=by
 rw [uX]
 dsimp only
 refine wpS_bind (iH C hk hkey hm (by omega) ?_)
 dsimp only
 cases g:Bd left ρ key arr base hint with
 |true =>
  simp only [if_true]
  refine wpS_bind (wpS_mono (wpS_forRange (λt c z=>z=st/\∃ l o,c=(none,l,o)/\l<o/\t+1<=o/\hint+l<n/\Bd left ρ key arr base (hint+l)=true)
   (Q:=λc z=>z=st/\∃ l o,c=(none,l,o)/\l<o/\hint+l<n/\Bd left ρ key arr base (hint+l)=true/\(n - hint<=o\/Bd left ρ key arr base (hint+o)=false)) ?_ ?_ ⟨rfl,0,1,rfl,by omega,by omega,by omega,g⟩) ?_)
  ·rintro t c z t1 t2 ⟨rfl,l,o,rfl,lo,to,ln,bl⟩
   dsimp only
   split
   ·exact wpS_pure ⟨rfl,l,o,rfl,lo,ln,bl,.inl (by omega)⟩
   ·refine wpS_bind (iH C hk hkey hm (by omega) ?_)
    dsimp only
    cases g2:Bd left ρ key arr base (hint+o) with
    |true=>exact wpS_pure ⟨rfl,_,_,rfl,by omega,by omega,by omega,g2⟩
    |false=>exact wpS_pure ⟨rfl,l,o,rfl,lo,ln,bl,.inr g2⟩
  ·rintro c z ⟨rfl,l,o,rfl,lo,to,ln,bl⟩
   exact ⟨rfl,l,o,rfl,lo,ln,bl,.inl (by omega)⟩
  ·rintro c z ⟨rfl,l,o,rfl,lo,ln,bl,he⟩
   dsimp only
   refine oR C hk hkey hm hn up (by omega) (by omega) (λi i1=>Bd.anti up (by omega) ln bl) (λi i1 i2=>?_) h
   rcases he with he|he
   ·omega
   ·cases g2:Bd left ρ key arr base i with
    |false=>rfl
    |true=>rw [Bd.anti up (by omega) i2 g2] at he;cases he
 |false =>
  simp only [Bool.false_eq_true,if_false]
  refine wpS_bind (wpS_mono (wpS_forRange (λt c z=>z=st/\∃ l o,c=(none,l,o)/\l<o/\t+1<=o/\l<=hint/\Bd left ρ key arr base (hint - l)=false)
   (Q:=λc z=>z=st/\∃ l o,c=(none,l,o)/\l<o/\l<=hint/\Bd left ρ key arr base (hint - l)=false/\(hint+1<=o\/Bd left ρ key arr base (hint - o)=true)) ?_ ?_ ⟨rfl,0,1,rfl,by omega,by omega,by omega,g⟩) ?_)
  ·rintro t c z t1 t2 ⟨rfl,l,o,rfl,lo,to,ln,bl⟩
   dsimp only
   split
   ·exact wpS_pure ⟨rfl,l,o,rfl,lo,ln,bl,.inl (by omega)⟩
   ·refine wpS_bind (iH C hk hkey hm (by omega) ?_)
    dsimp only
    cases g2:Bd left ρ key arr base (hint - o) with
    |false=>exact wpS_pure ⟨rfl,_,_,rfl,by omega,by omega,by omega,g2⟩
    |true=>exact wpS_pure ⟨rfl,l,o,rfl,lo,ln,bl,.inr g2⟩
  ·rintro c z ⟨rfl,l,o,rfl,lo,to,ln,bl⟩
   exact ⟨rfl,l,o,rfl,lo,ln,bl,.inl (by omega)⟩
  ·rintro c z ⟨rfl,l,o,rfl,lo,ln,bl,he⟩
   dsimp only
   refine oR C hk hkey hm hn up (by omega) (by omega) (λi i1=>?_) (λi i1 i2=>?_) h
   ·rcases he with he|he
    ·omega
    ·by_cases q:hint+1<=o
     ·omega
     ·exact Bd.anti up (by omega) (by omega) he
   ·cases g2:Bd left ρ key arr base i with
    |false=>rfl
    |true=>rw [Bd.anti up i1 i2 g2] at bl;cases bl
end
end S6
namespace S6
open PySem PyProof.Rows
def kc:Array Keyed->Array Keyed->StateT SortSt Sem (Array Keyed):=sortPriv% PySem.Builtin.mergeLo
abbrev dw (g:Nat) (s:SortSt):SortSt:=SortSt.mk' (kindOf s) (arrOf s) (pendingOf s) g (failedOf s)
theorem uI (a b:Array Keyed):kc a b=(do
 rule "list.sort.merge-lo"
 let total:=a.size+b.size
 let done (out:Array Keyed) (ia ib:Nat):=out++a.extract ia a.size++b.extract ib b.size
 let lastOfA (out:Array Keyed) (ia ib:Nat):=out++b.extract ib b.size++a.extract ia a.size
 let mut out:Array Keyed:=#[<- elem' b 0]
 let mut ia:=0
 let mut ib:=1
 if ib==b.size then return done out ia ib
 if ia+1==a.size then return lastOfA out ia ib
 let mut minGallop:=gallopOf (<- get)
 for _ in [0:total] do
  let mut acount:=0
  let mut bcount:=0
  for _ in [0:total] do
   let some bWins <- lt' (<- elem' b ib) (<- elem' a ia)|return done out ia ib
   if bWins then
    out:=out.push (<- elem' b ib);ib:=ib+1;bcount:=bcount+1;acount:=0
    if ib==b.size then return done out ia ib
    if bcount≥minGallop then break
   else
    out:=out.push (<- elem' a ia);ia:=ia+1;acount:=acount+1;bcount:=0
    if ia+1==a.size then return lastOfA out ia ib
    if acount≥minGallop then break
  rule "list.sort.gallop"
  minGallop:=minGallop+1
  for _ in [0:total] do
   if minGallop>1 then minGallop:=minGallop - 1
   modify (dw minGallop)
   let some k <- db false (<- elem' b ib) a ia (a.size - ia) 0|return done out ia ib
   acount:=k
   if k>0 then
    out:=out++a.extract ia (ia+k);ia:=ia+k
    if ia+1==a.size then return lastOfA out ia ib
    if ia==a.size then return done out ia ib
   out:=out.push (<- elem' b ib);ib:=ib+1
   if ib==b.size then return done out ia ib
   let some k <- db true (<- elem' a ia) b ib (b.size - ib) 0|return done out ia ib
   bcount:=k
   if k>0 then
    out:=out++b.extract ib (ib+k);ib:=ib+k
    if ib==b.size then return done out ia ib
   out:=out.push (<- elem' a ia);ia:=ia+1
   if ia+1==a.size then return lastOfA out ia ib
   if acount<7&&bcount<7 then break
  minGallop:=minGallop+1
  modify (dw minGallop)
 unsupported "internal:list.sort.merge-bound"):=rfl
section
variable {prog:Program}{w:World}{A:Around}{E:Value->Shared->Prop}{s:Shared}{a₀:Array Keyed}{kd:SortKind}{ρ:Keyed->Nat}{st:SortSt}
structure Sm (st z:SortSt):Prop where
 kind:kindOf z=kindOf st
 arr:arrOf z=arrOf st
 pend:pendingOf z=pendingOf st
 fail:failedOf z=failedOf st
def Ri (ρ:Keyed->Nat) (l:List Keyed):Prop:=l.Pairwise λx y=>ρ x<=ρ y
structure Lo (ρ:Keyed->Nat) (a b out:Array Keyed) (ia ib:Nat):Prop where
 ri:Ri ρ out.toList
 pm:out.toList.Perm (a.toList.take ia++b.toList.take ib)
 la:∀ x∈out.toList,∀ y∈a.toList.drop ia,ρ x<=ρ y
 lb:∀ x∈out.toList,∀ y∈b.toList.drop ib,ρ x<=ρ y
def Mg (ρ:Keyed->Nat) (a b r:Array Keyed):Prop:=Ri ρ r.toList/\r.toList.Perm (a.toList++b.toList)
variable {a b out:Array Keyed}{ia ib:Nat}
theorem i5 (a:Array Keyed) (i:Nat):(a.extract i a.size).toList=a.toList.drop i:=by
 simp only [Array.toList_extract,List.extract_eq_take_drop]
 rw [List.take_of_length_le];simp
theorem Ri.app {l m:List Keyed}(h1:Ri ρ l) (h2:Ri ρ m) (h:∀ x∈l,∀ y∈m,ρ x<=ρ y):Ri ρ (l++m):=List.pairwise_append.mpr ⟨h1,h2,h⟩
theorem Lo.done (L:Lo ρ a b out ia ib) (ra:Ri ρ a.toList) (h:ib=b.size):Mg ρ a b (out++a.extract ia a.size++b.extract ib b.size):=by
 subst h
 have e:(out++a.extract ia a.size++b.extract b.size b.size).toList=out.toList++a.toList.drop ia:=by rw [Array.toList_append,Array.toList_append,i5,i5,List.drop_of_length_le (l:=b.toList) (i:=b.size) (by simp),List.append_nil]
 unfold Mg
 rw [e]
 refine ⟨L.ri.app (ra.sublist (List.drop_sublist _ _)) L.la,?_⟩
 have p:=L.pm
 rw [show b.toList.take b.size=b.toList by rw [List.take_of_length_le];simp] at p
 refine (p.append_right _).trans ?_
 rw [List.append_assoc]
 refine (List.Perm.append_left _ List.perm_append_comm).trans ?_
 rw [<- List.append_assoc,List.take_append_drop]
theorem Lo.last (L:Lo ρ a b out ia ib) (rb:Ri ρ b.toList) (ra:Ri ρ a.toList) (h:∀ x∈b.toList,∀ y∈a.toList.drop ia,ρ x<=ρ y):Mg ρ a b (out++b.extract ib b.size++a.extract ia a.size):=by
 have e:(out++b.extract ib b.size++a.extract ia a.size).toList=out.toList++b.toList.drop ib++a.toList.drop ia:=by rw [Array.toList_append,Array.toList_append,i5,i5]
 unfold Mg
 rw [e]
 refine ⟨(L.ri.app (rb.sublist (List.drop_sublist _ _)) L.lb).app (ra.sublist (List.drop_sublist _ _)) λx hx y hy=>?_,?_⟩
 ·rcases List.mem_append.mp hx with q|q
  ·exact L.la x q y hy
  ·exact h x (List.mem_of_mem_drop q) y hy
 ·refine ((L.pm.append_right _).append_right _).trans ?_
  rw [List.append_assoc (a.toList.take ia),List.take_append_drop]
  rw [List.append_assoc]
  refine (List.Perm.append_left _ List.perm_append_comm).trans ?_
  rw [<- List.append_assoc,List.take_append_drop]
theorem oA (l:List Keyed) (i k:Nat):l.take (i+k)=l.take i++(l.drop i).take k:=List.take_add
theorem oS {l:List Keyed}{i k:Nat}{y:Keyed}(h:y∈l.drop (i+k)):y∈l.drop i:=by
 rw [<- List.drop_drop] at h
 exact List.mem_of_mem_drop h
theorem Ri.cut {l:List Keyed}(h:Ri ρ l){i k:Nat}{x y:Keyed}(hx:x∈(l.drop i).take k) (hy:y∈l.drop (i+k)):ρ x<=ρ y:=by
 have:=h.sublist (List.drop_sublist i l)
 rw [<- List.take_append_drop k (l.drop i)] at this
 rw [<- List.drop_drop] at hy
 exact (List.pairwise_append.mp this).2.2 x hx y hy
theorem Lo.stepA {out':Array Keyed}{k:Nat}(L:Lo ρ a b out ia ib) (ra:Ri ρ a.toList) (e:out'.toList=out.toList++(a.toList.drop ia).take k) (hy:∀ x∈(a.toList.drop ia).take k,∀ y∈b.toList.drop ib,ρ x<=ρ y):Lo ρ a b out' (ia+k) ib:=by
 refine ⟨?_,?_,?_,?_⟩
 ·rw [e]
  exact L.ri.app ((ra.sublist (List.drop_sublist _ _)).sublist (List.take_sublist _ _)) λx hx y hy'=>L.la x hx y (List.mem_of_mem_take hy')
 ·rw [e,oA]
  refine (L.pm.append_right _).trans ?_
  rw [List.append_assoc,List.append_assoc]
  exact List.Perm.append_left _ List.perm_append_comm
 ·intro x hx y hy'
  rw [e] at hx
  rcases List.mem_append.mp hx with q|q
  ·exact L.la x q y (oS hy')
  ·exact ra.cut q hy'
 ·intro x hx y hy'
  rw [e] at hx
  rcases List.mem_append.mp hx with q|q
  ·exact L.lb x q y hy'
  ·exact hy x q y hy'
theorem Lo.stepB {out':Array Keyed}{k:Nat}(L:Lo ρ a b out ia ib) (rb:Ri ρ b.toList) (e:out'.toList=out.toList++(b.toList.drop ib).take k) (hy:∀ x∈(b.toList.drop ib).take k,∀ y∈a.toList.drop ia,ρ x<=ρ y):Lo ρ a b out' ia (ib+k):=by
 refine ⟨?_,?_,?_,?_⟩
 ·rw [e]
  exact L.ri.app ((rb.sublist (List.drop_sublist _ _)).sublist (List.take_sublist _ _)) λx hx y hy'=>L.lb x hx y (List.mem_of_mem_take hy')
 ·rw [e,oA,<- List.append_assoc]
  exact L.pm.append_right _
 ·intro x hx y hy'
  rw [e] at hx
  rcases List.mem_append.mp hx with q|q
  ·exact L.la x q y hy'
  ·exact hy x q y hy'
 ·intro x hx y hy'
  rw [e] at hx
  rcases List.mem_append.mp hx with q|q
  ·exact L.lb x q y (oS hy')
  ·exact rb.cut q hy'
theorem kN {x:Keyed}{i:Nat}{c:Array Keyed}(h:i<c.size) (e:c[i]?=some x):(out.push x).toList=out.toList++(c.toList.drop i).take 1:=by
 rw [Array.toList_push,List.drop_eq_getElem_cons (by simpa using h)]
 rw [getElem?_pos c i h] at e
 cases e
 simp
theorem fj {i k:Nat}{c:Array Keyed}:(out++c.extract i (i+k)).toList=out.toList++(c.toList.drop i).take k:=by
 rw [Array.toList_append,Array.toList_extract,List.extract_eq_take_drop,Nat.add_sub_cancel_left]
theorem Ri.le {l:List Keyed}(h:Ri ρ l){i:Nat}{x y:Keyed}(e:l[i]?=some x) (hy:y∈l.drop i):ρ x<=ρ y:=by
 obtain ⟨hi,rfl⟩:=List.getElem?_eq_some_iff.mp e
 have:=h.sublist (List.drop_sublist i l)
 rw [List.drop_eq_getElem_cons hi] at this hy
 rcases List.mem_cons.mp hy with rfl|q
 ·exact Nat.le_refl _
 ·exact (List.pairwise_cons.mp this).1 y q
theorem au {c:Array Keyed}{i:Nat}{x:Keyed}(e:c[i]?=some x):rk ρ c i=ρ x:=by unfold rk;rw [e];rfl
theorem bY {c:Array Keyed}(h:Ri ρ c.toList){base n:Nat}(hn:base+n<=c.size):∀ i j,i<=j->j<n->rk ρ c (base+i)<=rk ρ c (base+j):=λi j ij jn=>by
 rw [au (getElem?_pos c (base+i) (by omega)),au (getElem?_pos c (base+j) (by omega))]
 rcases Nat.lt_or_ge i j with q|q
 ·have:=List.pairwise_iff_getElem.mp h (base+i) (base+j) (by simp;omega) (by simp;omega) (by omega)
  simpa using this
 ·obtain rfl:i=j:=by omega
  exact Nat.le_refl _
theorem ba {c:Array Keyed}{i k:Nat}{u:Keyed}(h:u∈(c.toList.drop i).take k):∃ j,j<k/\c[i+j]?=some u:=by
 obtain ⟨j,hj,e⟩:=List.mem_iff_getElem.mp h
 rw [List.length_take,List.length_drop] at hj
 refine ⟨j,by omega,?_⟩
 rw [List.getElem_take,List.getElem_drop] at e
 rw [<- e,getElem?_pos c (i+j) (by simp at hj;omega)]
 simp
theorem ax {c:Array Keyed}{i:Nat}{Q:Keyed->SortSt->Prop}(h:i<c.size) (q:∀ x,c[i]?=some x->x∈c.toList->Q x st):wpS (model prog w) A E s (elem' c i) Q st:=by
 have e:c[i]?=some c[i]:=getElem?_pos c i h
 rw [elem'_eq,e]
 exact wpS_pure (q _ e (by simp))
theorem vS {Q:Array Keyed->SortSt->Prop}(C:Cm prog w A s kd a₀ ρ) (hk:kindOf st=kd) (ma:∀ p∈a.toList,p∈a₀.toList) (mb:∀ p∈b.toList,p∈a₀.toList) (ra:Ri ρ a.toList) (rb:Ri ρ b.toList) (h1:1<=a.size) (h2:1<=b.size)
  (hf:∀ x,b[0]?=some x->∀ y∈a.toList,ρ x<=ρ y) (hl:∀ y,a[a.size - 1]?=some y->∀ x∈b.toList,ρ x<ρ y) (h:∀ r z,Mg ρ a b r->Sm st z->Q r z):wpS (model prog w) A E s (kc a b) Q st:=by
 rw [uI]
 refine wpS_bind (wpS_lift (wpAny_rule ⟨rfl,?_⟩))
 dsimp only
 refine wpS_bind (ax (by omega) λx0 e0 m0=>?_)
 have L0:Lo ρ a b #[x0] 0 1:=by
  have L:Lo ρ a b #[] 0 0:=⟨List.Pairwise.nil,by simp,by simp,by simp⟩
  refine L.stepB (k:=1) rb (kN (out:=#[]) (by omega) e0) λx hx y hy=>?_
  rw [List.drop_eq_getElem_cons (by simp;omega)] at hx
  simp only [List.take_succ_cons,List.take_zero,List.mem_singleton] at hx
  rw [getElem?_pos b 0 (by omega)] at e0
  cases e0
  subst hx
  exact hf _ (getElem?_pos b 0 (by omega)) y hy
 have fin:∀ out ia ib,Lo ρ a b out ia ib->ia+1=a.size->Mg ρ a b (out++b.extract ib b.size++a.extract ia a.size):=λout ia ib L e=>by
  refine L.last rb ra λx hx y hy=>?_
  have ed:a.toList.drop ia=[a[ia]]:=by
   rw [List.drop_eq_getElem_cons (by simp;omega),List.drop_of_length_le (by simp;omega)];simp
  rw [ed,List.mem_singleton] at hy
  subst hy
  exact Nat.le_of_lt (hl _ (by rw [show a.size - 1=ia by omega];exact getElem?_pos a ia (by omega)) x hx)
 have sm0:Sm st st:=⟨rfl,rfl,rfl,rfl⟩
 by_cases q1:(1==b.size)=true
 ·rw [if_pos q1]
  exact wpS_pure (h _ _ (L0.done ra (by simpa using q1)) sm0)
 rw [if_neg q1]
 by_cases q2:(0+1==a.size)=true
 ·rw [if_pos q2]
  exact wpS_pure (h _ _ (fin _ _ _ L0 (by simpa using q2)) sm0)
 rw [if_neg q2]
 refine wpS_bind (wpS_get ?_)
 have q1':1≠b.size:=by simpa using q1
 have q2':1≠a.size:=by simpa using q2
 have geta:∀ i,i<a.size->∃ x,a[i]?=some x/\x∈a.toList:=λi hi=>⟨_,getElem?_pos a i hi,by simp⟩
 have ltof:∀ {c:Array Keyed}{i:Nat}{x:Keyed},c[i]?=some x->c.toList[i]?=some x:=fun {c i x} e=>by simpa using e
 have Go1:∀ {out:Array Keyed}{ia ib:Nat}{x y:Keyed},Lo ρ a b out ia ib->ib<b.size->b[ib]?=some x->a[ia]?=some y->ρ x<ρ y->Lo ρ a b (out.push x) ia (ib+1):=fun {out ia ib x y} L hb ex ey xy =>
  L.stepB (k:=1) rb (kN hb ex) λu hu v hv=>by
   have hu':u=x:=by
    rw [List.drop_eq_getElem_cons (by simp;omega)] at hu
    simp only [List.take_succ_cons,List.take_zero,List.mem_singleton] at hu
    rw [getElem?_pos b ib hb] at ex;cases ex;simpa using hu
   subst hu'
   have:=ra.le (ltof ey) hv
   omega
 have Go2:∀ {out:Array Keyed}{ia ib:Nat}{x y:Keyed},Lo ρ a b out ia ib->ia<a.size->b[ib]?=some x->a[ia]?=some y->ρ y<=ρ x->Lo ρ a b (out.push y) (ia+1) ib:=fun {out ia ib x y} L ha ex ey xy =>
  L.stepA (k:=1) ra (kN ha ey) λu hu v hv=>by
   have hu':u=y:=by
    rw [List.drop_eq_getElem_cons (by simp;omega)] at hu
    simp only [List.take_succ_cons,List.take_zero,List.mem_singleton] at hu
    rw [getElem?_pos a ia ha] at ey;cases ey;simpa using hu
   subst hu'
   have:=rb.le (ltof ex) hv
   omega
 refine wpS_bind (wpS_mono (wpS_forRange
  (λt c z=>Sm st z/\∃ out ia ib g,c=(none,out,ia,ib,g)/\Lo ρ a b out ia ib/\ia+1<a.size/\ib<b.size/\t<=ia+ib)
  (Q:=λc z=>Sm st z/\∃ r x,c=(some r,x)/\Mg ρ a b r) ?_ ?_ ⟨sm0,_,_,_,_,rfl,L0,by omega,by omega,Nat.zero_le _⟩) ?_)
 ·rintro t c z t1 t2 ⟨sm,out,ia,ib,g,rfl,L,ha,hb,ht⟩
  dsimp only
  refine wpS_bind (wpS_mono (wpS_forRange
   (λu c y=>y=z/\∃ out' ia' ib' p q,c=(none,out',ia',ib',p,q)/\Lo ρ a b out' ia' ib'/\ia'+1<a.size/\ib'<b.size/\ia+ib+u<=ia'+ib')
   (Q:=λc y=>y=z/\((∃ r x,c=(some r,x)/\Mg ρ a b r)\/∃ out' ia' ib' p q,c=(none,out',ia',ib',p,q)/\Lo ρ a b out' ia' ib'/\ia'+1<a.size/\ib'<b.size/\ia+ib+1<=ia'+ib')) ?_ ?_ ⟨rfl,_,_,_,_,_,rfl,L,ha,hb,Nat.le_refl _⟩) ?_)
  ·rintro u c y u1 u2 ⟨rfl,out',ia',ib',p,q,rfl,L',ha',hb',hu'⟩
   dsimp only
   refine wpS_bind (ax (by omega) λx ex mx=>wpS_bind (ax (by omega) λv ev mv=>wpS_bind (hU C (sm.kind.trans hk) (mb _ mx) (ma _ mv) ?_)))
   dsimp only
   by_cases g1:ρ x<ρ v
   ·rw [decide_eq_true g1,if_pos rfl]
    refine wpS_bind (ax (by omega) λx2 ex2 _=>?_)
    rw [ex] at ex2;cases ex2
    have L2:=Go1 L' hb' ex ev g1
    by_cases g2:(ib'+1==b.size)=true
    ·rw [if_pos g2]
     exact wpS_pure ⟨rfl,.inl ⟨_,_,rfl,L2.done ra (by simpa using g2)⟩⟩
    ·rw [if_neg g2]
     have g2':ib'+1≠b.size:=by simpa using g2
     by_cases g3:q+1≥g
     ·rw [if_pos g3]
      exact wpS_pure ⟨rfl,.inr ⟨_,_,_,_,_,rfl,L2,ha',by omega,by omega⟩⟩
     ·rw [if_neg g3]
      exact wpS_pure ⟨rfl,_,_,_,_,_,rfl,L2,ha',by omega,by omega⟩
   ·rw [decide_eq_false g1,if_neg (by decide)]
    refine wpS_bind (ax (by omega) λv2 ev2 _=>?_)
    rw [ev] at ev2;cases ev2
    have L2:=Go2 L' (by omega) ex ev (Nat.le_of_not_lt g1)
    by_cases g2:(ia'+1+1==a.size)=true
    ·rw [if_pos g2]
     exact wpS_pure ⟨rfl,.inl ⟨_,_,rfl,fin _ _ _ L2 (by simpa using g2)⟩⟩
    ·rw [if_neg g2]
     have g2':ia'+1+1≠a.size:=by simpa using g2
     by_cases g3:p+1≥g
     ·rw [if_pos g3]
      exact wpS_pure ⟨rfl,.inr ⟨_,_,_,_,_,rfl,L2,by omega,hb',by omega⟩⟩
     ·rw [if_neg g3]
      exact wpS_pure ⟨rfl,_,_,_,_,_,rfl,L2,by omega,hb',by omega⟩
  ·rintro c y ⟨rfl,out',ia',ib',p,q,rfl,L',ha',hb',hu'⟩
   omega
  ·rintro c y ⟨rfl,⟨r,x,rfl,hr⟩|⟨out',ia',ib',p,q,rfl,L',ha',hb',hu'⟩⟩
   ·exact wpS_pure ⟨sm,r,_,rfl,hr⟩
   dsimp only
   refine wpS_bind (wpS_lift (wpAny_rule ⟨rfl,?_⟩))
   refine wpS_bind (wpS_mono (wpS_forRange
    (λu c y=>Sm st y/\∃ out2 ia2 ib2 g2 p q,c=(none,out2,ia2,ib2,g2,p,q)/\Lo ρ a b out2 ia2 ib2/\ia2+1<a.size/\ib2<b.size/\ia+ib+1+u<=ia2+ib2)
    (Q:=λc y=>Sm st y/\((∃ r x,c=(some r,x)/\Mg ρ a b r)\/∃ out2 ia2 ib2 g2 p q,c=(none,out2,ia2,ib2,g2,p,q)/\Lo ρ a b out2 ia2 ib2/\ia2+1<a.size/\ib2<b.size/\ia+ib+1<=ia2+ib2)) ?_ ?_ ⟨sm,_,_,_,_,_,_,rfl,L',ha',hb',by omega⟩) ?_)
   ·rintro u c y2 u1 u2 ⟨sm2,out2,ia2,ib2,g2,p2,q2,rfl,L2,ha2,hb2,hu2⟩
    dsimp only
    by_cases gg:g2>1
    ·rw [if_pos gg]
     refine wpS_bind (wpS_modify ?_)
     have smz:Sm st (dw (g2 - 1) y2):=⟨sm2.kind,sm2.arr,sm2.pend,sm2.fail⟩
     refine wpS_bind (ax (by omega) λx ex mx=>wpS_bind (bI C (smz.kind.trans hk) (mb _ mx) ma (by omega) (by omega) (bY ra (by omega)) λk kn k1 k2=>?_))
     dsimp only
     have kl:ia2+k<a.size:=by
      rcases Nat.lt_or_ge (ia2+k) a.size with q|q
      ·exact q
      ·have q2:=k1 (a.size - 1 - ia2) (by omega)
       unfold Bd at q2
       simp only [Bool.false_eq_true,if_false,decide_eq_true_eq] at q2
       rw [show ia2+(a.size - 1 - ia2)=a.size - 1 by omega,au (getElem?_pos a (a.size - 1) (by omega))] at q2
       have:=hl _ (getElem?_pos a (a.size - 1) (by omega)) x mx
       omega
     by_cases gk:k>0
     ·rw [if_pos gk]
      have LA:=L2.stepA (k:=k) (out':=_) ra (fj (k:=k)) λu hu w' hw'=>by
       obtain ⟨j,hj,ej⟩:=ba hu
       have q:=k1 j hj
       unfold Bd at q
       simp only [Bool.false_eq_true,if_false,decide_eq_true_eq] at q
       rw [au ej] at q
       have:=rb.le (ltof ex) hw'
       omega
      by_cases g5:(ia2+k+1==a.size)=true
      ·rw [if_pos g5]
       exact wpS_pure ⟨smz,.inl ⟨_,_,rfl,fin _ _ _ LA (by simpa using g5)⟩⟩
      rw [if_neg g5]
      have g5':ia2+k+1≠a.size:=by simpa using g5
      rw [if_neg (by simp;omega)]
      have hi2:ia2+k+1<a.size:=by omega
      obtain ⟨y2,ey2,my2⟩:=geta (ia2+k) (by omega)
      have LB:=Go1 LA hb2 ex ey2 (by
       have q:=k2 k (Nat.le_refl _) (by omega)
       unfold Bd at q
       simp only [Bool.false_eq_true,if_false,decide_eq_false_iff_not,Nat.add_zero] at q
       rw [au ey2] at q
       omega)
      refine wpS_bind (ax (by omega) λx2 ex2 _=>?_)
      rw [ex] at ex2;cases ex2
      by_cases g6:(ib2+1==b.size)=true
      ·rw [if_pos g6]
       exact wpS_pure ⟨smz,.inl ⟨_,_,rfl,LB.done ra (by simpa using g6)⟩⟩
      rw [if_neg g6]
      have g6':ib2+1≠b.size:=by simpa using g6
      refine wpS_bind (ax (by omega) λv ev mv=>wpS_bind (bI C (smz.kind.trans hk) (ma _ mv) mb (by omega) (by omega) (bY rb (by omega)) λk' kn' k1' k2'=>?_))
      dsimp only
      by_cases gk':k'>0
      ·rw [if_pos gk']
       have LC:=LB.stepB (k:=k') (out':=_) rb (fj (k:=k')) λu hu w' hw'=>by
        obtain ⟨j,hj,ej⟩:=ba hu
        have q:=k1' j hj
        unfold Bd at q
        simp only [if_true,decide_eq_true_eq] at q
        rw [au ej] at q
        have:=ra.le (ltof ev) hw'
        omega
       by_cases g7:(ib2+1+k'==b.size)=true
       ·rw [if_pos g7]
        exact wpS_pure ⟨smz,.inl ⟨_,_,rfl,LC.done ra (by simpa using g7)⟩⟩
       rw [if_neg g7]
       have g7':ib2+1+k'≠b.size:=by simpa using g7
       have hx3:ib2+1+k'<b.size:=by omega
       have LD:=Go2 LC (show ia2+k<a.size by omega) (getElem?_pos b (ib2+1+k') hx3) ev (by
      have q:=k2' k' (Nat.le_refl _) (by omega)
      unfold Bd at q
      simp only [if_true,decide_eq_false_iff_not,Nat.add_zero] at q
      rw [au (by first|exact getElem?_pos b _ hx3|simpa using getElem?_pos b _ hx3)] at q
      omega)
       refine wpS_bind (ax (by omega) λv2 ev2 _=>?_)
       rw [ev] at ev2;cases ev2
       by_cases g8:(ia2+k+1+1==a.size)=true
       ·rw [if_pos g8]
        exact wpS_pure ⟨smz,.inl ⟨_,_,rfl,fin _ _ _ LD (by simpa using g8)⟩⟩
       rw [if_neg g8]
       have g8':ia2+k+1+1≠a.size:=by simpa using g8
       by_cases g9:(decide (k<7)&&decide (k'<7))=true
       ·rw [if_pos g9]
        exact wpS_pure ⟨smz,.inr ⟨_,_,_,_,_,_,rfl,LD,by omega,by omega,by omega⟩⟩
       ·rw [if_neg g9]
        exact wpS_pure ⟨smz,_,_,_,_,_,_,rfl,LD,by omega,by omega,by omega⟩
      ·rw [if_neg gk']
       have hk0':k'=0:=by omega
       have hx3:ib2+1<b.size:=by omega
       have LD:=Go2 LB (show ia2+k<a.size by omega) (getElem?_pos b (ib2+1) hx3) ev (by
      have q:=k2' 0 (by omega) (by omega)
      unfold Bd at q
      simp only [if_true,decide_eq_false_iff_not,Nat.add_zero] at q
      rw [au (by first|exact getElem?_pos b _ hx3|simpa using getElem?_pos b _ hx3)] at q
      omega)
       refine wpS_bind (ax (by omega) λv2 ev2 _=>?_)
       rw [ev] at ev2;cases ev2
       by_cases g8:(ia2+k+1+1==a.size)=true
       ·rw [if_pos g8]
        exact wpS_pure ⟨smz,.inl ⟨_,_,rfl,fin _ _ _ LD (by simpa using g8)⟩⟩
       rw [if_neg g8]
       have g8':ia2+k+1+1≠a.size:=by simpa using g8
       by_cases g9:(decide (k<7)&&decide (k'<7))=true
       ·rw [if_pos g9]
        exact wpS_pure ⟨smz,.inr ⟨_,_,_,_,_,_,rfl,LD,by omega,by omega,by omega⟩⟩
       ·rw [if_neg g9]
        exact wpS_pure ⟨smz,_,_,_,_,_,_,rfl,LD,by omega,by omega,by omega⟩
     ·rw [if_neg gk]
      have hk0:k=0:=by omega
      have hi2:ia2+1<a.size:=by omega
      obtain ⟨y2,ey2,my2⟩:=geta (ia2) (by omega)
      have LB:=Go1 L2 hb2 ex ey2 (by
       have q:=k2 0 (by omega) (by omega)
       unfold Bd at q
       simp only [Bool.false_eq_true,if_false,decide_eq_false_iff_not,Nat.add_zero] at q
       rw [au ey2] at q
       omega)
      refine wpS_bind (ax (by omega) λx2 ex2 _=>?_)
      rw [ex] at ex2;cases ex2
      by_cases g6:(ib2+1==b.size)=true
      ·rw [if_pos g6]
       exact wpS_pure ⟨smz,.inl ⟨_,_,rfl,LB.done ra (by simpa using g6)⟩⟩
      rw [if_neg g6]
      have g6':ib2+1≠b.size:=by simpa using g6
      refine wpS_bind (ax (by omega) λv ev mv=>wpS_bind (bI C (smz.kind.trans hk) (ma _ mv) mb (by omega) (by omega) (bY rb (by omega)) λk' kn' k1' k2'=>?_))
      dsimp only
      by_cases gk':k'>0
      ·rw [if_pos gk']
       have LC:=LB.stepB (k:=k') (out':=_) rb (fj (k:=k')) λu hu w' hw'=>by
        obtain ⟨j,hj,ej⟩:=ba hu
        have q:=k1' j hj
        unfold Bd at q
        simp only [if_true,decide_eq_true_eq] at q
        rw [au ej] at q
        have:=ra.le (ltof ev) hw'
        omega
       by_cases g7:(ib2+1+k'==b.size)=true
       ·rw [if_pos g7]
        exact wpS_pure ⟨smz,.inl ⟨_,_,rfl,LC.done ra (by simpa using g7)⟩⟩
       rw [if_neg g7]
       have g7':ib2+1+k'≠b.size:=by simpa using g7
       have hx3:ib2+1+k'<b.size:=by omega
       have LD:=Go2 LC (show ia2<a.size by omega) (getElem?_pos b (ib2+1+k') hx3) ev (by
      have q:=k2' k' (Nat.le_refl _) (by omega)
      unfold Bd at q
      simp only [if_true,decide_eq_false_iff_not,Nat.add_zero] at q
      rw [au (by first|exact getElem?_pos b _ hx3|simpa using getElem?_pos b _ hx3)] at q
      omega)
       refine wpS_bind (ax (by omega) λv2 ev2 _=>?_)
       rw [ev] at ev2;cases ev2
       by_cases g8:(ia2+1+1==a.size)=true
       ·rw [if_pos g8]
        exact wpS_pure ⟨smz,.inl ⟨_,_,rfl,fin _ _ _ LD (by simpa using g8)⟩⟩
       rw [if_neg g8]
       have g8':ia2+1+1≠a.size:=by simpa using g8
       by_cases g9:(decide (k<7)&&decide (k'<7))=true
       ·rw [if_pos g9]
        exact wpS_pure ⟨smz,.inr ⟨_,_,_,_,_,_,rfl,LD,by omega,by omega,by omega⟩⟩
       ·rw [if_neg g9]
        exact wpS_pure ⟨smz,_,_,_,_,_,_,rfl,LD,by omega,by omega,by omega⟩
      ·rw [if_neg gk']
       have hk0':k'=0:=by omega
       have hx3:ib2+1<b.size:=by omega
       have LD:=Go2 LB (show ia2<a.size by omega) (getElem?_pos b (ib2+1) hx3) ev (by
      have q:=k2' 0 (by omega) (by omega)
      unfold Bd at q
      simp only [if_true,decide_eq_false_iff_not,Nat.add_zero] at q
      rw [au (by first|exact getElem?_pos b _ hx3|simpa using getElem?_pos b _ hx3)] at q
      omega)
       refine wpS_bind (ax (by omega) λv2 ev2 _=>?_)
       rw [ev] at ev2;cases ev2
       by_cases g8:(ia2+1+1==a.size)=true
       ·rw [if_pos g8]
        exact wpS_pure ⟨smz,.inl ⟨_,_,rfl,fin _ _ _ LD (by simpa using g8)⟩⟩
       rw [if_neg g8]
       have g8':ia2+1+1≠a.size:=by simpa using g8
       by_cases g9:(decide (k<7)&&decide (k'<7))=true
       ·rw [if_pos g9]
        exact wpS_pure ⟨smz,.inr ⟨_,_,_,_,_,_,rfl,LD,by omega,by omega,by omega⟩⟩
       ·rw [if_neg g9]
        exact wpS_pure ⟨smz,_,_,_,_,_,_,rfl,LD,by omega,by omega,by omega⟩
    ·rw [if_neg gg]
     refine wpS_bind (wpS_modify ?_)
     have smz:Sm st (dw g2 y2):=⟨sm2.kind,sm2.arr,sm2.pend,sm2.fail⟩
     refine wpS_bind (ax (by omega) λx ex mx=>wpS_bind (bI C (smz.kind.trans hk) (mb _ mx) ma (by omega) (by omega) (bY ra (by omega)) λk kn k1 k2=>?_))
     dsimp only
     have kl:ia2+k<a.size:=by
      rcases Nat.lt_or_ge (ia2+k) a.size with q|q
      ·exact q
      ·have q2:=k1 (a.size - 1 - ia2) (by omega)
       unfold Bd at q2
       simp only [Bool.false_eq_true,if_false,decide_eq_true_eq] at q2
       rw [show ia2+(a.size - 1 - ia2)=a.size - 1 by omega,au (getElem?_pos a (a.size - 1) (by omega))] at q2
       have:=hl _ (getElem?_pos a (a.size - 1) (by omega)) x mx
       omega
     by_cases gk:k>0
     ·rw [if_pos gk]
      have LA:=L2.stepA (k:=k) (out':=_) ra (fj (k:=k)) λu hu w' hw'=>by
       obtain ⟨j,hj,ej⟩:=ba hu
       have q:=k1 j hj
       unfold Bd at q
       simp only [Bool.false_eq_true,if_false,decide_eq_true_eq] at q
       rw [au ej] at q
       have:=rb.le (ltof ex) hw'
       omega
      by_cases g5:(ia2+k+1==a.size)=true
      ·rw [if_pos g5]
       exact wpS_pure ⟨smz,.inl ⟨_,_,rfl,fin _ _ _ LA (by simpa using g5)⟩⟩
      rw [if_neg g5]
      have g5':ia2+k+1≠a.size:=by simpa using g5
      rw [if_neg (by simp;omega)]
      have hi2:ia2+k+1<a.size:=by omega
      obtain ⟨y2,ey2,my2⟩:=geta (ia2+k) (by omega)
      have LB:=Go1 LA hb2 ex ey2 (by
       have q:=k2 k (Nat.le_refl _) (by omega)
       unfold Bd at q
       simp only [Bool.false_eq_true,if_false,decide_eq_false_iff_not,Nat.add_zero] at q
       rw [au ey2] at q
       omega)
      refine wpS_bind (ax (by omega) λx2 ex2 _=>?_)
      rw [ex] at ex2;cases ex2
      by_cases g6:(ib2+1==b.size)=true
      ·rw [if_pos g6]
       exact wpS_pure ⟨smz,.inl ⟨_,_,rfl,LB.done ra (by simpa using g6)⟩⟩
      rw [if_neg g6]
      have g6':ib2+1≠b.size:=by simpa using g6
      refine wpS_bind (ax (by omega) λv ev mv=>wpS_bind (bI C (smz.kind.trans hk) (ma _ mv) mb (by omega) (by omega) (bY rb (by omega)) λk' kn' k1' k2'=>?_))
      dsimp only
      by_cases gk':k'>0
      ·rw [if_pos gk']
       have LC:=LB.stepB (k:=k') (out':=_) rb (fj (k:=k')) λu hu w' hw'=>by
        obtain ⟨j,hj,ej⟩:=ba hu
        have q:=k1' j hj
        unfold Bd at q
        simp only [if_true,decide_eq_true_eq] at q
        rw [au ej] at q
        have:=ra.le (ltof ev) hw'
        omega
       by_cases g7:(ib2+1+k'==b.size)=true
       ·rw [if_pos g7]
        exact wpS_pure ⟨smz,.inl ⟨_,_,rfl,LC.done ra (by simpa using g7)⟩⟩
       rw [if_neg g7]
       have g7':ib2+1+k'≠b.size:=by simpa using g7
       have hx3:ib2+1+k'<b.size:=by omega
       have LD:=Go2 LC (show ia2+k<a.size by omega) (getElem?_pos b (ib2+1+k') hx3) ev (by
      have q:=k2' k' (Nat.le_refl _) (by omega)
      unfold Bd at q
      simp only [if_true,decide_eq_false_iff_not,Nat.add_zero] at q
      rw [au (by first|exact getElem?_pos b _ hx3|simpa using getElem?_pos b _ hx3)] at q
      omega)
       refine wpS_bind (ax (by omega) λv2 ev2 _=>?_)
       rw [ev] at ev2;cases ev2
       by_cases g8:(ia2+k+1+1==a.size)=true
       ·rw [if_pos g8]
        exact wpS_pure ⟨smz,.inl ⟨_,_,rfl,fin _ _ _ LD (by simpa using g8)⟩⟩
       rw [if_neg g8]
       have g8':ia2+k+1+1≠a.size:=by simpa using g8
       by_cases g9:(decide (k<7)&&decide (k'<7))=true
       ·rw [if_pos g9]
        exact wpS_pure ⟨smz,.inr ⟨_,_,_,_,_,_,rfl,LD,by omega,by omega,by omega⟩⟩
       ·rw [if_neg g9]
        exact wpS_pure ⟨smz,_,_,_,_,_,_,rfl,LD,by omega,by omega,by omega⟩
      ·rw [if_neg gk']
       have hk0':k'=0:=by omega
       have hx3:ib2+1<b.size:=by omega
       have LD:=Go2 LB (show ia2+k<a.size by omega) (getElem?_pos b (ib2+1) hx3) ev (by
      have q:=k2' 0 (by omega) (by omega)
      unfold Bd at q
      simp only [if_true,decide_eq_false_iff_not,Nat.add_zero] at q
      rw [au (by first|exact getElem?_pos b _ hx3|simpa using getElem?_pos b _ hx3)] at q
      omega)
       refine wpS_bind (ax (by omega) λv2 ev2 _=>?_)
       rw [ev] at ev2;cases ev2
       by_cases g8:(ia2+k+1+1==a.size)=true
       ·rw [if_pos g8]
        exact wpS_pure ⟨smz,.inl ⟨_,_,rfl,fin _ _ _ LD (by simpa using g8)⟩⟩
       rw [if_neg g8]
       have g8':ia2+k+1+1≠a.size:=by simpa using g8
       by_cases g9:(decide (k<7)&&decide (k'<7))=true
       ·rw [if_pos g9]
        exact wpS_pure ⟨smz,.inr ⟨_,_,_,_,_,_,rfl,LD,by omega,by omega,by omega⟩⟩
       ·rw [if_neg g9]
        exact wpS_pure ⟨smz,_,_,_,_,_,_,rfl,LD,by omega,by omega,by omega⟩
     ·rw [if_neg gk]
      have hk0:k=0:=by omega
      have hi2:ia2+1<a.size:=by omega
      obtain ⟨y2,ey2,my2⟩:=geta (ia2) (by omega)
      have LB:=Go1 L2 hb2 ex ey2 (by
       have q:=k2 0 (by omega) (by omega)
       unfold Bd at q
       simp only [Bool.false_eq_true,if_false,decide_eq_false_iff_not,Nat.add_zero] at q
       rw [au ey2] at q
       omega)
      refine wpS_bind (ax (by omega) λx2 ex2 _=>?_)
      rw [ex] at ex2;cases ex2
      by_cases g6:(ib2+1==b.size)=true
      ·rw [if_pos g6]
       exact wpS_pure ⟨smz,.inl ⟨_,_,rfl,LB.done ra (by simpa using g6)⟩⟩
      rw [if_neg g6]
      have g6':ib2+1≠b.size:=by simpa using g6
      refine wpS_bind (ax (by omega) λv ev mv=>wpS_bind (bI C (smz.kind.trans hk) (ma _ mv) mb (by omega) (by omega) (bY rb (by omega)) λk' kn' k1' k2'=>?_))
      dsimp only
      by_cases gk':k'>0
      ·rw [if_pos gk']
       have LC:=LB.stepB (k:=k') (out':=_) rb (fj (k:=k')) λu hu w' hw'=>by
        obtain ⟨j,hj,ej⟩:=ba hu
        have q:=k1' j hj
        unfold Bd at q
        simp only [if_true,decide_eq_true_eq] at q
        rw [au ej] at q
        have:=ra.le (ltof ev) hw'
        omega
       by_cases g7:(ib2+1+k'==b.size)=true
       ·rw [if_pos g7]
        exact wpS_pure ⟨smz,.inl ⟨_,_,rfl,LC.done ra (by simpa using g7)⟩⟩
       rw [if_neg g7]
       have g7':ib2+1+k'≠b.size:=by simpa using g7
       have hx3:ib2+1+k'<b.size:=by omega
       have LD:=Go2 LC (show ia2<a.size by omega) (getElem?_pos b (ib2+1+k') hx3) ev (by
      have q:=k2' k' (Nat.le_refl _) (by omega)
      unfold Bd at q
      simp only [if_true,decide_eq_false_iff_not,Nat.add_zero] at q
      rw [au (by first|exact getElem?_pos b _ hx3|simpa using getElem?_pos b _ hx3)] at q
      omega)
       refine wpS_bind (ax (by omega) λv2 ev2 _=>?_)
       rw [ev] at ev2;cases ev2
       by_cases g8:(ia2+1+1==a.size)=true
       ·rw [if_pos g8]
        exact wpS_pure ⟨smz,.inl ⟨_,_,rfl,fin _ _ _ LD (by simpa using g8)⟩⟩
       rw [if_neg g8]
       have g8':ia2+1+1≠a.size:=by simpa using g8
       by_cases g9:(decide (k<7)&&decide (k'<7))=true
       ·rw [if_pos g9]
        exact wpS_pure ⟨smz,.inr ⟨_,_,_,_,_,_,rfl,LD,by omega,by omega,by omega⟩⟩
       ·rw [if_neg g9]
        exact wpS_pure ⟨smz,_,_,_,_,_,_,rfl,LD,by omega,by omega,by omega⟩
      ·rw [if_neg gk']
       have hk0':k'=0:=by omega
       have hx3:ib2+1<b.size:=by omega
       have LD:=Go2 LB (show ia2<a.size by omega) (getElem?_pos b (ib2+1) hx3) ev (by
      have q:=k2' 0 (by omega) (by omega)
      unfold Bd at q
      simp only [if_true,decide_eq_false_iff_not,Nat.add_zero] at q
      rw [au (by first|exact getElem?_pos b _ hx3|simpa using getElem?_pos b _ hx3)] at q
      omega)
       refine wpS_bind (ax (by omega) λv2 ev2 _=>?_)
       rw [ev] at ev2;cases ev2
       by_cases g8:(ia2+1+1==a.size)=true
       ·rw [if_pos g8]
        exact wpS_pure ⟨smz,.inl ⟨_,_,rfl,fin _ _ _ LD (by simpa using g8)⟩⟩
       rw [if_neg g8]
       have g8':ia2+1+1≠a.size:=by simpa using g8
       by_cases g9:(decide (k<7)&&decide (k'<7))=true
       ·rw [if_pos g9]
        exact wpS_pure ⟨smz,.inr ⟨_,_,_,_,_,_,rfl,LD,by omega,by omega,by omega⟩⟩
       ·rw [if_neg g9]
        exact wpS_pure ⟨smz,_,_,_,_,_,_,rfl,LD,by omega,by omega,by omega⟩
   ·rintro c y2 ⟨sm2,out2,ia2,ib2,g2,p2,q2,rfl,L2,ha2,hb2,hu2⟩
    omega
   ·rintro c y2 ⟨sm2,⟨r,x,rfl,hr⟩|⟨out2,ia2,ib2,g2,p2,q2,rfl,L2,ha2,hb2,hu2⟩⟩
    ·exact wpS_pure ⟨sm2,r,_,rfl,hr⟩
    dsimp only
    refine wpS_bind (wpS_modify (wpS_pure ⟨⟨sm2.kind,sm2.arr,sm2.pend,sm2.fail⟩,_,_,_,_,rfl,L2,ha2,hb2,by omega⟩))
 ·rintro c z ⟨sm,out,ia,ib,g,rfl,L,ha,hb,ht⟩
  omega
 ·rintro c z ⟨sm,r,x,rfl,hr⟩
  exact wpS_pure (h r z hr sm)
end
end S6
namespace S6
open PySem PyProof.Rows
def kf:Array Keyed->Array Keyed->StateT SortSt Sem (Array Keyed):=sortPriv% PySem.Builtin.mergeHi
theorem uJ (a b:Array Keyed):kf a b=(do
 rule "list.sort.merge-hi"
 let total:=a.size+b.size
 let done (out:Array Keyed) (na nb:Nat):=a.extract 0 na++b.extract 0 nb++out.reverse
 let firstOfB (out:Array Keyed) (na nb:Nat):=b.extract 0 nb++a.extract 0 na++out.reverse
 let mut na:=a.size - 1
 let mut nb:=b.size
 let mut out:Array Keyed:=#[<- elem' a na]
 if na==0 then return done out na nb
 if nb==1 then return firstOfB out na nb
 let mut minGallop:=gallopOf (<- get)
 for _ in [0:total] do
  let mut acount:=0
  let mut bcount:=0
  for _ in [0:total] do
   let some aWins <- lt' (<- elem' b (nb - 1)) (<- elem' a (na - 1))|return done out na nb
   if aWins then
    na:=na - 1;out:=out.push (<- elem' a na);acount:=acount+1;bcount:=0
    if na==0 then return done out na nb
    if acount≥minGallop then break
   else
    nb:=nb - 1;out:=out.push (<- elem' b nb);bcount:=bcount+1;acount:=0
    if nb==1 then return firstOfB out na nb
    if bcount≥minGallop then break
  rule "list.sort.gallop"
  minGallop:=minGallop+1
  for _ in [0:total] do
   if minGallop>1 then minGallop:=minGallop - 1
   modify (dw minGallop)
   let some at_ <- db false (<- elem' b (nb - 1)) a 0 na (na - 1)|return done out na nb
   let k:=na - at_
   acount:=k
   if k>0 then
    out:=out++(a.extract at_ na).reverse;na:=at_
    if na==0 then return done out na nb
   nb:=nb - 1;out:=out.push (<- elem' b nb)
   if nb==1 then return firstOfB out na nb
   let some at_ <- db true (<- elem' a (na - 1)) b 0 nb (nb - 1)|return done out na nb
   let k:=nb - at_
   bcount:=k
   if k>0 then
    out:=out++(b.extract at_ nb).reverse;nb:=at_
    if nb==1 then return firstOfB out na nb
    if nb==0 then return done out na nb
   na:=na - 1;out:=out.push (<- elem' a na)
   if na==0 then return done out na nb
   if acount<7&&bcount<7 then break
  minGallop:=minGallop+1
  modify (dw minGallop)
 unsupported "internal:list.sort.merge-bound"):=rfl
section
variable {prog:Program}{w:World}{A:Around}{E:Value->Shared->Prop}{s:Shared}{a₀:Array Keyed}{kd:SortKind}{ρ:Keyed->Nat}{st:SortSt}{a b out:Array Keyed}{na nb:Nat}
structure Hi (ρ:Keyed->Nat) (a b out:Array Keyed) (na nb:Nat):Prop where
 ri:Ri ρ out.toList.reverse
 pm:out.toList.reverse.Perm (a.toList.drop na++b.toList.drop nb)
 la:∀ x∈a.toList.take na,∀ y∈out.toList,ρ x<=ρ y
 lb:∀ x∈b.toList.take nb,∀ y∈out.toList,ρ x<=ρ y
theorem jj (a:Array Keyed) (i:Nat):(a.extract 0 i).toList=a.toList.take i:=by
 simp only [Array.toList_extract,List.extract_eq_take_drop,Nat.sub_zero,List.drop_zero]
theorem Hi.first (L:Hi ρ a b out na nb) (ra:Ri ρ a.toList) (rb:Ri ρ b.toList) (h:∀ x∈b.toList.take nb,∀ y∈a.toList.take na,ρ x<=ρ y):Mg ρ a b (b.extract 0 nb++a.extract 0 na++out.reverse):=by
 have e:(b.extract 0 nb++a.extract 0 na++out.reverse).toList=b.toList.take nb++a.toList.take na++out.toList.reverse:=by rw [Array.toList_append,Array.toList_append,jj,jj,Array.toList_reverse]
 unfold Mg
 rw [e]
 refine ⟨((Ri.app (rb.sublist (List.take_sublist _ _)) (ra.sublist (List.take_sublist _ _)) h).app L.ri λx hx y hy=>?_),?_⟩
 ·rw [List.mem_reverse] at hy
  rcases List.mem_append.mp hx with q|q
  ·exact L.lb x q y hy
  ·exact L.la x q y hy
 ·refine (List.Perm.append_left _ L.pm).trans ?_
  rw [List.append_assoc,<- List.append_assoc (a.toList.take na),List.take_append_drop]
  refine List.perm_append_comm.trans ?_
  rw [List.append_assoc]
  refine List.Perm.append_left _ (List.perm_append_comm.trans ?_)
  rw [List.take_append_drop]
theorem Hi.done (L:Hi ρ a b out na nb) (rb:Ri ρ b.toList) (h:na=0):Mg ρ a b (a.extract 0 na++b.extract 0 nb++out.reverse):=by
 subst h
 have e:(a.extract 0 0++b.extract 0 nb++out.reverse).toList=b.toList.take nb++out.toList.reverse:=by rw [Array.toList_append,Array.toList_append,jj,jj,Array.toList_reverse];simp
 unfold Mg
 rw [e]
 refine ⟨Ri.app (rb.sublist (List.take_sublist _ _)) L.ri λx hx y hy=>?_,?_⟩
 ·rw [List.mem_reverse] at hy
  exact L.lb x hx y hy
 ·refine (List.Perm.append_left _ L.pm).trans ?_
  rw [List.drop_zero]
  refine List.perm_append_comm.trans ?_
  rw [List.append_assoc]
  refine List.Perm.append_left _ (List.perm_append_comm.trans ?_)
  rw [List.take_append_drop]
theorem jN (l:List Keyed){i j:Nat}(h:i<=j):l.drop i=(l.take j).drop i++l.drop j:=by
 have:l.drop j=(l.drop i).drop (j - i):=by rw [List.drop_drop];congr 1;omega
 rw [this,List.drop_take,List.take_append_drop]
theorem oU {l:List Keyed}{i j:Nat}(h:i<=j){x:Keyed}(hx:x∈l.take i):x∈l.take j:=by
 rw [show i=min i j by omega,<- List.take_take] at hx
 exact List.mem_of_mem_take hx
theorem Ri.cut2 {l:List Keyed}(h:Ri ρ l){i j:Nat}{x y:Keyed}(ij:i<=j) (hx:x∈l.take i) (hy:y∈(l.take j).drop i):ρ x<=ρ y:=by
 have:=h
 rw [<- List.take_append_drop i l] at this
 refine (List.pairwise_append.mp this).2.2 x hx y ?_
 rw [jN l ij]
 exact List.mem_append.mpr (.inl hy)
theorem Hi.stepA {out':Array Keyed}{k:Nat}(L:Hi ρ a b out na nb) (ra:Ri ρ a.toList) (hk:k<=na) (e:out'.toList.reverse=(a.toList.take na).drop k++out.toList.reverse) (hy:∀ x∈b.toList.take nb,∀ y∈(a.toList.take na).drop k,ρ x<=ρ y):Hi ρ a b out' k nb:=by
 have mem:∀ y,y∈out'.toList->y∈(a.toList.take na).drop k\/y∈out.toList:=λy hy=>by
  rw [<- List.mem_reverse,e] at hy
  rcases List.mem_append.mp hy with q|q
  ·exact .inl q
  ·exact .inr (List.mem_reverse.mp q)
 refine ⟨?_,?_,?_,?_⟩
 ·rw [e]
  exact Ri.app ((ra.sublist (List.take_sublist _ _)).sublist (List.drop_sublist _ _)) L.ri λx hx y hy'=>L.la x (List.mem_of_mem_drop hx) y (List.mem_reverse.mp hy')
 ·rw [e,jN a.toList hk,List.append_assoc]
  exact List.Perm.append_left _ L.pm
 ·intro x hx y hy'
  rcases mem y hy' with q|q
  ·exact ra.cut2 hk hx q
  ·exact L.la x (oU hk hx) y q
 ·intro x hx y hy'
  rcases mem y hy' with q|q
  ·exact hy x hx y q
  ·exact L.lb x hx y q
theorem Hi.stepB {out':Array Keyed}{k:Nat}(L:Hi ρ a b out na nb) (rb:Ri ρ b.toList) (hk:k<=nb) (e:out'.toList.reverse=(b.toList.take nb).drop k++out.toList.reverse) (hy:∀ x∈a.toList.take na,∀ y∈(b.toList.take nb).drop k,ρ x<=ρ y):Hi ρ a b out' na k:=by
 have mem:∀ y,y∈out'.toList->y∈(b.toList.take nb).drop k\/y∈out.toList:=λy hy=>by
  rw [<- List.mem_reverse,e] at hy
  rcases List.mem_append.mp hy with q|q
  ·exact .inl q
  ·exact .inr (List.mem_reverse.mp q)
 refine ⟨?_,?_,?_,?_⟩
 ·rw [e]
  exact Ri.app ((rb.sublist (List.take_sublist _ _)).sublist (List.drop_sublist _ _)) L.ri λx hx y hy'=>L.lb x (List.mem_of_mem_drop hx) y (List.mem_reverse.mp hy')
 ·rw [e,jN b.toList hk]
  refine (List.Perm.append_left _ L.pm).trans ?_
  rw [<- List.append_assoc,<- List.append_assoc]
  exact List.Perm.append_right _ List.perm_append_comm
 ·intro x hx y hy'
  rcases mem y hy' with q|q
  ·exact hy x hx y q
  ·exact L.la x hx y q
 ·intro x hx y hy'
  rcases mem y hy' with q|q
  ·exact rb.cut2 hk hx q
  ·exact L.lb x (oU hk hx) y q
theorem ze {x:Keyed}{i:Nat}{c:Array Keyed}(h:i<c.size) (e:c[i]?=some x):(out.push x).toList.reverse=(c.toList.take (i+1)).drop i++out.toList.reverse:=by
 rw [Array.toList_push,List.reverse_append,List.reverse_singleton]
 congr 1
 rw [List.drop_take,show i+1 - i=1 by omega,List.drop_eq_getElem_cons (by simpa using h)]
 rw [getElem?_pos c i h] at e
 cases e
 simp
theorem bE {x:Keyed}{i n:Nat}{c:Array Keyed}(hn:i+1=n) (h:i<c.size) (e:c[i]?=some x):(out.push x).toList.reverse=(c.toList.take n).drop i++out.toList.reverse:=by
 subst hn
 exact ze h e
theorem fk {i k:Nat}{c:Array Keyed}:(out++(c.extract k i).reverse).toList.reverse=(c.toList.take i).drop k++out.toList.reverse:=by
 rw [Array.toList_append,List.reverse_append,Array.toList_reverse,List.reverse_reverse,Array.toList_extract,List.extract_eq_take_drop,List.drop_take]
theorem a6 {c:Array Keyed}{i k:Nat}{u:Keyed}(h:u∈(c.toList.take i).drop k):∃ j,k<=j/\j<i/\c[j]?=some u:=by
 rw [List.drop_take] at h
 obtain ⟨j,hj,e⟩:=ba h
 exact ⟨k+j,by omega,by omega,e⟩
theorem Ri.ge {l:List Keyed}(h:Ri ρ l){i:Nat}{x y:Keyed}(e:l[i]?=some x) (hy:y∈l.take (i+1)):ρ y<=ρ x:=by
 obtain ⟨hi,rfl⟩:=List.getElem?_eq_some_iff.mp e
 rw [List.take_add_one] at hy
 rcases List.mem_append.mp hy with q|q
 ·obtain ⟨j,hj,rfl⟩:=List.mem_iff_getElem.mp q
  rw [List.length_take] at hj
  rw [List.getElem_take]
  exact List.pairwise_iff_getElem.mp h j i (by omega) hi (by omega)
 ·simp [hi] at q
  rw [q]
  exact Nat.le_refl _
theorem vT {Q:Array Keyed->SortSt->Prop}(C:Cm prog w A s kd a₀ ρ) (hk:kindOf st=kd) (ma:∀ p∈a.toList,p∈a₀.toList) (mb:∀ p∈b.toList,p∈a₀.toList) (ra:Ri ρ a.toList) (rb:Ri ρ b.toList) (h1:1<=a.size) (h2:1<=b.size)
  (hf:∀ x,b[0]?=some x->∀ y∈a.toList,ρ x<ρ y) (hl:∀ y,a[a.size - 1]?=some y->∀ x∈b.toList,ρ x<=ρ y) (h:∀ r z,Mg ρ a b r->Sm st z->Q r z):wpS (model prog w) A E s (kf a b) Q st:=by
 rw [uJ]
 refine wpS_bind (wpS_lift (wpAny_rule ⟨rfl,?_⟩))
 dsimp only
 refine wpS_bind (ax (by omega) λx0 e0 m0=>?_)
 have ltof:∀ {c:Array Keyed}{i:Nat}{x:Keyed},c[i]?=some x->c.toList[i]?=some x:=fun {c i x} e=>by simpa using e
 have L0:Hi ρ a b #[x0] (a.size - 1) b.size:=by
  have L:Hi ρ a b #[] a.size b.size:=⟨List.Pairwise.nil,by simp,by simp,by simp⟩
  refine L.stepA (k:=a.size - 1) ra (by omega) (bE (out:=#[]) (n:=a.size) (by omega) (by omega) e0) λu hu w' hw'=>?_
  obtain ⟨j,j1,j2,ej⟩:=a6 hw'
  rw [show j=a.size - 1 by omega,e0] at ej;cases ej
  exact hl _ e0 u (List.mem_of_mem_take hu)
 have fin:∀ out na nb,Hi ρ a b out na nb->nb=1->Mg ρ a b (b.extract 0 nb++a.extract 0 na++out.reverse):=λout na nb L e=>by
  refine L.first ra rb λx hx y hy=>?_
  obtain ⟨j,hj,ej⟩:=ba (i:=0) (by simpa using hx)
  rw [show 0+j=0 by omega] at ej
  exact Nat.le_of_lt (hf _ ej y (List.mem_of_mem_take hy))
 have sm0:Sm st st:=⟨rfl,rfl,rfl,rfl⟩
 by_cases q1:(a.size - 1==0)=true
 ·rw [if_pos q1]
  exact wpS_pure (h _ _ (L0.done rb (by simpa using q1)) sm0)
 rw [if_neg q1]
 by_cases q2:(b.size==1)=true
 ·rw [if_pos q2]
  exact wpS_pure (h _ _ (fin _ _ _ L0 (by simpa using q2)) sm0)
 rw [if_neg q2]
 refine wpS_bind (wpS_get ?_)
 have q1':a.size - 1≠0:=by simpa using q1
 have q2':b.size≠1:=by simpa using q2
 refine wpS_bind (wpS_mono (wpS_forRange
  (λt c z=>Sm st z/\∃ out na nb g,c=(none,na,nb,out,g)/\Hi ρ a b out na nb/\1<=na/\2<=nb/\na<a.size/\nb<=b.size/\na+nb+t<a.size+b.size)
  (Q:=λc z=>Sm st z/\∃ r x,c=(some r,x)/\Mg ρ a b r) ?_ ?_ ⟨sm0,_,_,_,_,rfl,L0,by omega,by omega,by omega,by omega,by omega⟩) ?_)
 ·rintro t c z t1 t2 ⟨sm,out,na,nb,g,rfl,L,ha,hb,ha3,hb3,ht⟩
  dsimp only
  refine wpS_bind (wpS_mono (wpS_forRange
   (λu c y=>y=z/\∃ out' na' nb' p q,c=(none,na',nb',out',p,q)/\Hi ρ a b out' na' nb'/\1<=na'/\2<=nb'/\na'<a.size/\nb'<=b.size/\na'+nb'+u<=na+nb)
   (Q:=λc y=>y=z/\((∃ r x,c=(some r,x)/\Mg ρ a b r)\/∃ out' na' nb' p q,c=(none,na',nb',out',p,q)/\Hi ρ a b out' na' nb'/\1<=na'/\2<=nb'/\na'<a.size/\nb'<=b.size/\na'+nb'+1<=na+nb)) ?_ ?_ ⟨rfl,_,_,_,_,_,rfl,L,ha,hb,ha3,hb3,Nat.le_refl _⟩) ?_)
  ·rintro u c y u1 u2 ⟨rfl,out',na',nb',p,q,rfl,L',ha',hb',ha4,hb4,hu'⟩
   dsimp only
   refine wpS_bind (ax (by omega) λx ex mx=>wpS_bind (ax (by omega) λv ev mv=>wpS_bind (hU C (sm.kind.trans hk) (mb _ mx) (ma _ mv) ?_)))
   dsimp only
   by_cases g1:ρ x<ρ v
   ·rw [decide_eq_true g1,if_pos rfl]
    refine wpS_bind (ax (by omega) λv2 ev2 _=>?_)
    rw [ev] at ev2;cases ev2
    have L2:=L'.stepA (k:=na' - 1) ra (by omega) (bE (by omega) (by omega) ev) λu hu w' hw'=>by
     obtain ⟨j,j1,j2,ej⟩:=a6 hw'
     rw [show j=na' - 1 by omega,ev] at ej;cases ej
     have:=rb.ge (ltof ex) (by rw [show nb' - 1+1=nb' by omega];exact hu)
     omega
    by_cases g2:(na' - 1==0)=true
    ·rw [if_pos g2]
     exact wpS_pure ⟨rfl,.inl ⟨_,_,rfl,L2.done rb (by simpa using g2)⟩⟩
    ·rw [if_neg g2]
     have g2':na' - 1≠0:=by simpa using g2
     by_cases g3:p+1≥g
     ·rw [if_pos g3]
      exact wpS_pure ⟨rfl,.inr ⟨_,_,_,_,_,rfl,L2,by omega,by omega,by omega,by omega,by omega⟩⟩
     ·rw [if_neg g3]
      exact wpS_pure ⟨rfl,_,_,_,_,_,rfl,L2,by omega,by omega,by omega,by omega,by omega⟩
   ·rw [decide_eq_false g1,if_neg (by decide)]
    refine wpS_bind (ax (by omega) λx2 ex2 _=>?_)
    rw [ex] at ex2;cases ex2
    have L2:=L'.stepB (k:=nb' - 1) rb (by omega) (bE (by omega) (by omega) ex) λu hu w' hw'=>by
     obtain ⟨j,j1,j2,ej⟩:=a6 hw'
     rw [show j=nb' - 1 by omega,ex] at ej;cases ej
     have:=ra.ge (ltof ev) (by rw [show na' - 1+1=na' by omega];exact hu)
     omega
    by_cases g2:(nb' - 1==1)=true
    ·rw [if_pos g2]
     exact wpS_pure ⟨rfl,.inl ⟨_,_,rfl,fin _ _ _ L2 (by simpa using g2)⟩⟩
    ·rw [if_neg g2]
     have g2':nb' - 1≠1:=by simpa using g2
     by_cases g3:q+1≥g
     ·rw [if_pos g3]
      exact wpS_pure ⟨rfl,.inr ⟨_,_,_,_,_,rfl,L2,by omega,by omega,by omega,by omega,by omega⟩⟩
     ·rw [if_neg g3]
      exact wpS_pure ⟨rfl,_,_,_,_,_,rfl,L2,by omega,by omega,by omega,by omega,by omega⟩
  ·rintro c y ⟨rfl,out',na',nb',p,q,rfl,L',ha',hb',ha4,hb4,hu'⟩
   omega
  ·rintro c y ⟨rfl,⟨r,x,rfl,hr⟩|⟨out',na',nb',p,q,rfl,L',ha',hb',ha4,hb4,hu'⟩⟩
   ·exact wpS_pure ⟨sm,r,_,rfl,hr⟩
   dsimp only
   refine wpS_bind (wpS_lift (wpAny_rule ⟨rfl,?_⟩))
   refine wpS_bind (wpS_mono (wpS_forRange
    (λu c y=>Sm st y/\∃ out2 na2 nb2 g2 p q,c=(none,na2,nb2,out2,g2,p,q)/\Hi ρ a b out2 na2 nb2/\1<=na2/\2<=nb2/\na2<a.size/\nb2<=b.size/\na2+nb2+u+1<=na+nb)
    (Q:=λc y=>Sm st y/\((∃ r x,c=(some r,x)/\Mg ρ a b r)\/∃ out2 na2 nb2 g2 p q,c=(none,na2,nb2,out2,g2,p,q)/\Hi ρ a b out2 na2 nb2/\1<=na2/\2<=nb2/\na2<a.size/\nb2<=b.size/\na2+nb2+1<=na+nb)) ?_ ?_ ⟨sm,_,_,_,_,_,_,rfl,L',ha',hb',ha4,hb4,by omega⟩) ?_)
   ·rintro u c y2 u1 u2 ⟨sm2,out2,na2,nb2,g2,p2,q2,rfl,L2,ha2,hb2,ha5,hb5,hu2⟩
    dsimp only
    by_cases gg:g2>1
    ·rw [if_pos gg]
     refine wpS_bind (wpS_modify ?_)
     have smz:Sm st (dw (g2 - 1) y2):=⟨sm2.kind,sm2.arr,sm2.pend,sm2.fail⟩
     refine wpS_bind (ax (by omega) λx ex mx=>wpS_bind (bI C (smz.kind.trans hk) (mb _ mx) ma (by omega) (by omega) (bY ra (by omega)) λk kn k1 k2=>?_))
     dsimp only
     by_cases gk:na2 - k>0
     ·rw [if_pos gk]
      have LA:=L2.stepA (k:=k) ra (by omega) (fk (k:=k)) λu hu w' hw'=>by
       obtain ⟨j,j1,j2,ej⟩:=a6 hw'
       have q:=k2 j j1 j2
       unfold Bd at q
       simp only [Bool.false_eq_true,if_false,decide_eq_false_iff_not,Nat.zero_add] at q
       rw [au ej] at q
       have:=rb.ge (ltof ex) (by rw [show nb2 - 1+1=nb2 by omega];exact hu)
       omega
      by_cases g5:(k==0)=true
      ·rw [if_pos g5]
       exact wpS_pure ⟨smz,.inl ⟨_,_,rfl,LA.done rb (by simpa using g5)⟩⟩
      rw [if_neg g5]
      have g5':k≠0:=by simpa using g5
      have LB:=LA.stepB (k:=nb2 - 1) rb (by omega) (bE (by omega) (by omega) ex) λu hu w' hw'=>by
       obtain ⟨j,j1,j2,ej⟩:=a6 hw'
       rw [show j=nb2 - 1 by omega,ex] at ej;cases ej
       obtain ⟨ja,ja2,eja⟩:=ba (i:=0) (by simpa using hu)
       simp only [Nat.zero_add] at eja
       have q:=k1 ja (by omega)
       unfold Bd at q
       simp only [Bool.false_eq_true,if_false,decide_eq_true_eq,Nat.zero_add] at q
       rw [au eja] at q
       exact q
      refine wpS_bind (ax (by omega) λx2 ex2 _=>?_)
      rw [ex] at ex2;cases ex2
      by_cases g6:(nb2 - 1==1)=true
      ·rw [if_pos g6]
       exact wpS_pure ⟨smz,.inl ⟨_,_,rfl,fin _ _ _ LB (by simpa using g6)⟩⟩
      rw [if_neg g6]
      have g6':nb2 - 1≠1:=by simpa using g6
      refine wpS_bind (ax (by omega) λv ev mv=>wpS_bind (bI C (smz.kind.trans hk) (ma _ mv) mb (by omega) (by omega) (bY rb (by omega)) λk' kn' k1' k2'=>?_))
      dsimp only
      have hk1':1<=k':=by
       rcases Nat.lt_or_ge 0 k' with q|q
       ·exact q
       ·have q2:=k2' 0 (by omega) (by omega)
        unfold Bd at q2
        simp only [if_true,decide_eq_false_iff_not,Nat.add_zero] at q2
        rw [au (getElem?_pos b 0 (by omega))] at q2
        have:=hf _ (getElem?_pos b 0 (by omega)) v mv
        omega
      by_cases gk':nb2 - 1 - k'>0
      ·rw [if_pos gk']
       have LC:=LB.stepB (k:=k') rb (by omega) (fk (k:=k')) λu hu w' hw'=>by
        obtain ⟨j,j1,j2,ej⟩:=a6 hw'
        have q:=k2' j j1 j2
        unfold Bd at q
        simp only [if_true,decide_eq_false_iff_not,Nat.zero_add] at q
        rw [au ej] at q
        have:=ra.ge (ltof ev) (by rw [show k - 1+1=k by omega];exact hu)
        omega
       by_cases g7:(k'==1)=true
       ·rw [if_pos g7]
        exact wpS_pure ⟨smz,.inl ⟨_,_,rfl,fin _ _ _ LC (by simpa using g7)⟩⟩
       rw [if_neg g7]
       have g7':k'≠1:=by simpa using g7
       rw [if_neg (by simp;omega)]
       refine wpS_bind (ax (by omega) λv2 ev2 _=>?_)
       rw [ev] at ev2;cases ev2
       have LD:=LC.stepA (k:=k - 1) ra (by omega) (bE (by omega) (by omega) ev) λu hu w' hw'=>by
        obtain ⟨j,j1,j2,ej⟩:=a6 hw'
        rw [show j=k - 1 by omega,ev] at ej;cases ej
        obtain ⟨jb,jb2,ejb⟩:=ba (i:=0) (by simpa using hu)
        simp only [Nat.zero_add] at ejb
        have q:=k1' jb (by omega);unfold Bd at q;simp only [if_true,decide_eq_true_eq,Nat.zero_add] at q;rw [au ejb] at q;omega
       by_cases g8:(k - 1==0)=true
       ·rw [if_pos g8]
        exact wpS_pure ⟨smz,.inl ⟨_,_,rfl,LD.done rb (by simpa using g8)⟩⟩
       rw [if_neg g8]
       have g8':k - 1≠0:=by simpa using g8
       split
       ·exact wpS_pure ⟨smz,.inr ⟨_,_,_,_,_,_,rfl,LD,by omega,by omega,by omega,by omega,by omega⟩⟩
       ·exact wpS_pure ⟨smz,_,_,_,_,_,_,rfl,LD,by omega,by omega,by omega,by omega,by omega⟩
      ·rw [if_neg gk']
       refine wpS_bind (ax (by omega) λv2 ev2 _=>?_)
       rw [ev] at ev2;cases ev2
       have LD:=LB.stepA (k:=k - 1) ra (by omega) (bE (by omega) (by omega) ev) λu hu w' hw'=>by
        obtain ⟨j,j1,j2,ej⟩:=a6 hw'
        rw [show j=k - 1 by omega,ev] at ej;cases ej
        obtain ⟨jb,jb2,ejb⟩:=ba (i:=0) (by simpa using hu)
        simp only [Nat.zero_add] at ejb
        have q:=k1' jb (by omega);unfold Bd at q;simp only [if_true,decide_eq_true_eq,Nat.zero_add] at q;rw [au ejb] at q;omega
       by_cases g8:(k - 1==0)=true
       ·rw [if_pos g8]
        exact wpS_pure ⟨smz,.inl ⟨_,_,rfl,LD.done rb (by simpa using g8)⟩⟩
       rw [if_neg g8]
       have g8':k - 1≠0:=by simpa using g8
       split
       ·exact wpS_pure ⟨smz,.inr ⟨_,_,_,_,_,_,rfl,LD,by omega,by omega,by omega,by omega,by omega⟩⟩
       ·exact wpS_pure ⟨smz,_,_,_,_,_,_,rfl,LD,by omega,by omega,by omega,by omega,by omega⟩
     ·rw [if_neg gk]
      have LB:=L2.stepB (k:=nb2 - 1) rb (by omega) (bE (by omega) (by omega) ex) λu hu w' hw'=>by
       obtain ⟨j,j1,j2,ej⟩:=a6 hw'
       rw [show j=nb2 - 1 by omega,ex] at ej;cases ej
       obtain ⟨ja,ja2,eja⟩:=ba (i:=0) (by simpa using hu)
       simp only [Nat.zero_add] at eja
       have q:=k1 ja (by omega)
       unfold Bd at q
       simp only [Bool.false_eq_true,if_false,decide_eq_true_eq,Nat.zero_add] at q
       rw [au eja] at q
       exact q
      refine wpS_bind (ax (by omega) λx2 ex2 _=>?_)
      rw [ex] at ex2;cases ex2
      by_cases g6:(nb2 - 1==1)=true
      ·rw [if_pos g6]
       exact wpS_pure ⟨smz,.inl ⟨_,_,rfl,fin _ _ _ LB (by simpa using g6)⟩⟩
      rw [if_neg g6]
      have g6':nb2 - 1≠1:=by simpa using g6
      refine wpS_bind (ax (by omega) λv ev mv=>wpS_bind (bI C (smz.kind.trans hk) (ma _ mv) mb (by omega) (by omega) (bY rb (by omega)) λk' kn' k1' k2'=>?_))
      dsimp only
      have hk1':1<=k':=by
       rcases Nat.lt_or_ge 0 k' with q|q
       ·exact q
       ·have q2:=k2' 0 (by omega) (by omega)
        unfold Bd at q2
        simp only [if_true,decide_eq_false_iff_not,Nat.add_zero] at q2
        rw [au (getElem?_pos b 0 (by omega))] at q2
        have:=hf _ (getElem?_pos b 0 (by omega)) v mv
        omega
      by_cases gk':nb2 - 1 - k'>0
      ·rw [if_pos gk']
       have LC:=LB.stepB (k:=k') rb (by omega) (fk (k:=k')) λu hu w' hw'=>by
        obtain ⟨j,j1,j2,ej⟩:=a6 hw'
        have q:=k2' j j1 j2
        unfold Bd at q
        simp only [if_true,decide_eq_false_iff_not,Nat.zero_add] at q
        rw [au ej] at q
        have:=ra.ge (ltof ev) (by rw [show na2 - 1+1=na2 by omega];exact hu)
        omega
       by_cases g7:(k'==1)=true
       ·rw [if_pos g7]
        exact wpS_pure ⟨smz,.inl ⟨_,_,rfl,fin _ _ _ LC (by simpa using g7)⟩⟩
       rw [if_neg g7]
       have g7':k'≠1:=by simpa using g7
       rw [if_neg (by simp;omega)]
       refine wpS_bind (ax (by omega) λv2 ev2 _=>?_)
       rw [ev] at ev2;cases ev2
       have LD:=LC.stepA (k:=na2 - 1) ra (by omega) (bE (by omega) (by omega) ev) λu hu w' hw'=>by
        obtain ⟨j,j1,j2,ej⟩:=a6 hw'
        rw [show j=na2 - 1 by omega,ev] at ej;cases ej
        obtain ⟨jb,jb2,ejb⟩:=ba (i:=0) (by simpa using hu)
        simp only [Nat.zero_add] at ejb
        have q:=k1' jb (by omega);unfold Bd at q;simp only [if_true,decide_eq_true_eq,Nat.zero_add] at q;rw [au ejb] at q;omega
       by_cases g8:(na2 - 1==0)=true
       ·rw [if_pos g8]
        exact wpS_pure ⟨smz,.inl ⟨_,_,rfl,LD.done rb (by simpa using g8)⟩⟩
       rw [if_neg g8]
       have g8':na2 - 1≠0:=by simpa using g8
       split
       ·exact wpS_pure ⟨smz,.inr ⟨_,_,_,_,_,_,rfl,LD,by omega,by omega,by omega,by omega,by omega⟩⟩
       ·exact wpS_pure ⟨smz,_,_,_,_,_,_,rfl,LD,by omega,by omega,by omega,by omega,by omega⟩
      ·rw [if_neg gk']
       refine wpS_bind (ax (by omega) λv2 ev2 _=>?_)
       rw [ev] at ev2;cases ev2
       have LD:=LB.stepA (k:=na2 - 1) ra (by omega) (bE (by omega) (by omega) ev) λu hu w' hw'=>by
        obtain ⟨j,j1,j2,ej⟩:=a6 hw'
        rw [show j=na2 - 1 by omega,ev] at ej;cases ej
        obtain ⟨jb,jb2,ejb⟩:=ba (i:=0) (by simpa using hu)
        simp only [Nat.zero_add] at ejb
        have q:=k1' jb (by omega);unfold Bd at q;simp only [if_true,decide_eq_true_eq,Nat.zero_add] at q;rw [au ejb] at q;omega
       by_cases g8:(na2 - 1==0)=true
       ·rw [if_pos g8]
        exact wpS_pure ⟨smz,.inl ⟨_,_,rfl,LD.done rb (by simpa using g8)⟩⟩
       rw [if_neg g8]
       have g8':na2 - 1≠0:=by simpa using g8
       split
       ·exact wpS_pure ⟨smz,.inr ⟨_,_,_,_,_,_,rfl,LD,by omega,by omega,by omega,by omega,by omega⟩⟩
       ·exact wpS_pure ⟨smz,_,_,_,_,_,_,rfl,LD,by omega,by omega,by omega,by omega,by omega⟩
    ·rw [if_neg gg]
     refine wpS_bind (wpS_modify ?_)
     have smz:Sm st (dw g2 y2):=⟨sm2.kind,sm2.arr,sm2.pend,sm2.fail⟩
     refine wpS_bind (ax (by omega) λx ex mx=>wpS_bind (bI C (smz.kind.trans hk) (mb _ mx) ma (by omega) (by omega) (bY ra (by omega)) λk kn k1 k2=>?_))
     dsimp only
     by_cases gk:na2 - k>0
     ·rw [if_pos gk]
      have LA:=L2.stepA (k:=k) ra (by omega) (fk (k:=k)) λu hu w' hw'=>by
       obtain ⟨j,j1,j2,ej⟩:=a6 hw'
       have q:=k2 j j1 j2
       unfold Bd at q
       simp only [Bool.false_eq_true,if_false,decide_eq_false_iff_not,Nat.zero_add] at q
       rw [au ej] at q
       have:=rb.ge (ltof ex) (by rw [show nb2 - 1+1=nb2 by omega];exact hu)
       omega
      by_cases g5:(k==0)=true
      ·rw [if_pos g5]
       exact wpS_pure ⟨smz,.inl ⟨_,_,rfl,LA.done rb (by simpa using g5)⟩⟩
      rw [if_neg g5]
      have g5':k≠0:=by simpa using g5
      have LB:=LA.stepB (k:=nb2 - 1) rb (by omega) (bE (by omega) (by omega) ex) λu hu w' hw'=>by
       obtain ⟨j,j1,j2,ej⟩:=a6 hw'
       rw [show j=nb2 - 1 by omega,ex] at ej;cases ej
       obtain ⟨ja,ja2,eja⟩:=ba (i:=0) (by simpa using hu)
       simp only [Nat.zero_add] at eja
       have q:=k1 ja (by omega)
       unfold Bd at q
       simp only [Bool.false_eq_true,if_false,decide_eq_true_eq,Nat.zero_add] at q
       rw [au eja] at q
       exact q
      refine wpS_bind (ax (by omega) λx2 ex2 _=>?_)
      rw [ex] at ex2;cases ex2
      by_cases g6:(nb2 - 1==1)=true
      ·rw [if_pos g6]
       exact wpS_pure ⟨smz,.inl ⟨_,_,rfl,fin _ _ _ LB (by simpa using g6)⟩⟩
      rw [if_neg g6]
      have g6':nb2 - 1≠1:=by simpa using g6
      refine wpS_bind (ax (by omega) λv ev mv=>wpS_bind (bI C (smz.kind.trans hk) (ma _ mv) mb (by omega) (by omega) (bY rb (by omega)) λk' kn' k1' k2'=>?_))
      dsimp only
      have hk1':1<=k':=by
       rcases Nat.lt_or_ge 0 k' with q|q
       ·exact q
       ·have q2:=k2' 0 (by omega) (by omega)
        unfold Bd at q2
        simp only [if_true,decide_eq_false_iff_not,Nat.add_zero] at q2
        rw [au (getElem?_pos b 0 (by omega))] at q2
        have:=hf _ (getElem?_pos b 0 (by omega)) v mv
        omega
      by_cases gk':nb2 - 1 - k'>0
      ·rw [if_pos gk']
       have LC:=LB.stepB (k:=k') rb (by omega) (fk (k:=k')) λu hu w' hw'=>by
        obtain ⟨j,j1,j2,ej⟩:=a6 hw'
        have q:=k2' j j1 j2
        unfold Bd at q
        simp only [if_true,decide_eq_false_iff_not,Nat.zero_add] at q
        rw [au ej] at q
        have:=ra.ge (ltof ev) (by rw [show k - 1+1=k by omega];exact hu)
        omega
       by_cases g7:(k'==1)=true
       ·rw [if_pos g7]
        exact wpS_pure ⟨smz,.inl ⟨_,_,rfl,fin _ _ _ LC (by simpa using g7)⟩⟩
       rw [if_neg g7]
       have g7':k'≠1:=by simpa using g7
       rw [if_neg (by simp;omega)]
       refine wpS_bind (ax (by omega) λv2 ev2 _=>?_)
       rw [ev] at ev2;cases ev2
       have LD:=LC.stepA (k:=k - 1) ra (by omega) (bE (by omega) (by omega) ev) λu hu w' hw'=>by
        obtain ⟨j,j1,j2,ej⟩:=a6 hw'
        rw [show j=k - 1 by omega,ev] at ej;cases ej
        obtain ⟨jb,jb2,ejb⟩:=ba (i:=0) (by simpa using hu)
        simp only [Nat.zero_add] at ejb
        have q:=k1' jb (by omega);unfold Bd at q;simp only [if_true,decide_eq_true_eq,Nat.zero_add] at q;rw [au ejb] at q;omega
       by_cases g8:(k - 1==0)=true
       ·rw [if_pos g8]
        exact wpS_pure ⟨smz,.inl ⟨_,_,rfl,LD.done rb (by simpa using g8)⟩⟩
       rw [if_neg g8]
       have g8':k - 1≠0:=by simpa using g8
       split
       ·exact wpS_pure ⟨smz,.inr ⟨_,_,_,_,_,_,rfl,LD,by omega,by omega,by omega,by omega,by omega⟩⟩
       ·exact wpS_pure ⟨smz,_,_,_,_,_,_,rfl,LD,by omega,by omega,by omega,by omega,by omega⟩
      ·rw [if_neg gk']
       refine wpS_bind (ax (by omega) λv2 ev2 _=>?_)
       rw [ev] at ev2;cases ev2
       have LD:=LB.stepA (k:=k - 1) ra (by omega) (bE (by omega) (by omega) ev) λu hu w' hw'=>by
        obtain ⟨j,j1,j2,ej⟩:=a6 hw'
        rw [show j=k - 1 by omega,ev] at ej;cases ej
        obtain ⟨jb,jb2,ejb⟩:=ba (i:=0) (by simpa using hu)
        simp only [Nat.zero_add] at ejb
        have q:=k1' jb (by omega);unfold Bd at q;simp only [if_true,decide_eq_true_eq,Nat.zero_add] at q;rw [au ejb] at q;omega
       by_cases g8:(k - 1==0)=true
       ·rw [if_pos g8]
        exact wpS_pure ⟨smz,.inl ⟨_,_,rfl,LD.done rb (by simpa using g8)⟩⟩
       rw [if_neg g8]
       have g8':k - 1≠0:=by simpa using g8
       split
       ·exact wpS_pure ⟨smz,.inr ⟨_,_,_,_,_,_,rfl,LD,by omega,by omega,by omega,by omega,by omega⟩⟩
       ·exact wpS_pure ⟨smz,_,_,_,_,_,_,rfl,LD,by omega,by omega,by omega,by omega,by omega⟩
     ·rw [if_neg gk]
      have LB:=L2.stepB (k:=nb2 - 1) rb (by omega) (bE (by omega) (by omega) ex) λu hu w' hw'=>by
       obtain ⟨j,j1,j2,ej⟩:=a6 hw'
       rw [show j=nb2 - 1 by omega,ex] at ej;cases ej
       obtain ⟨ja,ja2,eja⟩:=ba (i:=0) (by simpa using hu)
       simp only [Nat.zero_add] at eja
       have q:=k1 ja (by omega)
       unfold Bd at q
       simp only [Bool.false_eq_true,if_false,decide_eq_true_eq,Nat.zero_add] at q
       rw [au eja] at q
       exact q
      refine wpS_bind (ax (by omega) λx2 ex2 _=>?_)
      rw [ex] at ex2;cases ex2
      by_cases g6:(nb2 - 1==1)=true
      ·rw [if_pos g6]
       exact wpS_pure ⟨smz,.inl ⟨_,_,rfl,fin _ _ _ LB (by simpa using g6)⟩⟩
      rw [if_neg g6]
      have g6':nb2 - 1≠1:=by simpa using g6
      refine wpS_bind (ax (by omega) λv ev mv=>wpS_bind (bI C (smz.kind.trans hk) (ma _ mv) mb (by omega) (by omega) (bY rb (by omega)) λk' kn' k1' k2'=>?_))
      dsimp only
      have hk1':1<=k':=by
       rcases Nat.lt_or_ge 0 k' with q|q
       ·exact q
       ·have q2:=k2' 0 (by omega) (by omega)
        unfold Bd at q2
        simp only [if_true,decide_eq_false_iff_not,Nat.add_zero] at q2
        rw [au (getElem?_pos b 0 (by omega))] at q2
        have:=hf _ (getElem?_pos b 0 (by omega)) v mv
        omega
      by_cases gk':nb2 - 1 - k'>0
      ·rw [if_pos gk']
       have LC:=LB.stepB (k:=k') rb (by omega) (fk (k:=k')) λu hu w' hw'=>by
        obtain ⟨j,j1,j2,ej⟩:=a6 hw'
        have q:=k2' j j1 j2
        unfold Bd at q
        simp only [if_true,decide_eq_false_iff_not,Nat.zero_add] at q
        rw [au ej] at q
        have:=ra.ge (ltof ev) (by rw [show na2 - 1+1=na2 by omega];exact hu)
        omega
       by_cases g7:(k'==1)=true
       ·rw [if_pos g7]
        exact wpS_pure ⟨smz,.inl ⟨_,_,rfl,fin _ _ _ LC (by simpa using g7)⟩⟩
       rw [if_neg g7]
       have g7':k'≠1:=by simpa using g7
       rw [if_neg (by simp;omega)]
       refine wpS_bind (ax (by omega) λv2 ev2 _=>?_)
       rw [ev] at ev2;cases ev2
       have LD:=LC.stepA (k:=na2 - 1) ra (by omega) (bE (by omega) (by omega) ev) λu hu w' hw'=>by
        obtain ⟨j,j1,j2,ej⟩:=a6 hw'
        rw [show j=na2 - 1 by omega,ev] at ej;cases ej
        obtain ⟨jb,jb2,ejb⟩:=ba (i:=0) (by simpa using hu)
        simp only [Nat.zero_add] at ejb
        have q:=k1' jb (by omega);unfold Bd at q;simp only [if_true,decide_eq_true_eq,Nat.zero_add] at q;rw [au ejb] at q;omega
       by_cases g8:(na2 - 1==0)=true
       ·rw [if_pos g8]
        exact wpS_pure ⟨smz,.inl ⟨_,_,rfl,LD.done rb (by simpa using g8)⟩⟩
       rw [if_neg g8]
       have g8':na2 - 1≠0:=by simpa using g8
       split
       ·exact wpS_pure ⟨smz,.inr ⟨_,_,_,_,_,_,rfl,LD,by omega,by omega,by omega,by omega,by omega⟩⟩
       ·exact wpS_pure ⟨smz,_,_,_,_,_,_,rfl,LD,by omega,by omega,by omega,by omega,by omega⟩
      ·rw [if_neg gk']
       refine wpS_bind (ax (by omega) λv2 ev2 _=>?_)
       rw [ev] at ev2;cases ev2
       have LD:=LB.stepA (k:=na2 - 1) ra (by omega) (bE (by omega) (by omega) ev) λu hu w' hw'=>by
        obtain ⟨j,j1,j2,ej⟩:=a6 hw'
        rw [show j=na2 - 1 by omega,ev] at ej;cases ej
        obtain ⟨jb,jb2,ejb⟩:=ba (i:=0) (by simpa using hu)
        simp only [Nat.zero_add] at ejb
        have q:=k1' jb (by omega);unfold Bd at q;simp only [if_true,decide_eq_true_eq,Nat.zero_add] at q;rw [au ejb] at q;omega
       by_cases g8:(na2 - 1==0)=true
       ·rw [if_pos g8]
        exact wpS_pure ⟨smz,.inl ⟨_,_,rfl,LD.done rb (by simpa using g8)⟩⟩
       rw [if_neg g8]
       have g8':na2 - 1≠0:=by simpa using g8
       split
       ·exact wpS_pure ⟨smz,.inr ⟨_,_,_,_,_,_,rfl,LD,by omega,by omega,by omega,by omega,by omega⟩⟩
       ·exact wpS_pure ⟨smz,_,_,_,_,_,_,rfl,LD,by omega,by omega,by omega,by omega,by omega⟩
   ·rintro c y2 ⟨sm2,out2,na2,nb2,g2,p2,q2,rfl,L2,ha2,hb2,ha5,hb5,hu2⟩
    omega
   ·rintro c y2 ⟨sm2,⟨r,x,rfl,hr⟩|⟨out2,na2,nb2,g2,p2,q2,rfl,L2,ha2,hb2,ha5,hb5,hu2⟩⟩
    ·exact wpS_pure ⟨sm2,r,_,rfl,hr⟩
    dsimp only
    refine wpS_bind (wpS_modify (wpS_pure ⟨⟨sm2.kind,sm2.arr,sm2.pend,sm2.fail⟩,_,_,_,_,rfl,L2,ha2,hb2,ha5,hb5,by omega⟩))
 ·rintro c z ⟨sm,out,na,nb,g,rfl,L,ha,hb,ha3,hb3,ht⟩
  omega
 ·rintro c z ⟨sm,r,x,rfl,hr⟩
  exact wpS_pure (h r z hr sm)
end
end S6
namespace S6
open PySem PyProof.Rows
theorem uK (i:Nat):mergeAt' i=(do
 let s <- get
 let (some (sa,na,power),some (sb,nb,_)):=((pendingOf s)[i]?,(pendingOf s)[i+1]?)|unsupported "internal:list.sort.pending"
 set (setPending s (((pendingOf s).setIfInBounds i (sa,na+nb,power)).eraseIdxIfInBounds (i+1)))
 let some k <- db false (<- elem' (arrOf s) sb) (arrOf s) sa na 0|return false
 let (sa,na):=(sa+k,na - k)
 if na==0 then return true
 let some nb <- db true (<- elem' (arrOf s) (sa+na - 1)) (arrOf s) sb nb (nb - 1)|return false
 if nb==0 then return true
 let x:=(arrOf s).extract sa sb
 let y:=(arrOf s).extract sb (sb+nb)
 let merged <- if na<=nb then kc x y else kf x y
 modify λs=>setArr s (merged.toList.zipIdx.foldl (λa (p,j)=>a.setIfInBounds (sa+j) p) (arrOf s))
 return (failedOf (<- get)).isNone):=rfl
section
variable {prog:Program}{w:World}{A:Around}{E:Value->Shared->Prop}{s:Shared}{a₀:Array Keyed}{kd:SortKind}{ρ:Keyed->Nat}{st:SortSt}
theorem oV (base:Nat):∀ (l:List Keyed) (n:Nat) (P m S:List Keyed),P.length=base+n->m.length=l.length->∀ arr:Array Keyed,arr.toList=P++m++S->((l.zipIdx n).foldl (λa (p:Keyed×Nat)=>a.setIfInBounds (base+p.2) p.1) arr).toList=P++l++S
 |[],n,P,m,S,h,hm,arr,e=>by
  have:m=[]:=List.length_eq_zero_iff.mp hm
  subst this
  simpa using e
 |x::l,n,P,m,S,h,hm,arr,e=>by
  cases m with
  |nil=>cases hm
  |cons y m =>
   rw [List.zipIdx_cons,List.foldl_cons]
   have:=oV base l (n+1) (P++[x]) m S (by rw [List.length_append,h];rfl) (by simpa using hm) (arr.setIfInBounds (base+n) x) (by
    rw [Array.toList_setIfInBounds,e,<- h]
    simp)
   rw [this]
   simp
theorem Es {x:SortSt}{Q:PUnit->SortSt->Prop}(h:Q ⟨⟩ x):wpS (model prog w) A E s (set x:StateT SortSt Sem PUnit) Q st:=by
 unfold wpS
 rw [StateT.run_set]
 exact wpAny_pure ⟨rfl,h⟩
theorem pQ {c:Array Keyed}{X Y Z:List Keyed}{i j:Nat}(e:c.toList=X++Y++Z) (hi:i=X.length) (hj:j=X.length+Y.length):(c.extract i j).toList=Y:=by
 subst hi hj
 rw [Array.toList_extract,List.extract_eq_take_drop,e,List.append_assoc,List.drop_left,Nat.add_sub_cancel_left,List.take_left]
theorem qO {c:Array Keyed}{X Y Z:List Keyed}{i n:Nat}(e:c.toList=X++Y++Z) (hn:n=X.length+i) (hi:i<Y.length):c[n]?=some Y[i]:=by
 subst hn
 rw [<- Array.getElem?_toList,e,List.append_assoc,List.getElem?_append_right (by omega),Nat.add_sub_cancel_left,List.getElem?_append_left hi,List.getElem?_eq_getElem hi]
theorem Ri.at {l:List Keyed}(h:Ri ρ l){i j:Nat}(hj:j<l.length) (ij:i<=j):ρ (l[i]'(by omega))<=ρ l[j]:=by
 rcases Nat.lt_or_ge i j with q|q
 ·exact List.pairwise_iff_getElem.mp h i j (by omega) hj q
 ·obtain rfl:i=j:=by omega
  exact Nat.le_refl _
theorem vU {i:Nat}{P RA RB S:List Keyed}{pre post:List (Nat×Nat×Nat)}{pw q:Nat}{Q:Bool->SortSt->Prop}(C:Cm prog w A s kd a₀ ρ) (hk:kindOf st=kd) (hm:∀ p∈(arrOf st).toList,p∈a₀.toList) (hw:failedOf st=none)
  (e:(arrOf st).toList=P++(RA++RB)++S) (ra:Ri ρ RA) (rb:Ri ρ RB) (na:1<=RA.length) (nb:1<=RB.length)
  (ep:(pendingOf st).toList=pre++(P.length,RA.length,pw)::(P.length+RA.length,RB.length,q)::post) (hi:i=pre.length)
  (h:∀ z R,Ri ρ R->R.Perm (RA++RB)->(arrOf z).toList=P++R++S->kindOf z=kd->failedOf z=none->(pendingOf z).toList=pre++(P.length,RA.length+RB.length,pw)::post->Q true z) :
  wpS (model prog w) A E s (mergeAt' i) Q st:=by
 rw [uK]
 refine wpS_bind (wpS_get ?_)
 have p1:(pendingOf st)[i]?=some (P.length,RA.length,pw):=by rw [<- Array.getElem?_toList,ep,hi];simp
 have p2:(pendingOf st)[i+1]?=some (P.length+RA.length,RB.length,q):=by rw [<- Array.getElem?_toList,ep,hi];simp
 have p3:(((pendingOf st).setIfInBounds i (P.length,RA.length+RB.length,pw)).eraseIdxIfInBounds (i+1)).toList=pre++(P.length,RA.length+RB.length,pw)::post:=by
  rw [Array.toList_eraseIdxIfInBounds,Array.toList_setIfInBounds,ep,hi]
  simp [List.eraseIdx_append_of_length_le]
 dsimp only
 rw [p1,p2]
 dsimp only
 refine wpS_bind (Es ?_)
 have eA:(arrOf st).toList=P++RA++(RB++S):=by rw [e];simp
 have eB:(arrOf st).toList=(P++RA)++RB++S:=by rw [e];simp
 have sz:(arrOf st).size=P.length+RA.length+RB.length+S.length:=by rw [<- Array.length_toList,e];simp;omega
 have atA:∀ {n i:Nat}(hn:n=P.length+i) (h:i<RA.length),(arrOf st)[n]?=some RA[i]:=λhn h=>qO eA hn h
 have atB:∀ {n i:Nat}(hn:n=P.length+RA.length+i) (h:i<RB.length),(arrOf st)[n]?=some RB[i]:=λhn h=>qO eB (by rw [List.length_append];exact hn) h
 have plain:Ri ρ (RA++RB)->Q true (setPending st (((pendingOf st).setIfInBounds i (P.length,RA.length+RB.length,pw)).eraseIdxIfInBounds (i+1))):=λr=>h _ (RA++RB) r (List.Perm.refl _) e hk hw p3
 refine wpS_bind (ax (by omega) λx0 e0 m0=>?_)
 have x0B:x0=RB[0]:=by
  rw [atB (i:=0) (n:=P.length+RA.length) (by omega) (by omega)] at e0;exact (Option.some.inj e0).symm
 refine wpS_bind (bI C hk (hm _ m0) hm (by omega) (by omega) (λi j ij jn=>by rw [au (atA rfl (by omega)),au (atA rfl jn)];exact ra.at jn ij) λk kn k1 k2=>?_)
 dsimp only
 have k1':∀ (i:Nat) (hi:i<RA.length),i<k->ρ RA[i]<=ρ x0:=λi hi ik=>by
  have:=k1 i ik
  unfold Bd at this
  simp only [Bool.false_eq_true,if_false,decide_eq_true_eq] at this
  rw [au (atA rfl hi)] at this
  exact this
 have k2':∀ (i:Nat) (hi:i<RA.length),k<=i->ρ x0<ρ RA[i]:=λi hi ik=>by
  have:=k2 i ik hi
  unfold Bd at this
  simp only [Bool.false_eq_true,if_false,decide_eq_false_iff_not] at this
  rw [au (atA rfl hi)] at this
  omega
 have B0:∀ y∈RB,ρ x0<=ρ y:=λy hy=>by
  obtain ⟨j,hj,rfl⟩:=List.mem_iff_getElem.mp hy
  rw [x0B]
  exact rb.at hj (Nat.zero_le _)
 by_cases g1:(RA.length - k==0)=true
 ·rw [if_pos g1]
  have g1':RA.length - k=0:=by simpa using g1
  refine wpS_pure (plain (ra.app rb λx hx y hy=>?_))
  obtain ⟨j,hj,rfl⟩:=List.mem_iff_getElem.mp hx
  exact Nat.le_trans (k1' j hj (by omega)) (B0 y hy)
 rw [if_neg g1]
 have g1':RA.length - k≠0:=by simpa using g1
 refine wpS_bind (ax (by omega) λy0 ey0 my0=>?_)
 have y0A:y0=RA[RA.length - 1]:=by
  rw [atA (i:=RA.length - 1) (by omega) (by omega)] at ey0;exact (Option.some.inj ey0).symm
 refine wpS_bind (bI C hk (hm _ my0) hm (by omega) (by omega) (λi j ij jn=>by rw [au (atB rfl (by omega)),au (atB rfl jn)];exact rb.at jn ij) λk' kn' b1 b2=>?_)
 dsimp only
 have b1':∀ (i:Nat) (hi:i<RB.length),i<k'->ρ RB[i]<ρ y0:=λi hi ik=>by
  have:=b1 i ik
  unfold Bd at this
  simp only [if_true,decide_eq_true_eq] at this
  rw [au (atB rfl hi)] at this
  exact this
 have b2':∀ (i:Nat) (hi:i<RB.length),k'<=i->ρ y0<=ρ RB[i]:=λi hi ik=>by
  have:=b2 i ik hi
  unfold Bd at this
  simp only [if_true,decide_eq_false_iff_not] at this
  rw [au (atB rfl hi)] at this
  omega
 have A9:∀ x∈RA,ρ x<=ρ y0:=λx hx=>by
  obtain ⟨j,hj,rfl⟩:=List.mem_iff_getElem.mp hx
  rw [y0A]
  exact ra.at (by omega) (by omega)
 have hk1:1<=k':=by
  rcases Nat.lt_or_ge 0 k' with q|q
  ·exact q
  ·have h1:=b2' 0 (by omega) (by omega)
   have h2:=k2' (RA.length - 1) (by omega) (by omega)
   rw [<- y0A] at h2
   rw [<- x0B] at h1
   omega
 rw [if_neg (by simp;omega)]
 have eX:((arrOf st).extract (P.length+k) (P.length+RA.length)).toList=RA.drop k:=pQ (X:=P++RA.take k) (Z:=RB++S) (by
  have h4:=List.take_append_drop k RA
  calc (arrOf st).toList=P++((RA.take k++RA.drop k)++RB)++S:=by rw [h4];exact e
   _=_:=by simp only [List.append_assoc]) (by simp;omega) (by simp;omega)
 have eY:((arrOf st).extract (P.length+RA.length) (P.length+RA.length+k')).toList=RB.take k':=pQ (X:=P++RA) (Z:=RB.drop k'++S) (by
  have h4:=List.take_append_drop k' RB
  calc (arrOf st).toList=P++(RA++(RB.take k'++RB.drop k'))++S:=by rw [h4];exact e
   _=_:=by simp only [List.append_assoc]) (by simp) (by simp;omega)
 generalize hX:(arrOf st).extract (P.length+k) (P.length+RA.length)=X at eX ⊢
 generalize hY:(arrOf st).extract (P.length+RA.length) (P.length+RA.length+k')=Y at eY ⊢
 have szX:X.size=RA.length - k:=by rw [<- Array.length_toList,eX];simp
 have szY:Y.size=k':=by rw [<- Array.length_toList,eY];simp;omega
 have memA:∀ x∈RA,x∈a₀.toList:=λx hx=>hm x (by rw [e];simp [hx])
 have memB:∀ x∈RB,x∈a₀.toList:=λx hx=>hm x (by rw [e];simp [hx])
 have hf:∀ x,Y[0]?=some x->∀ y∈X.toList,ρ x<ρ y:=λx hx y hy=>by
  have:x=x0:=by
   rw [<- Array.getElem?_toList,eY,List.getElem?_take_of_lt (by omega),List.getElem?_eq_getElem (by omega)] at hx
   rw [x0B];exact (Option.some.inj hx).symm
  subst this
  rw [eX] at hy
  obtain ⟨j,hj,rfl⟩:=List.mem_iff_getElem.mp hy
  rw [List.getElem_drop]
  rw [List.length_drop] at hj
  exact k2' _ (by omega) (by omega)
 have hl:∀ y,X[X.size - 1]?=some y->∀ x∈Y.toList,ρ x<ρ y:=λy hy x hx=>by
  have:y=y0:=by
   rw [<- Array.getElem?_toList,eX,List.getElem?_drop,szX,show k+(RA.length - k - 1)=RA.length - 1 by omega,List.getElem?_eq_getElem (by omega)] at hy
   rw [y0A];exact (Option.some.inj hy).symm
  subst this
  rw [eY] at hx
  obtain ⟨j,hj,rfl⟩:=List.mem_iff_getElem.mp hx
  rw [List.getElem_take]
  rw [List.length_take] at hj
  exact b1' _ (by omega) (by omega)
 have rX:Ri ρ X.toList:=by rw [eX];exact ra.sublist (List.drop_sublist _ _)
 have rY:Ri ρ Y.toList:=by rw [eY];exact rb.sublist (List.take_sublist _ _)
 have mX:∀ p∈X.toList,p∈a₀.toList:=λp hp=>by rw [eX] at hp;exact memA p (List.mem_of_mem_drop hp)
 have mY:∀ p∈Y.toList,p∈a₀.toList:=λp hp=>by rw [eY] at hp;exact memB p (List.mem_of_mem_take hp)
 have last:∀ r z,Mg ρ X Y r->Sm (setPending st (((pendingOf st).setIfInBounds i (P.length,RA.length+RB.length,pw)).eraseIdxIfInBounds (i+1))) z ->
   wpS (model prog w) A E s (do
    modify λs=>setArr s (r.toList.zipIdx.foldl (λa (p:Keyed×Nat)=>a.setIfInBounds (P.length+k+p.2) p.1) (arrOf s))
    return (failedOf (<- get)).isNone) Q z:=λr z hr sm=>by
  refine wpS_bind (wpS_modify (wpS_bind (wpS_get (wpS_pure ?_))))
  have hz:failedOf z=none:=sm.fail.trans hw
  have ea:arrOf z=arrOf st:=sm.arr
  have hr2:=hr.2
  rw [eX,eY] at hr2
  have el:=oV (P.length+k) r.toList 0 (P++RA.take k) (RA.drop k++RB.take k') (RB.drop k'++S) (by simp;omega) hr2.length_eq.symm (arrOf z) (by
   have h4:=List.take_append_drop k RA
   have h5:=List.take_append_drop k' RB
   rw [ea]
   calc (arrOf st).toList=P++((RA.take k++RA.drop k)++(RB.take k'++RB.drop k'))++S:=by rw [h4,h5];exact e
    _=_:=by simp only [List.append_assoc])
  have out:=h (setArr z (r.toList.zipIdx.foldl (λa (p:Keyed×Nat)=>a.setIfInBounds (P.length+k+p.2) p.1) (arrOf z))) (RA.take k++r.toList++RB.drop k') ?_ ?_ (el.trans (by simp only [List.append_assoc])) (sm.kind.trans hk) hz (by
    show (pendingOf z).toList=_
    rw [sm.pend];exact p3)
  ·rw [show (failedOf (setArr z (r.toList.zipIdx.foldl (λa (p:Keyed×Nat)=>a.setIfInBounds (P.length+k+p.2) p.1) (arrOf z)))).isNone=true by show (failedOf z).isNone=true;rw [hz];rfl]
   exact out
  ·have inr:∀ x∈r.toList,x∈RA.drop k\/x∈RB.take k':=λx hx=>List.mem_append.mp (hr2.mem_iff.mp hx)
   refine (Ri.app (ra.sublist (List.take_sublist _ _)) hr.1 λx hx y hy=>?_).app (rb.sublist (List.drop_sublist _ _)) λx hx y hy=>?_
   ·obtain ⟨j,hj,rfl⟩:=List.mem_iff_getElem.mp hx
    rw [List.length_take] at hj
    rw [List.getElem_take]
    have q:=k1' j (by omega) (by omega)
    rcases inr y hy with q2|q2
    ·obtain ⟨j2,hj2,rfl⟩:=List.mem_iff_getElem.mp q2
     rw [List.getElem_drop]
     rw [List.length_drop] at hj2
     exact ra.at (by omega) (by omega)
    ·exact Nat.le_trans q (B0 y (List.mem_of_mem_take q2))
   ·obtain ⟨j,hj,rfl⟩:=List.mem_iff_getElem.mp hy
    rw [List.length_drop] at hj
    rw [List.getElem_drop]
    have q:=b2' (k'+j) (by omega) (by omega)
    have hx:x∈RA\/x∈RB.take k':=by
     rcases List.mem_append.mp hx with q|q
     ·exact .inl (List.mem_of_mem_take q)
     ·rcases inr x q with q|q
      ·exact .inl (List.mem_of_mem_drop q)
      ·exact .inr q
    rcases hx with q2|q2
    ·exact Nat.le_trans (A9 x q2) q
    ·obtain ⟨j2,hj2,rfl⟩:=List.mem_iff_getElem.mp q2
     rw [List.getElem_take]
     rw [List.length_take] at hj2
     exact rb.at (by omega) (by omega)
  ·rw [List.append_assoc]
   refine (List.Perm.append_left _ (hr2.append_right _)).trans ?_
   rw [List.append_assoc,List.take_append_drop,<- List.append_assoc,List.take_append_drop]
 split
 ·refine wpS_bind (vS C hk mX mY rX rY (by omega) (by omega) (λx hx y hy=>Nat.le_of_lt (hf x hx y hy)) hl λr z hr sm=>?_)
  exact last r z hr sm
 ·refine wpS_bind (vT C hk mX mY rX rY (by omega) (by omega) hf (λy hy x hx=>Nat.le_of_lt (hl y hy x hx)) λr z hr sm=>?_)
  exact last r z hr sm
end
end S6
namespace S6
open PySem PyProof.Rows
def hW (lo a nrem:Nat):StateT SortSt Sem AscSt :=
 forIn [a:nrem] ((none,a):AscSt) λ_ c=>do
  let x <- ltAt' (lo+c.snd) (lo+c.snd - 1)
  match x with
  |some smaller=>if smaller=true then pure (ForInStep.done (none,c.snd)) else pure (ForInStep.yield (none,c.snd+1))
  |_=>pure (ForInStep.done (some none,c.snd))
def gM (lo n nrem:Nat):StateT SortSt Sem (Option Nat):=do
 reverseSlice' lo (lo+n)
 let c <- hW lo n nrem
 match c.fst with
 |some r=>pure r
 |none=>pure (some c.snd)
def jo (lo n nrem:Nat):StateT SortSt Sem DescSt :=
 forIn [n:nrem] ((none,n,0):DescSt) λ_ c=>do
  let x <- ltAt' (lo+c.snd.fst) (lo+c.snd.fst - 1)
  match x with
  |some smaller =>
   if smaller=true then
    if c.snd.snd>0 then do
     reverseSlice' (lo+c.snd.fst - (c.snd.snd+1)) (lo+c.snd.fst)
     pure (ForInStep.yield (none,c.snd.fst+1,0))
    else pure (ForInStep.yield (none,c.snd.fst+1,0))
   else do
    let x <- ltAt' (lo+c.snd.fst - 1) (lo+c.snd.fst)
    match x with
    |some larger =>
     if larger=true then pure (ForInStep.done (none,c.snd.fst,c.snd.snd))
     else pure (ForInStep.yield (none,c.snd.fst+1,c.snd.snd+1))
    |_=>pure (ForInStep.done (some none,c.snd.fst,c.snd.snd))
  |_=>pure (ForInStep.done (some none,c.snd.fst,c.snd.snd))
def fQ (lo n nrem:Nat):StateT SortSt Sem (Option Nat):=do
 liftM (rule "list.sort.descending-run")
 let c <- jo lo (n+1) nrem
 match c.fst with
 |some r=>pure r
 |none =>
  if c.snd.snd>0 then do
   reverseSlice' (lo+c.snd.fst - (c.snd.snd+1)) (lo+c.snd.fst)
   gM lo c.snd.fst nrem
  else gM lo c.snd.fst nrem
theorem uA (lo nrem:Nat):countRun' lo nrem=(do
  let c <- hW lo 1 nrem
  match c.fst with
  |some r=>pure r
  |none =>
   if (c.snd==nrem)=true then pure (some c.snd)
   else if c.snd>1 then do
    let x <- ltAt' lo (lo+c.snd - 1)
    match x with
    |some rose=>if rose=true then pure (some c.snd) else do
      reverseSlice' lo (lo+c.snd)
      fQ lo c.snd nrem
    |_=>pure none
   else fQ lo c.snd nrem):=by
 rw [countRun'_eq]
 unfold fQ gM jo hW
 show (bind _ _:StateT SortSt Sem (Option Nat))=bind _ _
 refine congrArg (bind _) ?_
 funext c
 obtain ⟨r,n⟩:=c
 cases r with
 |some r=>rfl
 |none =>
  dsimp only
  split
  ·rfl
  ·split
   ·congr 1
    funext x
    cases x with
    |none=>rfl
    |some rose =>
     dsimp only
     split
     ·rfl
     ·congr 1
      funext _r
      congr 1;funext _u;congr 1;congr 1;funext s2;obtain ⟨r2,n2,q2⟩:=s2
      cases r2 with
      |some r2=>rfl
      |none =>
       dsimp only
       split
       ·congr 1;funext _v;(congr 1;funext _w;congr 1;(funext s3;obtain ⟨r3,n3⟩:=s3;cases r3<;>rfl))
       ·(congr 1;funext _w;congr 1;(funext s3;obtain ⟨r3,n3⟩:=s3;cases r3<;>rfl))
   ·skip
    congr 1;funext _u;congr 1;congr 1;funext s2;obtain ⟨r2,n2,q2⟩:=s2
    cases r2 with
    |some r2=>rfl
    |none =>
     dsimp only
     split
     ·congr 1;funext _v;(congr 1;funext _w;congr 1;(funext s3;obtain ⟨r3,n3⟩:=s3;cases r3<;>rfl))
     ·(congr 1;funext _w;congr 1;(funext s3;obtain ⟨r3,n3⟩:=s3;cases r3<;>rfl))
end S6
namespace S6
open PySem PyProof.Rows
def rl (ρ:Keyed->Nat) (lo:Nat) (xs:Array Keyed) (i:Nat):Nat:=rk ρ xs (lo+i)
def UpL (ρ:Keyed->Nat) (lo:Nat) (xs:Array Keyed) (n:Nat):Prop:=∀ i j,i<=j->j<n->rl ρ lo xs i<=rl ρ lo xs j
def DnL (ρ:Keyed->Nat) (lo:Nat) (xs:Array Keyed) (n:Nat):Prop:=∀ i j,i<=j->j<n->rl ρ lo xs j<=rl ρ lo xs i
structure OkL (kd:SortKind) (a₀:Array Keyed) (lo:Nat) (pf:Nat->Option Keyed) (pd:Array (Nat×Nat×Nat)) (st:SortSt):Prop where
 perm:(arrOf st).Perm a₀
 kind:kindOf st=kd
 well:failedOf st=none
 runs:pendingOf st=pd
 pfx:∀ k,k<lo->(arrOf st)[k]?=pf k
section
variable {prog:Program}{w:World}{A:Around}{E:Value->Shared->Prop}{s:Shared}{a₀:Array Keyed}{kd:SortKind}{ρ:Keyed->Nat}{st:SortSt}{lo:Nat}{pf:Nat->Option Keyed}{pd:Array (Nat×Nat×Nat)}
theorem OkL.sz (o:OkL kd a₀ lo pf pd st):(arrOf st).size=a₀.size:=o.perm.size_eq
theorem OkL.rev {i j:Nat}(o:OkL kd a₀ lo pf pd st) (hi:lo<=i) (hj:j<=a₀.size):OkL kd a₀ lo pf pd (setArr st (mirror (arrOf st) i j ((j - i) / 2))) :=
 ⟨(mirror_perm _ _ _ _).trans o.perm,o.kind,o.well,o.runs,λk hk=>by
  show (mirror (arrOf st) i j ((j - i) / 2))[k]?=_
  rw [getElem?_mirror_all (by rw [o.sz];exact hj),if_neg (by omega)]
  exact o.pfx k hk⟩
theorem OkL.down {n d:Nat}(o:OkL kd a₀ lo pf pd st) (hn:n<a₀.size) (hd:d<=n) (h:lo<=n - d):OkL kd a₀ lo pf pd (setArr st (bubble (arrOf st) n d)) :=
 ⟨(bubble_perm _ _ _).trans o.perm,o.kind,o.well,o.runs,λk hk=>by
  show (bubble (arrOf st) n d)[k]?=_
  rw [getElem?_bubble (by rw [o.sz];exact hn) d hd,if_neg (by omega),if_neg (by omega)]
  exact o.pfx k hk⟩
theorem lc {xs:Array Keyed}{i j:Nat}(hj:lo+j<=xs.size) (k:Nat) :
  rl ρ lo (mirror xs (lo+i) (lo+j) ((lo+j - (lo+i)) / 2)) k=rl ρ lo xs (if i<=k/\k<j then i+j - 1 - k else k):=by
 unfold rl
 rw [Bx hj]
 by_cases q:i<=k/\k<j
 ·rw [if_pos (by omega),if_pos q];congr 1;omega
 ·rw [if_neg (by omega),if_neg q]
theorem zg {xs:Array Keyed}{n d:Nat}(hn:lo+n<xs.size) (hd:d<=n) (k:Nat) :
  rl ρ lo (bubble xs (lo+n) d) k=rl ρ lo xs (if k=n - d then n else if n - d<k/\k<=n then k - 1 else k):=by
 unfold rl
 rw [y3 hn (by omega)]
 by_cases q:k=n - d
 ·rw [if_pos (by omega),if_pos q]
 ·rw [if_neg (by omega),if_neg q]
  by_cases q2:n - d<k/\k<=n
  ·rw [if_pos (by omega),if_pos q2];congr 1;omega
  ·rw [if_neg (by omega),if_neg q2]
theorem fY {x y i j:Nat}{Q:Option Bool->SortSt->Prop}(C:Cm prog w A s kd a₀ ρ) (o:OkL kd a₀ lo pf pd st) (hx:x=lo+i) (hy:y=lo+j) (hi:lo+i<a₀.size) (hj:lo+j<a₀.size) (h:Q (some (decide (rl ρ lo (arrOf st) i<rl ρ lo (arrOf st) j))) st) :
  wpS (model prog w) A E s (ltAt' x y) Q st:=by
 subst hx hy
 rw [ltAt'_eq]
 refine wpS_bind (wpS_get ?_)
 dsimp only
 have mem:∀ p∈(arrOf st).toList,p∈a₀.toList:=λp hp=>(Array.perm_iff_toList_perm.mp o.perm).mem_iff.mp hp
 refine wpS_bind (ax (by rw [o.sz];exact hi) λx ex mx=>wpS_bind (ax (by rw [o.sz];exact hj) λy ey my=>hU C o.kind (mem _ mx) (mem _ my) ?_))
 unfold rl at h
 rw [au ex,au ey] at h
 exact h
end
end S6
namespace S6
open PySem PyProof.Rows
section
variable {prog:Program}{w:World}{A:Around}{E:Value->Shared->Prop}{s:Shared}{a₀:Array Keyed}{kd:SortKind}{ρ:Keyed->Nat}{st:SortSt}{lo:Nat}{pf:Nat->Option Keyed}{pd:Array (Nat×Nat×Nat)}
theorem UpL.more {xs:Array Keyed}{k:Nat}(u:UpL ρ lo xs k) (h:k=0\/rl ρ lo xs (k - 1)<=rl ρ lo xs k):UpL ρ lo xs (k+1):=λi j ij jk=>by
 rcases Nat.lt_or_ge j k with q|q
 ·exact u i j ij q
 ·obtain rfl:j=k:=by omega
  rcases Nat.lt_or_ge i j with q|q
  ·have:=u i (j - 1) (by omega) (by omega)
   omega
  ·obtain rfl:i=j:=by omega
   exact Nat.le_refl _
theorem DnL.more {xs ys:Array Keyed}{k:Nat}(u:DnL ρ lo xs k) (e:∀ i,rl ρ lo ys i=rl ρ lo xs i) (h:k=0\/rl ρ lo xs k<=rl ρ lo xs (k - 1)):DnL ρ lo ys (k+1):=λi j ij jk=>by
 rw [e,e]
 rcases Nat.lt_or_ge j k with q|q
 ·exact u i j ij q
 ·obtain rfl:j=k:=by omega
  rcases Nat.lt_or_ge i j with q|q
  ·have:=u i (j - 1) (by omega) (by omega)
   omega
  ·obtain rfl:i=j:=by omega
   exact Nat.le_refl _
theorem qP {a n:Nat}{Q:AscSt->SortSt->Prop}(C:Cm prog w A s kd a₀ ρ) (o:OkL kd a₀ lo pf pd st) (hn:lo+n<=a₀.size) (h1:1<=a) (ha:a<=n) (u:UpL ρ lo (arrOf st) a)
  (h:∀ m,a<=m->m<=n->UpL ρ lo (arrOf st) m->(m<n->rl ρ lo (arrOf st) m<rl ρ lo (arrOf st) (m - 1))->Q (none,m) st):wpS (model prog w) A E s (hW lo a n) Q st:=by
 unfold hW
 refine wpS_forRange (λk c z=>z=st/\c=(none,k)/\UpL ρ lo (arrOf st) k) ?_ ?_ ⟨rfl,rfl,u⟩
 ·rintro k c z l1 l2 ⟨rfl,rfl,uk⟩
  dsimp only
  have e2:lo+k - 1=lo+(k - 1):=by omega
  refine wpS_bind (fY (i:=k) (j:=k - 1) C o rfl e2 (by omega) (by omega) ?_)
  dsimp only
  by_cases g:rl ρ lo (arrOf z) k<rl ρ lo (arrOf z) (k - 1)
  ·rw [decide_eq_true g]
   exact wpS_pure (h k l1 (by omega) uk λ_=>g)
  ·rw [decide_eq_false g]
   exact wpS_pure ⟨rfl,rfl,uk.more (.inr (Nat.le_of_not_lt g))⟩
 ·rintro c z ⟨rfl,rfl,uk⟩
  rw [Nat.max_eq_right ha] at uk ⊢
  exact h n ha (Nat.le_refl _) uk λq=>absurd q (Nat.lt_irrefl _)
theorem pS {m n:Nat}{Q:Option Nat->SortSt->Prop}(C:Cm prog w A s kd a₀ ρ) (o:OkL kd a₀ lo pf pd st) (hn:lo+n<=a₀.size) (h1:1<=m) (hm:m<=n) (d:DnL ρ lo (arrOf st) m)
  (h:∀ k z,OkL kd a₀ lo pf pd z->1<=k->k<=n->UpL ρ lo (arrOf z) k->Q (some k) z):wpS (model prog w) A E s (gM lo m n) Q st:=by
 unfold gM
 refine wpS_bind (wpS_reverse ?_)
 have o':OkL kd a₀ lo pf pd (setArr st (mirror (arrOf st) lo (lo+m) ((lo+m - lo) / 2))):=o.rev (Nat.le_refl _) (by omega)
 have hs:lo+m<=(arrOf st).size:=by rw [o.sz];omega
 refine wpS_bind (qP C o' hn h1 hm (λi j ij jm=>?_) λk k1 k2 uk _=>wpS_pure (h k _ o' (by omega) k2 uk))
 have e:=lc (ρ:=ρ) (lo:=lo) (xs:=arrOf st) (i:=0) (j:=m) hs
 show rl ρ lo (mirror (arrOf st) (lo+0) (lo+m) ((lo+m - (lo+0)) / 2)) i<=rl ρ lo (mirror (arrOf st) (lo+0) (lo+m) ((lo+m - (lo+0)) / 2)) j
 rw [e,e,if_pos (by omega),if_pos (by omega)]
 exact d _ _ (by omega) (by omega)
def LkL (ρ:Keyed->Nat) (lo:Nat) (xs:Array Keyed) (m e:Nat):Prop:=e+1<=m/\∀ i,m - (e+1)<=i->i<m->rl ρ lo xs i=rl ρ lo xs (m - 1)
theorem LkL.rev {xs:Array Keyed}{m e:Nat}(l:LkL ρ lo xs m e) (hm:lo+m<=xs.size) (k:Nat):rl ρ lo (mirror xs (lo+m - (e+1)) (lo+m) ((lo+m - (lo+m - (e+1))) / 2)) k=rl ρ lo xs k:=by
 have l1:=l.1
 rw [show lo+m - (e+1)=lo+(m - (e+1)) by omega,lc hm]
 split
 ·rename_i q
  rw [l.2 _ (by omega) (by omega),l.2 k q.1 q.2]
 ·rfl
theorem zh {m n:Nat}{Q:DescSt->SortSt->Prop}(C:Cm prog w A s kd a₀ ρ) (o:OkL kd a₀ lo pf pd st) (hn:lo+n<=a₀.size) (h1:1<=m) (hm:m<=n) (d:DnL ρ lo (arrOf st) m)
  (h:∀ k e z,OkL kd a₀ lo pf pd z->m<=k->k<=n->DnL ρ lo (arrOf z) k->LkL ρ lo (arrOf z) k e->Q (none,k,e) z):wpS (model prog w) A E s (jo lo m n) Q st:=by
 unfold jo
 refine wpS_forRange (λk c z=>∃ e,c=(none,k,e)/\OkL kd a₀ lo pf pd z/\DnL ρ lo (arrOf z) k/\LkL ρ lo (arrOf z) k e) ?_ ?_ ⟨0,rfl,o,d,h1,λi i1 i2=>by rw [show i=m - 1 by omega]⟩
 ·rintro k c z l1 l2 ⟨e,rfl,oz,dz,lz⟩
  dsimp only
  have e2:lo+k - 1=lo+(k - 1):=by omega
  have le:=lz.1
  have one:∀ xs:Array Keyed,LkL ρ lo xs (k+1) 0:=λxs=>⟨by omega,λi i1 i2=>by rw [show i=k+1 - 1 by omega]⟩
  refine wpS_bind (fY (i:=k) (j:=k - 1) C oz rfl e2 (by omega) (by omega) ?_)
  dsimp only
  by_cases g:rl ρ lo (arrOf z) k<rl ρ lo (arrOf z) (k - 1)
  ·rw [decide_eq_true g]
   simp only [if_true]
   split
   ·exact wpS_bind (wpS_reverse (wpS_pure ⟨0,rfl,oz.rev (by omega) (by omega),dz.more (lz.rev (by rw [oz.sz];omega)) (.inr (Nat.le_of_lt g)),one _⟩))
   ·exact wpS_pure ⟨0,rfl,oz,dz.more (λ_=>rfl) (.inr (Nat.le_of_lt g)),one _⟩
  ·rw [decide_eq_false g]
   simp only [Bool.false_eq_true,if_false]
   refine wpS_bind (fY (i:=k - 1) (j:=k) C oz e2 rfl (by omega) (by omega) ?_)
   dsimp only
   by_cases g2:rl ρ lo (arrOf z) (k - 1)<rl ρ lo (arrOf z) k
   ·rw [decide_eq_true g2]
    simp only [if_true]
    exact wpS_pure (h k e z oz l1 (by omega) dz lz)
   ·rw [decide_eq_false g2]
    simp only [Bool.false_eq_true,if_false]
    refine wpS_pure ⟨e+1,rfl,oz,dz.more (λ_=>rfl) (.inr (Nat.le_of_not_lt g2)),by omega,λi i1 i2=>?_⟩
    rw [show k+1 - 1=k by omega]
    rcases Nat.lt_or_ge i k with q|q
    ·rw [lz.2 i (by omega) q];omega
    ·rw [show i=k by omega]
 ·rintro c z ⟨e,rfl,oz,dz,lz⟩
  rw [Nat.max_eq_right hm] at dz lz ⊢
  exact h n e z oz hm (Nat.le_refl _) dz lz
theorem ny {m n:Nat}{Q:Option Nat->SortSt->Prop}(C:Cm prog w A s kd a₀ ρ) (o:OkL kd a₀ lo pf pd st) (hn:lo+n<=a₀.size) (hm:m+1<=n) (d:DnL ρ lo (arrOf st) (m+1))
  (h:∀ k z,OkL kd a₀ lo pf pd z->1<=k->k<=n->UpL ρ lo (arrOf z) k->Q (some k) z):wpS (model prog w) A E s (fQ lo m n) Q st:=by
 unfold fQ
 refine wpS_bind (wpS_lift (wpAny_rule ⟨rfl,wpS_bind (zh C o hn (by omega) hm d λk e z oz k1 k2 dz lz=>?_)⟩))
 dsimp only
 have le:=lz.1
 split
 ·refine wpS_bind (wpS_reverse (pS C (oz.rev (by omega) (by omega)) hn (by omega) k2 (λi j ij jk=>?_) h))
  have e:=lz.rev (by rw [oz.sz];omega)
  show rl ρ lo (mirror _ _ _ _) j<=rl ρ lo (mirror _ _ _ _) i
  rw [e,e]
  exact dz i j ij jk
 ·exact pS C oz hn (by omega) k2 dz h
theorem xr {n:Nat}{Q:Option Nat->SortSt->Prop}(C:Cm prog w A s kd a₀ ρ) (o:OkL kd a₀ lo pf pd st) (hn:lo+n<=a₀.size) (h1:1<=n)
  (h:∀ k z,OkL kd a₀ lo pf pd z->1<=k->k<=n->UpL ρ lo (arrOf z) k->Q (some k) z):wpS (model prog w) A E s (countRun' lo n) Q st:=by
 rw [uA]
 refine wpS_bind (qP C o hn (Nat.le_refl _) h1 (λi j ij j1=>by rw [show i=j by omega];exact Nat.le_refl _) λm m1 m2 um lm=>?_)
 dsimp only
 split
 ·rename_i q
  exact wpS_pure (h m st o m1 m2 um)
 ·rename_i q
  have mn:m<n:=by
   rcases Nat.lt_or_ge m n with z|z
   ·exact z
   ·exact (q (beq_iff_eq.mpr (by omega))).elim
  have gm:=lm mn
  split
  ·have e2:lo+m - 1=lo+(m - 1):=by omega
   refine wpS_bind (fY (i:=0) (j:=m - 1) C o rfl e2 (by omega) (by omega) ?_)
   dsimp only
   by_cases g:rl ρ lo (arrOf st) 0<rl ρ lo (arrOf st) (m - 1)
   ·rw [decide_eq_true g]
    exact wpS_pure (h m st o m1 m2 um)
   ·rw [decide_eq_false g]
    have hs:lo+m<=(arrOf st).size:=by rw [o.sz];omega
    have e:=lc (ρ:=ρ) (lo:=lo) (xs:=arrOf st) (i:=0) (j:=m) hs
    refine wpS_bind (wpS_reverse (ny C (o.rev (Nat.le_refl _) (by omega)) hn mn (λi j ij jm=>?_) h))
    have all:∀ i,i<m->rl ρ lo (arrOf st) i=rl ρ lo (arrOf st) (m - 1):=λi im=>by
     have a1:=um 0 i (by omega) im
     have a2:=um i (m - 1) (by omega) (by omega)
     omega
    show rl ρ lo (mirror (arrOf st) (lo+0) (lo+m) ((lo+m - (lo+0)) / 2)) j<=rl ρ lo (mirror (arrOf st) (lo+0) (lo+m) ((lo+m - (lo+0)) / 2)) i
    rw [e,e]
    rcases Nat.lt_or_ge j m with q1|q1
    ·rw [if_pos (by omega),if_pos (by omega),all _ (by omega),all (0+m - 1 - i) (by omega)]
     exact Nat.le_refl _
    ·obtain rfl:j=m:=by omega
     rw [if_neg (by omega)]
     split
     ·rw [all (0+j - 1 - i) (by omega)];omega
     ·rw [show i=j by omega];exact Nat.le_refl _
  ·refine ny C o hn mn (λi j ij jm=>?_) h
   obtain rfl:m=1:=by omega
   rcases Nat.lt_or_ge i j with q1|q1
   ·obtain ⟨rfl,rfl⟩:i=0/\j=1:=by omega
    exact Nat.le_of_lt gm
   ·rw [show i=j by omega];exact Nat.le_refl _
theorem BN {n ok:Nat}{Q:Bool->SortSt->Prop}(C:Cm prog w A s kd a₀ ρ) (o:OkL kd a₀ lo pf pd st) (hn:lo+n<=a₀.size) (hk:ok<=n) (u:UpL ρ lo (arrOf st) ok)
  (h:∀ z,OkL kd a₀ lo pf pd z->UpL ρ lo (arrOf z) n->Q true z):wpS (model prog w) A E s (binarySort' lo n ok) Q st:=by
 rw [binarySort'_eq]
 have first:∀ {k:Nat},k<=max ok 1->UpL ρ lo (arrOf st) k:=fun {k} hk1 i j ij jk=>by
  rcases Nat.lt_or_ge j ok with q|q
  ·exact u i j ij q
  ·rw [show i=j by omega];exact Nat.le_refl _
 refine wpS_bind (wpS_mono (wpS_forRange (λk c z=>c=(none,())/\OkL kd a₀ lo pf pd z/\∀ i,i<=k->i<=n->UpL ρ lo (arrOf z) i) (Q:=λc z=>c=(none,())/\OkL kd a₀ lo pf pd z/\UpL ρ lo (arrOf z) n) ?_ ?_ ⟨rfl,o,λi i1 _=>first i1⟩) ?_)
 ·rintro k c z l1 l2 ⟨rfl,oz,uz⟩
  have uk:=uz k (Nat.le_refl _) (by omega)
  have kz:lo+k<(arrOf z).size:=by rw [oz.sz];omega
  refine wpS_bind (wpS_mono (wpS_forRange
   (λi c y=>y=z/\∃ l r,c=(none,l,r)/\l<=r/\r<=k/\r+i<=l+k/\(∀ j,j<l->rl ρ lo (arrOf z) j<=rl ρ lo (arrOf z) k)/\∀ j,r<=j->j<k->rl ρ lo (arrOf z) k<rl ρ lo (arrOf z) j)
   (Q:=λc y=>y=z/\∃ l r,c=(none,l,r)/\l<=k/\(∀ j,j<l->rl ρ lo (arrOf z) j<=rl ρ lo (arrOf z) k)/\∀ j,l<=j->j<k->rl ρ lo (arrOf z) k<rl ρ lo (arrOf z) j) ?_ ?_
   ⟨rfl,0,k,rfl,Nat.zero_le _,Nat.le_refl _,by omega,λj j0=>absurd j0 (Nat.not_lt_zero _),λj j1 j2=>by omega⟩) ?_)
  ·rintro i c y i1 i2 ⟨rfl,l,r,rfl,lr,rk',lk,lw,hi⟩
   dsimp only
   split
   ·obtain rfl:l=r:=by omega
    exact wpS_pure ⟨rfl,l,l,rfl,rk',lw,hi⟩
   ·refine wpS_bind (fY (i:=k) (j:=(l+r) / 2) C oz rfl rfl (by omega) (by omega) ?_)
    dsimp only
    by_cases g:rl ρ lo (arrOf y) k<rl ρ lo (arrOf y) ((l+r) / 2)
    ·rw [decide_eq_true g]
     refine wpS_pure ⟨rfl,l,(l+r) / 2,rfl,by omega,by omega,by omega,lw,λj j1 j2=>?_⟩
     exact Nat.lt_of_lt_of_le g (uk _ _ j1 j2)
    ·rw [decide_eq_false g]
     refine wpS_pure ⟨rfl,(l+r) / 2+1,r,rfl,by omega,rk',by omega,λj j1=>?_,hi⟩
     exact Nat.le_trans (uk _ _ (by omega) (by omega)) (Nat.le_of_not_lt g)
  ·rintro c y ⟨rfl,l,r,rfl,lr,rk',lk,lw,hi⟩
   obtain rfl:l=r:=by omega
   exact ⟨rfl,l,l,rfl,rk',lw,hi⟩
  ·rintro c y ⟨rfl,l,r,rfl,lk,lw,hi⟩
   dsimp only
   rw [moveDown'_eq]
   have ed:lo+k - (lo+l)=k - l:=by omega
   have em:∀ i,rl ρ lo (bubble (arrOf y) (lo+k) (lo+k - (lo+l))) i=rl ρ lo (arrOf y) (if i=l then k else if l<i/\i<=k then i - 1 else i):=λi=>by
    rw [ed,zg kz (by omega),show k - (k - l)=l by omega]
   refine wpS_bind (wpS_modify (wpS_pure ⟨rfl,oz.down (by omega) (by omega) (by omega),λm m1 m2 i j ij jm=>?_⟩))
   show rl ρ lo (bubble (arrOf y) (lo+k) (lo+k - (lo+l))) i<=rl ρ lo (bubble (arrOf y) (lo+k) (lo+k - (lo+l))) j
   rw [em,em]
   rcases Nat.lt_trichotomy j l with q|q|q
   ·rw [if_neg (by omega),if_neg (by omega),if_neg (by omega),if_neg (by omega)]
    exact uk _ _ ij (by omega)
   ·rw [if_pos q]
    split
    ·exact Nat.le_refl _
    ·rw [if_neg (by omega)]
     exact lw _ (by omega)
   ·rw [if_neg (show ¬ j=l by omega),if_pos (show l<j/\j<=k by omega)]
    split
    ·exact Nat.le_of_lt (hi _ (by omega) (by omega))
    ·split
     ·exact uk _ _ (by omega) (by omega)
     ·exact uk _ _ (by omega) (by omega)
 ·rintro c z ⟨e,oz,uz⟩
  exact ⟨e,oz,uz n (by omega) (Nat.le_refl _)⟩
 ·rintro c z ⟨rfl,oz,uz⟩
  exact wpS_pure (h z oz uz)
end
end S6
namespace S6
open PySem PyProof.Rows
inductive Pnd:Nat->List (List Keyed)->List (Nat×Nat×Nat)->Prop
 |nil {b}:Pnd b [] []
 |cons {b R Rs p ps}:Pnd (b+R.length) Rs ps->Pnd b (R::Rs) ((b,R.length,p)::ps)
theorem Pnd.len {b Rs ps}(h:Pnd b Rs ps):ps.length=Rs.length:=by
 induction h with
 |nil=>rfl
 |cons _ ih=>simp [ih]
theorem Pnd.split {ps}:∀ {b R1 Rs},Pnd b (R1++Rs) ps->∃ p1 p2,ps=p1++p2/\Pnd b R1 p1/\Pnd (b+R1.flatten.length) Rs p2:=by
 intro b R1 Rs h
 induction R1 generalizing b ps with
 |nil=>exact ⟨[],ps,rfl,.nil,h⟩
 |cons R R1 ih =>
  rw [List.cons_append] at h
  cases h with
  |cons h =>
   obtain ⟨p1,p2,rfl,h1,h2⟩:=ih h
   refine ⟨_::p1,p2,rfl,.cons h1,?_⟩
   rw [List.flatten_cons,List.length_append,<- Nat.add_assoc]
   exact h2
theorem Pnd.app {b R1 p1}(h:Pnd b R1 p1):∀ {Rs p2},Pnd (b+R1.flatten.length) Rs p2->Pnd b (R1++Rs) (p1++p2):=by
 induction h with
 |nil=>intro Rs p2 h;exact h
 |cons _ ih =>
  intro Rs p2 h
  refine .cons (ih ?_)
  rw [List.flatten_cons,List.length_append,<- Nat.add_assoc] at h
  exact h
theorem Pnd.power {b Rs ps}(h:Pnd b Rs ps):∀ (i q:Nat),Pnd b Rs (ps.modify i λ(x:Nat×Nat×Nat)=>(x.1,x.2.1,q)):=by
 induction h with
 |nil=>intro i q;cases i<;>exact .nil
 |cons h ih =>
  intro i q
  cases i with
  |zero=>exact .cons h
  |succ i=>exact .cons (ih i q)
structure Pn (kd:SortKind) (a₀:Array Keyed) (ρ:Keyed->Nat) (S:List Keyed) (Rs:List (List Keyed)) (st:SortSt):Prop where
 arr:(arrOf st).toList=Rs.flatten++S
 perm:(arrOf st).Perm a₀
 kind:kindOf st=kd
 well:failedOf st=none
 pend:Pnd 0 Rs (pendingOf st).toList
 good:∀ R∈Rs,Ri ρ R/\1<=R.length
section
variable {prog:Program}{w:World}{A:Around}{E:Value->Shared->Prop}{s:Shared}{a₀:Array Keyed}{kd:SortKind}{ρ:Keyed->Nat}{st:SortSt}{S:List Keyed}{Rs:List (List Keyed)}
theorem Pn.psz (o:Pn kd a₀ ρ S Rs st):(pendingOf st).size=Rs.length:=by rw [<- Array.length_toList];exact o.pend.len
theorem pT:∀ {Rs:List (List Keyed)},(∀ R∈Rs,1<=R.length)->Rs.length<=Rs.flatten.length
 |[],_=>Nat.le_refl _
 |R::Rs,h=>by
  have h1:=h R (List.mem_cons_self ..)
  have h2:=pT (Rs:=Rs) λx hx=>h x (List.mem_cons_of_mem _ hx)
  simp only [List.length_cons,List.flatten_cons,List.length_append]
  omega
theorem qQ:∀ {Rs:List (List Keyed)}{i:Nat},i+1<Rs.length->∃ R1 RA RB R2,Rs=R1++RA::RB::R2/\R1.length=i
 |[],i,h=>by simp at h
 |[_],i,h=>by simp at h
 |RA::RB::R2,0,_=>⟨[],RA,RB,R2,rfl,rfl⟩
 |R::RB::R2,i+1,h=>by
  obtain ⟨R1,X,Y,Z,e,l⟩:=qQ (Rs:=RB::R2) (i:=i) (by simpa using h)
  exact ⟨R::R1,X,Y,Z,by rw [e];rfl,by simp [l]⟩
theorem oW {i:Nat}{Q:Bool->SortSt->Prop}(C:Cm prog w A s kd a₀ ρ) (o:Pn kd a₀ ρ S Rs st) (hi:i+1<Rs.length)
  (h:∀ z Rs',Pn kd a₀ ρ S Rs' z->Rs'.length+1=Rs.length->Rs'.flatten.length=Rs.flatten.length->Q true z) :
  wpS (model prog w) A E s (mergeAt' i) Q st:=by
 obtain ⟨R1,RA,RB,R2,rfl,hl⟩:=qQ hi
 obtain ⟨p1,p2,ep,h1,h2⟩:=o.pend.split
 cases h2 with
 |@cons _ _ _ pw _ h2 =>
 cases h2 with
 |@cons _ _ _ q post h2 =>
 have gA:=o.good RA (by simp)
 have gB:=o.good RB (by simp)
 have lp:p1.length=i:=by rw [h1.len,hl]
 have mem:∀ p∈(arrOf st).toList,p∈a₀.toList:=λp hp=>(Array.perm_iff_toList_perm.mp o.perm).mem_iff.mp hp
 refine vU (P:=R1.flatten) (RA:=RA) (RB:=RB) (S:=R2.flatten++S) (pre:=p1) (post:=post) (pw:=pw) (q:=q) C o.kind mem o.well
  (by rw [o.arr];simp) gA.1 gB.1 gA.2 gB.2 (by rw [ep,Nat.zero_add]) lp.symm λz R rR pR ea hk hw hp=>?_
 have lR:R.length=RA.length+RB.length:=by rw [pR.length_eq,List.length_append]
 refine h z (R1++R::R2) ⟨by rw [ea];simp,?_,hk,hw,?_,λX hX=>?_⟩ (by simp;omega) (by simp [lR];omega)
 ·refine Array.perm_iff_toList_perm.mpr (List.Perm.trans ?_ (Array.perm_iff_toList_perm.mp o.perm))
  rw [ea,o.arr]
  simp only [List.flatten_append,List.flatten_cons,List.append_assoc]
  refine List.Perm.append_left _ ?_
  rw [<- List.append_assoc RA RB]
  exact pR.append_right _
 ·rw [hp,<- lR]
  refine h1.app ?_
  rw [Nat.zero_add]
  refine .cons ?_
  rw [Nat.zero_add,Nat.add_assoc,<- lR] at h2
  exact h2
 ·rcases List.mem_append.mp hX with q|q
  ·exact o.good X (by simp [q])
  ·rcases List.mem_cons.mp q with q|q
   ·subst q;exact ⟨rR,by omega⟩
   ·exact o.good X (by simp [q])
theorem Pn.okL (o:Pn kd a₀ ρ S Rs st):OkL kd a₀ Rs.flatten.length (λk=>Rs.flatten[k]?) (pendingOf st) st :=
 ⟨o.perm,o.kind,o.well,rfl,λk hk=>by rw [<- Array.getElem?_toList,o.arr,List.getElem?_append_left hk]⟩
theorem Et {z:SortSt}{n:Nat}(o:Pn kd a₀ ρ S Rs st) (oz:OkL kd a₀ Rs.flatten.length (λk=>Rs.flatten[k]?) (pendingOf st) z) (u:UpL ρ Rs.flatten.length (arrOf z) n) (hn:Rs.flatten.length+n<=a₀.size) :
  ∃ R S',Ri ρ R/\R.length=n/\Pn kd a₀ ρ (R++S') Rs z:=by
 have sz:(arrOf z).toList.length=a₀.size:=by rw [Array.length_toList];exact oz.sz
 have hd:(arrOf z).toList.take Rs.flatten.length=Rs.flatten:=by
  refine List.ext_getElem? λk=>?_
  rcases Nat.lt_or_ge k Rs.flatten.length with q|q
  ·rw [List.getElem?_take_of_lt q,Array.getElem?_toList]
   exact oz.pfx k q
  ·rw [List.getElem?_eq_none (by rw [List.length_take];omega),List.getElem?_eq_none q]
 refine ⟨((arrOf z).toList.drop Rs.flatten.length).take n,((arrOf z).toList.drop Rs.flatten.length).drop n,?_,by rw [List.length_take,List.length_drop];omega,?_,oz.perm,oz.kind,oz.well,by rw [oz.runs];exact o.pend,o.good⟩
 ·refine List.pairwise_iff_getElem.mpr λi j hi hj ij=>?_
  rw [List.length_take,List.length_drop] at hi hj
  have:=u i j (by omega) (by omega)
  unfold rl at this
  have at_:∀ k,k<n->∀ (hk:k<(((arrOf z).toList.drop Rs.flatten.length).take n).length),rk ρ (arrOf z) (Rs.flatten.length+k)=ρ (((arrOf z).toList.drop Rs.flatten.length).take n)[k]:=λk hk hk'=>by
   refine au ?_
   rw [List.getElem_take,List.getElem_drop,<- Array.getElem?_toList,List.getElem?_eq_getElem]
  rw [at_ i (by omega),at_ j (by omega)] at this
  exact this
 ·rw [List.take_append_drop]
  have:=List.take_append_drop Rs.flatten.length (arrOf z).toList
  rw [hd] at this
  exact this.symm
theorem Pn.push {R:List Keyed}{lo n:Nat}(o:Pn kd a₀ ρ (R++S) Rs st) (r:Ri ρ R) (n1:1<=n) (hn:R.length=n) (hl:lo=Rs.flatten.length):Pn kd a₀ ρ S (Rs++[R]) (setPending st ((pendingOf st).push (lo,n,0))):=by
 subst hn hl
 refine ⟨?_,o.perm,o.kind,o.well,?_,λX hX=>?_⟩
 ·show (arrOf st).toList=_
  rw [o.arr];simp
 ·show Pnd 0 (Rs++[R]) ((pendingOf st).push (Rs.flatten.length,R.length,0)).toList
  rw [Array.toList_push]
  refine o.pend.app ?_
  rw [Nat.zero_add]
  exact .cons .nil
 ·rcases List.mem_append.mp hX with q|q
  ·exact o.good X q
  ·rw [List.mem_singleton.mp q];exact ⟨r,n1⟩
theorem Pn.power {i q:Nat}(o:Pn kd a₀ ρ S Rs st):Pn kd a₀ ρ S Rs (setPending st ((pendingOf st).modify i λ(x:Nat×Nat×Nat)=>(x.1,x.2.1,q))):=by
 refine ⟨o.arr,o.perm,o.kind,o.well,?_,o.good⟩
 show Pnd 0 Rs ((pendingOf st).modify i _).toList
 rw [Array.toList_modify]
 exact o.pend.power i q
theorem zi {Q:Unit->SortSt->Prop}(C:Cm prog w A s kd a₀ ρ) (o:Ok kd a₀ st) (h2:2<=a₀.size)
  (h:∀ z,(arrOf z).Perm a₀->failedOf z=none->Up ρ (arrOf z) a₀.size->Q () z):wpS (model prog w) A E s sortRuns' Q st:=by
 rw [sortRuns'_eq]
 refine wpS_bind (wpS_get ?_)
 dsimp only
 simp only [o.sz]
 generalize hmr:minRun' a₀.size a₀.size 0=mr
 have szP:∀ {S Rs z},Pn kd a₀ ρ S Rs z->Rs.flatten.length+S.length=a₀.size:=λoz=>by
  rw [<- oz.perm.size_eq,<- Array.length_toList,oz.arr,List.length_append]
 refine wpS_bind (wpS_mono (wpS_forRange (λk c z=>∃ Rs S,c=(none,Rs.flatten.length)/\Pn kd a₀ ρ S Rs z/\k<=Rs.flatten.length) (Q:=λc z=>c=(none,a₀.size)/\∃ Rs,Pn kd a₀ ρ [] Rs z) ?_ ?_ ⟨[],(arrOf st).toList,rfl,⟨rfl,o.perm,o.kind,o.well,by rw [o.runs];exact .nil,λR hR=>by cases hR⟩,Nat.zero_le _⟩) ?_)
 ·rintro k c z l1 l2 ⟨Rs,S,rfl,oz,kl⟩
  dsimp only
  have sz:=szP oz
  split
  ·rename_i g
   obtain rfl:S=[]:=List.length_eq_zero_iff.mp (by omega)
   exact wpS_pure ⟨by rw [show Rs.flatten.length=a₀.size by omega],Rs,oz⟩
  rename_i g
  refine wpS_bind (xr C oz.okL (by omega) (by omega) λm y oy m1 m2 uy=>?_)
  dsimp only
  split
  case' isTrue gm =>
   refine wpS_bind (wpS_lift (wpAny_rule ⟨rfl,wpS_bind (BN C oy (n:=min (a₀.size - Rs.flatten.length) mr) (by omega) (by omega) uy λx ox ux=>?_)⟩))
   simp only [Bool.not_true,Bool.false_eq_true,if_false]
   have n1:1<=min (a₀.size - Rs.flatten.length) mr:=by omega
   have n2:Rs.flatten.length+min (a₀.size - Rs.flatten.length) mr<=a₀.size:=by omega
   clear gm uy m2 m1 oy
   clear y m
   generalize min (a₀.size - Rs.flatten.length) mr=n at ux n1 n2 ⊢
  case' isFalse gm =>
   have n1:=m1
   have n2:Rs.flatten.length+m<=a₀.size:=by omega
   have ox:=oy
   have ux:=uy
   clear gm uy m2 m1 oy
   generalize y=x at ox ux ⊢
   generalize m=n at ux n1 n2 ⊢
  all_goals
   obtain ⟨R,S',rR,lR,py⟩:=Et oz ox ux n2
   refine wpS_bind (wpS_get ?_)
   try dsimp only
   have done:∀ (v:SortSt) (Rs':List (List Keyed)),Pn kd a₀ ρ (R++S') Rs' v->Rs'.flatten.length=Rs.flatten.length->∃ Rs2 S2,((none,Rs.flatten.length+n):Option Unit×Nat)=(none,Rs2.flatten.length)/\Pn kd a₀ ρ S2 Rs2 (setPending v ((pendingOf v).push (Rs.flatten.length,n,0)))/\k+1<=Rs2.flatten.length:=λv Rs' ov fl=>by
    have l3:(Rs'++[R]).flatten.length=Rs.flatten.length+n:=by simp [lR,<- fl]
    exact ⟨Rs'++[R],S',by rw [l3],ov.push rR n1 lR fl.symm,by omega⟩
   cases hb:(pendingOf x).back? with
   |none=>exact wpS_bind (wpS_modify (wpS_pure (done x Rs py rfl)))
   |some b =>
    obtain ⟨s1,n1',q⟩:=b
    try dsimp only
    refine wpS_bind (wpS_mono (wpS_forRange (λ_ c x=>c=(none,())/\∃ Rs',Pn kd a₀ ρ (R++S') Rs' x/\Rs'.flatten.length=Rs.flatten.length) (Q:=λc x=>c=(none,())/\∃ Rs',Pn kd a₀ ρ (R++S') Rs' x/\Rs'.flatten.length=Rs.flatten.length) ?_ (λ_ _ e=>e) ⟨rfl,Rs,py,rfl⟩) ?_)
    ·rintro i c x _ _ ⟨rfl,Rs',ox,fl⟩
     refine wpS_bind (wpS_get ?_)
     try dsimp only
     have ps:=ox.psz
     by_cases g1:(pendingOf x).size>1
     ·rw [if_pos g1]
      obtain ⟨⟨f1,f2,older⟩,he⟩:∃ v,(pendingOf x)[(pendingOf x).size - 2]?=some v:=⟨_,getElem?_pos _ _ (by omega)⟩
      rw [he]
      try dsimp only
      split
      ·exact wpS_pure ⟨rfl,Rs',ox,fl⟩
      ·refine wpS_bind (oW C ox (by omega) λv Rs2 ov l e=>?_)
       simp only [Bool.not_true,Bool.false_eq_true,if_false]
       exact wpS_pure ⟨rfl,Rs2,ov,e.trans fl⟩
     ·rw [if_neg g1]
      exact wpS_pure ⟨rfl,Rs',ox,fl⟩
    ·rintro c x ⟨rfl,Rs',ox,fl⟩
     try dsimp only
     exact wpS_bind (wpS_modify (wpS_bind (wpS_modify (wpS_pure (done _ Rs' ox.power fl)))))
 ·rintro c z ⟨Rs,S,rfl,oz,kl⟩
  have sz:=szP oz
  obtain rfl:S=[]:=List.length_eq_zero_iff.mp (by omega)
  exact ⟨by rw [show Rs.flatten.length=a₀.size by omega],Rs,oz⟩
 ·rintro c z ⟨rfl,Rs,oz⟩
  dsimp only
  refine wpS_bind (wpS_mono (wpS_forRange (λk c y=>c=(none,())/\∃ Rs,Pn kd a₀ ρ [] Rs y/\Rs.length<=max 1 (a₀.size - k)) (Q:=λc y=>c=(none,())/\∃ Rs,Pn kd a₀ ρ [] Rs y/\Rs.length<=1) ?_ ?_ ⟨rfl,Rs,oz,?_⟩) ?_)
  ·rintro k c y _ l2 ⟨rfl,Rs',oy,le⟩
   refine wpS_bind (wpS_get ?_)
   try dsimp only
   have ps:=oy.psz
   split
   ·exact wpS_pure ⟨rfl,Rs',oy,by omega⟩
   ·have hix:∀ b:Bool,(if b=true then (pendingOf y).size - 2 - 1 else (pendingOf y).size - 2)+1<Rs'.length:=λb=>by
     cases b
     ·rw [if_neg (by decide)];omega
     ·rw [if_pos rfl];omega
    refine wpS_bind (oW C oy (hix _) λx Rs2 ox l e=>?_)
    simp only [Bool.not_true,Bool.false_eq_true,if_false]
    exact wpS_pure ⟨rfl,Rs2,ox,by omega⟩
  ·rintro c y ⟨e,Rs',oy,le⟩
   exact ⟨e,Rs',oy,by omega⟩
  ·have:=pT λR hR=>(oz.good R hR).2
   have:=szP oz
   simp only [List.length_nil] at this
   omega
  ·rintro c y ⟨rfl,Rs',oy,le⟩
   dsimp only
   have r:Ri ρ (arrOf y).toList:=by
    rw [oy.arr,List.append_nil]
    match Rs',oy.good,le with
    |[],_,_=>exact List.Pairwise.nil
    |[R],g,_=>simpa using (g R (by simp)).1
    |_::_::_,_,le=>simp at le
   refine wpS_pure (h _ oy.perm oy.well λi j ij jn=>?_)
   have:=bY r (base:=0) (n:=a₀.size) (by rw [Nat.zero_add,oy.perm.size_eq];exact Nat.le_refl _) i j ij jn
   rw [Nat.zero_add,Nat.zero_add] at this
   exact this
end
end S6
namespace S6
open PySem PySem.Spec PyProof.Rows
theorem nP {α:Type}{prog:Program}{w:World}{A:Around}{E:Value->Shared->Prop}{s:Shared}{ks us:List Value}{k0:Ky}{rest:Unit×SortSt->Sem α}{Q:α->Shared->Prop}(hl:ks.length=us.length) (hf:fit k0=true)
  (hk:∀ v∈ks,∃ k,KR s v k/\Ky.shp k0 k=true) (hu:A.units+k0.dep+1<cLine)
  (h:∀ st:SortSt,(arrOf st).Perm (ks.toArray.zip us.toArray)->failedOf st=none->(∀ i j (hj:j<(arrOf st).size) (hi:i<(arrOf st).size),i<=j->Ky.lt (ce s (arrOf st)[j].1) (ce s (arrOf st)[i].1)=false)->wpAny (model prog w) A (rest ((),st)) Q E s) :
  wpAny (model prog w) A (do
   let kind <- if us.toArray.size<2 then pure general' else keyKind' ks.toArray
   let r <- (if us.toArray.size<2 then pure () else sortRuns').run (SortSt.mk' kind (ks.toArray.zip us.toArray) #[] 7 none)
   rest r) Q E s:=by
 have sz:(ks.toArray.zip us.toArray).size=us.length:=by simp [hl]
 by_cases h2:us.toArray.size<2
 ·rw [if_pos h2,if_pos h2]
  refine wpAny_bind (wpAny_pure ?_)
  dsimp only
  rw [StateT.run_pure]
  refine wpAny_bind (wpAny_pure (h _ (Array.Perm.refl _) rfl λi j hj hi ij=>?_))
  have e:i=j:=by
   have:j<(ks.toArray.zip us.toArray).size:=hj
   rw [sz] at this
   simp only [List.size_toArray] at h2
   omega
  subst e
  exact Ky.irr _
 ·rw [if_neg h2,if_neg h2]
  simp only [List.size_toArray] at h2
  refine wpAny_bind (uW (k0:=k0) (by intro e;rw [e] at hl;simp at hl;omega) hf hk ?_)
  have key:∀ v∈ks,KR s v (ce s v)/\Ky.shp k0 (ce s v)=true:=λv hv=>by
   obtain ⟨k,r,e⟩:=hk v hv
   rw [fS r];exact ⟨r,e⟩
  have mem:∀ p∈(ks.toArray.zip us.toArray).toList,p.1∈ks:=λp hp=>by
   rw [show (ks.toArray.zip us.toArray).toList=ks.zip us by simp] at hp
   exact (List.of_mem_zip hp).1
  have shp2:∀ x∈ks.map (ce s),∀ y∈ks.map (ce s),Ky.shp x y=true:=λx hx y hy=>by
   rw [List.mem_map] at hx hy
   obtain ⟨v,hv,rfl⟩:=hx
   obtain ⟨v',hv',rfl⟩:=hy
   exact Ky.shp_trans (Ky.xh (key v hv).2) (key v' hv').2
  let ρ:Keyed->Nat:=λp=>rnk (ks.map (ce s)) (ce s p.1)
  have C:Cm prog w A s (du k0) (ks.toArray.zip us.toArray) ρ:=λx y hx hy E' Q' q'=>by
   have mx:=mem x hx
   have my:=mem y hy
   have q2:Q' (Ky.lt (ce s x.1) (ce s y.1)) s:=by
    rw [<- qF shp2 (List.mem_map_of_mem mx) (List.mem_map_of_mem my)];exact q'
   rw [<- Bz (key x.1 mx).2]
   refine D' (key x.1 mx).1 (key y.1 my).1 (shp2 _ (List.mem_map_of_mem mx) _ (List.mem_map_of_mem my)) (y8 (key x.1 mx).2 hf) ?_ q2
   rw [<- Ky.shp_dep (key x.1 mx).2];exact hu
  refine wpAny_bind (wpAny_mono (zi (E:=E) (st:=SortSt.mk' (du k0) (ks.toArray.zip us.toArray) #[] 7 none) (Q:=λ_ z=>(arrOf z).Perm (ks.toArray.zip us.toArray)/\failedOf z=none/\Up ρ (arrOf z) (ks.toArray.zip us.toArray).size) C ⟨Array.Perm.refl _,rfl,rfl,rfl⟩ (by rw [sz];omega)
   λz a1 a2 a3=>⟨a1,a2,a3⟩) ?_ λ_ _ e=>e)
  rintro ⟨⟨⟩,z⟩ s' ⟨rfl,zp,zf,zu⟩
  refine h z zp zf λi j hj hi ij=>?_
  have up:=zu i j ij (by rw [<- zp.size_eq];exact hj)
  have mz:∀ k (hk:k<(arrOf z).size),(arrOf z)[k].1∈ks:=λk hk=>mem _ ((Array.perm_iff_toList_perm.mp zp).mem_iff.mp (by simp))
  have e1:∀ k (hk:k<(arrOf z).size),rk ρ (arrOf z) k=ρ (arrOf z)[k]:=λk hk=>by unfold rk;rw [getElem?_pos _ k hk];rfl
  rw [e1 i hi,e1 j hj] at up
  rw [<- qF shp2 (List.mem_map_of_mem (mz j hj)) (List.mem_map_of_mem (mz i hi))]
  exact decide_eq_false (Nat.not_lt.mpr up)
end S6
namespace T2
open PySem PySem.Spec PyProof.Rows L2 S6
theorem zj {X:Cx}{K:Fg}(tr:Bool) (hK:X.K=K) (hr:Room 2 X.A){pins:List (Addr×Obj)}{s:Shared}{σ:L2.St}{H:Hp}{S:Sto}{pl:Addr}{ls:List T}{vs:List V}{κ:T->Ky}{k0:Ky}{Qt:T->Sto->Prop}{Q:VK}
  (I:Inv X pins σ H s) (sr:SRp K H S) (rs:Rps K H S ls vs) (hz:vs.length<=sizeLine) (hf:fit k0=true) (hd:k0.dep<=30)
  (hk:∀ t∈ls,Ky.ok (κ t)=true/\Ky.shp k0 (κ t)=true/\tre (κ t)=t) (hq:mD tr ls κ S Qt) (b:Bh K H S Qt Q)
  (hcol:∀ (A:Around) (E:Value->Shared->Prop) (R:List Value->Shared->Prop),A.handled=X.A.handled->(∀ (its:List Value) (h1:Heap) (tk:Nat),ai vs its->(∀ b u,s.heap.get? b=some u->h1.get? b=some u)->s.heap.objs.size<=h1.objs.size->R its { s with heap:=h1,toks:=tk })->wpAny (model X.prog X.w) A (collect (.ref pl)) R E s) :
  wpAny (model X.prog X.w) X.A (call (.builtin "sorted") [.ref pl]) (EP X pins σ Q) X.xe s:=by
 show wpAny _ X.A (call (.builtin "sorted") [.ref pl] []) _ _ s
 refine jI kind_sorted plain_sorted entry_sorted (uw _) ?_
 unfold Builtin.«sorted»
 refine wpAny_bind (m:=checkCount "sorted" 1 1 _) (wpAny_pure ?_)
 refine wpAny_bind (hcol _ _ _ rfl λits h1 tk rvs old1 sz1=>?_)
 have hlen:its.length=ls.length:=by rw [<- rvs.length,rs.length]
 have hsl:its.length<=sizeLine:=by rw [<- rvs.length];exact hz
 refine wpAny_bind (wpAny_newList ?_ hsl)
 dsimp only
 have hoL:(h1.push (seqObj "list" its.toArray 0)).get? h1.objs.size=some (seqObj "list" its.toArray 0):=Heap.get?_push_size _ rfl
 refine wpAny_bind (wpAny_holding (mR slot_list_sort (Ty:="list") ⟨_,hoL,rfl⟩ entry_list_sort ?_ (ue _)))
 rw [ul]
 refine wpAny_bind (listItems_at hoL rfl ?_)
 refine wpAny_bind (listUpdate_at hoL rfl ?_ (by simpa using hsl) (by simp))
 obtain ⟨ep,ho1⟩:∃ ep,((h1.push (seqObj "list" its.toArray 0)).update h1.objs.size (Obj.mapSeq λ_=>#[])).get? h1.objs.size=some (seqObj "list" #[] ep):=⟨_,get?_update_seq hoL (λ_=>#[])⟩
 refine wpAny_bind (seqEpoch_at ho1 rfl ?_)
 generalize hL:h1.objs.size=L at *
 generalize hh2:(h1.push (seqObj "list" its.toArray 0)).update L (Obj.mapSeq λ_=>#[])=h2 at *
 have szh2:h2.objs.size=L+1:=by rw [<- hh2,Heap.size_update,size_push',hL]
 have I2:Inv X pins σ (upd H L (ci L (seqObj "list" #[] ep))) { s with heap:=h2,toks:=tk } :=
  qI I (λb u e=>by rw [<- hh2];exact (Heap.get?_update_other _ _ (Ne.symm (Nat.ne_of_lt (Nat.lt_of_lt_of_le (Heap.lt_size e) sz1)))).trans (Heap.get?_push_of_some _ (old1 b u e))) sz1 ho1
 refine wpAny_bind (wpAny_newTuple ?_ (by simpa using hsl))
 refine wpAny_bind (wpAny_newList ?_)
 dsimp only
 generalize hh3:h2.push { cls:=.type "tuple",data:=.seq its.toArray.toList.toArray }=h3
 have szh3:h3.objs.size=L+2:=by rw [<- hh3,size_push',szh2]
 generalize hh4:h3.push { cls:=.type "list",data:=.seq ([]:List Value).toArray }=h4
 rw [szh3]
 have I4:Inv X pins σ (upd (upd H L (ci L (seqObj "list" #[] ep))) (L+2) (a8 (L+2) [])) { s with heap:=h4,toks:=tk } :=
  qH (s:={ s with heap:=h2,toks:=tk }) I2 (λb u e=>by rw [<- hh4,<- hh3];exact Heap.get?_push_of_some _ (Heap.get?_push_of_some _ e)) (by show h2.objs.size<=_;omega) .nil (Nat.zero_le _) (by rw [<- hh4,<- szh3];exact Heap.get?_push_size _ rfl)
 have ne1:L+2≠L:=Nat.ne_of_gt (Nat.lt_add_of_pos_right (by decide))
 have ne2:L≠L+2:=Ne.symm ne1
 have nL:H L=none:=I.hok.fresh sz1
 have nk:H (L+2)=none:=I.hok.fresh (by omega)
 have nk2:upd H L (ci L (seqObj "list" #[] ep)) (L+2)=none:=by rw [ap ne1];exact nk
 have nSL:S L=none:=sr.fresh nL
 have nSk:S (L+2)=none:=sr.fresh nk
 generalize hHc:upd (upd H L (ci L (seqObj "list" #[] ep))) (L+2) (a8 (L+2) [])=Hc at *
 have eL:Hc L=some (ci L (seqObj "list" #[] ep)):=by rw [<- hHc,ap ne2];exact aA
 have ek:Hc (L+2)=some (a8 (L+2) []):=by rw [<- hHc];exact aA
 have fc:Fr H S Hc S:=by rw [<- hHc];exact (Fr.new nL).trans (Fr.new nk2)
 have sc:SRp K Hc S:=by rw [<- hHc];exact (sr.new nL).new nk2
 refine wpAny_holding (wpAny_bind (wpAny_pure ?_))
 generalize hs5:({ s with heap:=h4,toks:=tk }:Shared)=s5 at *
 have rs5:=rs.fr fc
 obtain ⟨R,q1,q2,q3,q4,q5⟩:=kI rs5 rvs (rfl:its.length=its.length)
 have key:∀ r∈R,KR s5 r.ku (κ r.t)/\Ky.shp k0 (κ r.t)=true:=by
  have go:∀ {R:List Rec}{vs:List V},Rps K Hc S (R.map (·.t)) vs->ai vs (R.map (·.ku))->(∀ r∈R,r.t∈ls)->∀ r∈R,KR s5 r.ku (κ r.t)/\Ky.shp k0 (κ r.t)=true:=by
   intro R
   induction R with
   |nil=>intro _ _ _ _ r hr;cases hr
   |cons r0 R ih =>
    intro kvs a b m r hr
    cases a with
    |cons a1 a2 =>
     cases b with
     |cons b1 b2 =>
      rcases List.mem_cons.mp hr with rfl|hr
      ·have:=hk r.t (m r (List.mem_cons_self ..))
       exact ⟨sE hK I4 (by rw [this.2.2];exact a1) b1 this.1,this.2.1⟩
      ·exact ih a2 b2 (λx hx=>m x (List.mem_cons_of_mem _ hx)) r hr
  exact go (by rw [q1];exact rs5) (by rw [q4];exact rvs) λr hr=>by rw [<- q1];exact List.mem_map_of_mem hr
 refine nP (k0:=k0) rfl hf (λv hv=>?_) (by have:=hr.in1.in1.units;omega) λst hp hfail hsrt=>?_
 ·rw [<- q4] at hv
  obtain ⟨r,hr,rfl⟩:=List.mem_map.mp hv
  exact ⟨_,key r hr⟩
 ·obtain ⟨R',pR,eR⟩:=iG (λr:Rec=>((r.ku,r.u):Keyed)) (Array.perm_iff_toList_perm.mp hp) (l:=R) (by
   have:(its.toArray.zip its.toArray).toList=its.zip its:=by simp
   rw [this]
   conv=>lhs;arg 1;rw [<- q4]
   conv=>lhs;arg 2;rw [<- q3]
   exact List.zip_map')
  have memR:∀ r∈R',r∈R:=λr hr=>pR.mem_iff.mp hr
  obtain ⟨rz,vz⟩:=j5 λr hr=>q5 r (memR r hr)
  have lR:R'.length=its.length:=by rw [pR.length_eq,<- q3,List.length_map]
  have szR:(arrOf st).size=R'.length:=by rw [<- Array.length_toList,eR,List.length_map]
  have at_:∀ k (h:k<(arrOf st).size) (h':k<R'.length),(arrOf st)[k].1=R'[k].ku:=λk h h'=>by
   have e1:(arrOf st)[k]=(arrOf st).toList[k]'(by simpa using h):=by simp
   rw [e1,List.getElem_of_eq eR,List.getElem_map]
  have srt:(R'.map (·.t)).Pairwise (λa b=>Ky.lt (κ b) (κ a)=false):=by
   rw [List.pairwise_map,List.pairwise_iff_getElem]
   intro i j hi hj ij
   have:=hsrt i j (by rw [szR];exact hj) (by rw [szR];exact hi) (Nat.le_of_lt ij)
   rw [at_ i (by rw [szR];exact hi) hi,at_ j (by rw [szR];exact hj) hj,fS (key _ (memR _ (List.getElem_mem hi))).1,fS (key _ (memR _ (List.getElem_mem hj))).1] at this
   exact this
  have fin:=hq (R'.map (·.t)) (by rw [<- q1];exact pR.map _) srt
  have eL5:=sG I4 eL
  have out:(arrOf st).map (·.2)=(R'.map (·.u)).toArray:=by
   apply Array.toList_inj.mp
   rw [Array.toList_map,eR,List.map_map]
   rfl
  dsimp only
  refine wpAny_bind (seqEpoch_at eL5 rfl ?_)
  refine wpAny_bind (listUpdate_at eL5 rfl ?_ (by simp) (by rw [out];simp;omega))
  rw [hfail]
  simp only [bne_self_eq_false,Bool.false_eq_true,if_false]
  have I7:=i3 I4 eL (its:=[]) eL5 (f:=λ_=>(arrOf st).map (·.2)) (its':=R'.map (·.u)) out vz (by rw [List.length_map,lR];exact hsl)
  have I8:=I7.ofAcc (D:=L) aA
  rw [fV] at I8
  refine wpAny_pure ⟨_,rfl,wpAny_pure ⟨.ref L,_,I8,rfl,?_⟩⟩
  cases tr with
  |false=>exact b _ _ (.lst _) S (Fr.at fc nL) (sc.chg eL nSL) (.lst nSL aA (Rps.chg eL rz)) fin
  |true =>
   refine b _ _ (.ref L) _ (λa o h nn=>?_) (SRp.trk eL sc rz) .ref (fin L nSL)
   have ha:a≠L:=bf h nL
   rw [aO ha]
   exact Fr.at fc nL a o h nn
def lf (tr:Bool) (f:Addr) (wsp:WSp):List T->List T->Sto->(T->Sto->Prop)->Prop:=λts us S Q=>∃ x xs κ k0,ts=[x]/\us=[.ref f]/\aD S x=some xs/\fit k0=true/\k0.dep<=30 /\
 (∀ t∈xs,Ky.ok (κ t)=true/\Ky.shp k0 (κ t)=true/\∀ S' Q',Q' (tre (κ t)) S'->wsp [t] S' Q')/\mD tr xs κ S Q
theorem zk {X:Cx}{K:Fg}(tr:Bool){k:Nat}{f:Addr}{fd:FuncData}{x p:Str}{wsp:WSp}(hK:X.K=K) (F:FnOk X.prog X.w X.K X.mg X.base CX0 k f fd [p] (lSp K wsp)) (D:Df X.K X.mg x f fd [p]) (hr:Room (k+2) X.A) :
  gj X (.builtin "sorted") [Str.ofString "key"] (lCK K (lf tr f wsp)):=by
 rintro pins s σ H xs zs us ws Q I rv rz ⟨S,ts,us',Qt,sr,r1,r2,⟨x,ls,κ,k0,e1,e2,ev,hf,hd,hk,hq⟩,b⟩
 subst e1 e2
 cases r1 with
 |cons rx rnil =>
 cases rnil
 cases r2 with
 |cons rf rnil =>
 cases rnil
 cases rf
 obtain ⟨u,rfl,ru⟩:=bi rv
 obtain ⟨u',rfl,ru'⟩:=bi rz
 obtain ⟨pl,vs,rfl,hS,rs⟩:=bz sr rx ev
 cases ru
 cases ru'
 have hS':SqL X.K H pl vs:=by rw [hK];exact hS
 obtain ⟨its,rvs,hpl,hz⟩:=I.list hS'
 obtain ⟨o,n,eo,ec,_,ed⟩:=hpl
 have hlen:its.length=ls.length:=by rw [<- rvs.length,rs.length]
 have hsl:its.length<=sizeLine:=by rw [<- rvs.length];exact hz
 show wpAny _ X.A (call (.builtin "sorted") [.ref pl] [(Str.ofString "key",.ref f)]) _ _ s
 refine jI kind_sorted plain_sorted entry_sorted (uu _ _) ?_
 unfold Builtin.«sorted»
 refine wpAny_bind (m:=checkCount "sorted" 1 1 _) (wpAny_pure ?_)
 refine wpAny_bind (collect_list (l:=pl) (vs:=its) ⟨o,eo,ec,n,ed⟩ ?_ hsl)
 refine wpAny_bind (wpAny_newList ?_ hsl)
 generalize hh1:(s.heap.push (seqObj "list" #[] 0)).update s.heap.objs.size (Obj.mapSeq (·++its.toArray))=h1
 have old1:∀ b u,s.heap.get? b=some u->h1.get? b=some u:=λb u e=>by
  rw [<- hh1]
  exact (Heap.get?_update_other _ _ (Ne.symm (Nat.ne_of_lt (Heap.lt_size e)))).trans (Heap.get?_push_of_some _ e)
 have sz1:s.heap.objs.size<=h1.objs.size:=by rw [<- hh1,Heap.size_update,size_push'];omega
 dsimp only
 have hoL:(h1.push (seqObj "list" its.toArray 0)).get? h1.objs.size=some (seqObj "list" its.toArray 0):=Heap.get?_push_size _ rfl
 refine wpAny_bind (wpAny_holding (mR slot_list_sort (Ty:="list") ⟨_,hoL,rfl⟩ entry_list_sort ?_ (ud _ _)))
 rw [uH]
 refine wpAny_bind (listItems_at hoL rfl ?_)
 refine wpAny_bind (listUpdate_at hoL rfl ?_ (by simpa using hsl) (by simp))
 obtain ⟨ep,ho1⟩:∃ ep,((h1.push (seqObj "list" its.toArray 0)).update h1.objs.size (Obj.mapSeq λ_=>#[])).get? h1.objs.size=some (seqObj "list" #[] ep):=⟨_,get?_update_seq hoL (λ_=>#[])⟩
 refine wpAny_bind (seqEpoch_at ho1 rfl ?_)
 generalize hL:h1.objs.size=L at *
 generalize hh2:(h1.push (seqObj "list" its.toArray 0)).update L (Obj.mapSeq λ_=>#[])=h2 at *
 have szh2:h2.objs.size=L+1:=by rw [<- hh2,Heap.size_update,size_push',hL]
 have I2:Inv X pins σ (upd H L (ci L (seqObj "list" #[] ep))) { s with heap:=h2,toks:=s.toks } :=
  qI I (λb u e=>by rw [<- hh2];exact (Heap.get?_update_other _ _ (Ne.symm (Nat.ne_of_lt (Nat.lt_of_lt_of_le (Heap.lt_size e) sz1)))).trans (Heap.get?_push_of_some _ (old1 b u e))) sz1 ho1
 refine wpAny_bind (wpAny_newTuple ?_ (by simpa using hsl))
 refine wpAny_bind (wpAny_newList ?_)
 dsimp only
 generalize hh3:h2.push { cls:=.type "tuple",data:=.seq its.toArray.toList.toArray }=h3
 have szh3:h3.objs.size=L+2:=by rw [<- hh3,size_push',szh2]
 generalize hh4:h3.push { cls:=.type "list",data:=.seq ([]:List Value).toArray }=h4
 rw [szh3]
 have I4:Inv X pins σ (upd (upd H L (ci L (seqObj "list" #[] ep))) (L+2) (a8 (L+2) [])) { s with heap:=h4,toks:=s.toks } :=
  qH (s:={ s with heap:=h2,toks:=s.toks }) I2 (λb u e=>by rw [<- hh4,<- hh3];exact Heap.get?_push_of_some _ (Heap.get?_push_of_some _ e)) (by show h2.objs.size<=_;omega) .nil (Nat.zero_le _) (by rw [<- hh4,<- szh3];exact Heap.get?_push_size _ rfl)
 have ne1:L+2≠L:=Nat.ne_of_gt (Nat.lt_add_of_pos_right (by decide))
 have ne2:L≠L+2:=Ne.symm ne1
 have nL:H L=none:=I.hok.fresh sz1
 have nk:H (L+2)=none:=I.hok.fresh (by omega)
 have nk2:upd H L (ci L (seqObj "list" #[] ep)) (L+2)=none:=by rw [ap ne1];exact nk
 refine wpAny_holding (wpAny_bind (wpAny_rule (wpAny_bind ?_)))
 refine PySem.MeetsSeq2.wpAny_forIn_array _ (λrest _ s'=>∃ i kvs Hc,rest=its.drop i/\i<=its.length/\Inv X pins σ Hc s'/\Hc L=some (ci L (seqObj "list" #[] ep))/\Hc (L+2)=some (a8 (L+2) kvs)/\S L=none/\S (L+2)=none/\Fr H S Hc S/\SRp K Hc S/\Rps K Hc S ((ls.take i).map λt=>tre (κ t)) kvs) _ ?_ ?_ _ _
  ⟨0,[],_,by simp,Nat.zero_le _,I4,by rw [ap ne2];exact aA,aA,sr.fresh nL,sr.fresh nk,(Fr.new nL).trans (Fr.new nk2),(sr.new nL).new nk2,.nil⟩
 ·rintro u0 rest ⟨⟩ s' ⟨i,kvs,Hc,hrest,hi,Ic,eL,ek,nSL,nSk,fc,sc,rk⟩
  have il:i<its.length:=by
   rcases Nat.lt_or_ge i its.length with z|z
   ·exact z
   ·rw [List.drop_eq_nil_of_le z] at hrest;cases hrest
  have hi1:its[i]?=some its[i]:=by simp [il]
  rw [iO hi1] at hrest
  obtain ⟨rfl,rfl⟩:=List.cons.inj hrest
  have il2:i<ls.length:=by rw [<- hlen];exact il
  have hi2:ls[i]?=some ls[i]:=by simp [il2]
  obtain ⟨v,ev,rv0⟩:=rs.get hi2
  obtain ⟨u1,eu,ru1⟩:=rvs.get ev
  rw [hi1] at eu;cases eu
  have hkt:=hk ls[i] (by simp)
  refine wpAny_bind (wpAny_attempt (wpAny_call (codeAny_mono (F.run X.A.in1.in1 X.stack s' Hc ⟨[its[i]],[]⟩ [its[i]] [v] (λv' H'=>Fr Hc S H' S/\SRp K H' S/\Rp K H' S (tre (κ ls[i])) v') E0 hr.in1.in1 Ic.env0.in1.in1 (D.b s' [its[i]] Ic.kIn rfl) (.cons ru1 .nil)
   ⟨S,[ls[i]],λk' S'=>S'=S/\k'=tre (κ ls[i]),sc,.cons (rv0.fr fc) .nil,hkt.2.2 S _ ⟨rfl,rfl⟩,λv' H' t' S' f' s' r' q'=>by obtain ⟨rfl,rfl⟩:=q';exact ⟨f',s',r'⟩⟩) λr s2 hr2=>?_)))
  cases r with
  |error e=>exact False.elim hr2
  |ok fl =>
   cases fl with
   |next=>exact False.elim hr2
   |brk=>exact False.elim hr2
   |cont=>exact False.elim hr2
   |ret ku =>
    obtain ⟨v',H',I',r',f',s'',rp'⟩:=Ic.after hr2
    have ek':=(f' (L+2) _ ek nSk).1
    have eL':=(f' L _ eL nSL).1
    obtain ⟨zz,kus,nn,rku,eku⟩:=sF I' ek'
    have lk:kvs.length=i:=by rw [rk.length];simp;omega
    have lk2:kus.length=i:=by rw [<- rku.length];exact lk
    dsimp only
    refine wpAny_bind (listUpdate_at eku rfl ?_ (by simp;omega) (by simp;omega))
    refine wpAny_pure ⟨i+1,kvs++[v'],_,rfl,il,i3 I' ek' eku (its':=kus++[ku]) (by simp) (rku.append (.cons r' .nil)) (by simp;omega),?_,aA,nSL,nSk,?_,s''.chg ek' nSk,?_⟩
    ·rw [ap ne2];exact eL'
    ·exact Fr.at (fc.trans f') nk
    ·rw [List.take_add_one,hi2]
     simp only [Option.toList_some,List.map_append,List.map_cons,List.map_nil]
     exact Rps.chg ek' ((rk.fr f').append (.cons rp' .nil))
 ·rintro ⟨⟩ s5 ⟨i,kvs,Hc,hrest,hi,I5,eL,ek,nSL,nSk,fc,sc,rk⟩
  have hi':i=ls.length:=by
   rcases Nat.lt_or_ge i its.length with z|z
   ·have hi1:its[i]?=some its[i]:=by simp [z]
    rw [iO hi1] at hrest;cases hrest
   ·omega
  subst hi'
  rw [List.take_length] at rk
  obtain ⟨zz,kus,nn,rku,eku⟩:=sF I5 ek
  have lk2:kus.length=its.length:=by rw [<- rku.length,rk.length,List.length_map,hlen]
  have rs5:=rs.fr fc
  obtain ⟨R,q1,q2,q3,q4,q5⟩:=kI rs5 rvs lk2
  have key:∀ r∈R,KR s5 r.ku (κ r.t)/\Ky.shp k0 (κ r.t)=true:=by
   have rkk:Rps K Hc S (R.map λr=>tre (κ r.t)) kvs:=by
    have:R.map (λr=>tre (κ r.t))=ls.map λt=>tre (κ t):=by rw [<- q1,List.map_map];rfl
    rw [this];exact rk
   have go:∀ {R:List Rec}{kvs:List V},Rps K Hc S (R.map λr=>tre (κ r.t)) kvs->ai kvs (R.map (·.ku))->(∀ r∈R,r.t∈ls)->∀ r∈R,KR s5 r.ku (κ r.t)/\Ky.shp k0 (κ r.t)=true:=by
    intro R
    induction R with
    |nil=>intro _ _ _ _ r hr;cases hr
    |cons r0 R ih =>
     intro kvs a b m r hr
     cases a with
     |cons a1 a2 =>
      cases b with
      |cons b1 b2 =>
       rcases List.mem_cons.mp hr with rfl|hr
       ·have:=hk r.t (m r (List.mem_cons_self ..))
        exact ⟨sE hK I5 a1 b1 this.1,this.2.1⟩
       ·exact ih a2 b2 (λx hx=>m x (List.mem_cons_of_mem _ hx)) r hr
   exact go rkk (by rw [q4];exact rku) λr hr=>by rw [<- q1];exact List.mem_map_of_mem hr
  refine wpAny_bind (listItems_at eku rfl ?_)
  refine nP (k0:=k0) lk2 hf (λv hv=>?_) (by have:=hr.in1.in1.units;omega) λst hp hfail hsrt=>?_
  ·rw [<- q4] at hv
   obtain ⟨r,hr,rfl⟩:=List.mem_map.mp hv
   exact ⟨_,key r hr⟩
  ·obtain ⟨R',pR,eR⟩:=iG (λr:Rec=>((r.ku,r.u):Keyed)) (Array.perm_iff_toList_perm.mp hp) (l:=R) (by
    have:(kus.toArray.zip its.toArray).toList=kus.zip its:=by simp
    rw [this,<- q3,<- q4]
    exact List.zip_map')
   have memR:∀ r∈R',r∈R:=λr hr=>pR.mem_iff.mp hr
   obtain ⟨rz,vz⟩:=j5 λr hr=>q5 r (memR r hr)
   have lR:R'.length=its.length:=by rw [pR.length_eq,<- q3,List.length_map]
   have szR:(arrOf st).size=R'.length:=by rw [<- Array.length_toList,eR,List.length_map]
   have at_:∀ k (h:k<(arrOf st).size) (h':k<R'.length),(arrOf st)[k].1=R'[k].ku:=λk h h'=>by
    have e1:(arrOf st)[k]=(arrOf st).toList[k]'(by simpa using h):=by simp
    rw [e1,List.getElem_of_eq eR,List.getElem_map]
   have srt:(R'.map (·.t)).Pairwise (λa b=>Ky.lt (κ b) (κ a)=false):=by
    rw [List.pairwise_map,List.pairwise_iff_getElem]
    intro i j hi hj ij
    have:=hsrt i j (by rw [szR];exact hj) (by rw [szR];exact hi) (Nat.le_of_lt ij)
    rw [at_ i (by rw [szR];exact hi) hi,at_ j (by rw [szR];exact hj) hj,fS (key _ (memR _ (List.getElem_mem hi))).1,fS (key _ (memR _ (List.getElem_mem hj))).1] at this
    exact this
   have fin:=hq (R'.map (·.t)) (by rw [<- q1];exact pR.map _) srt
   have eL5:=sG I5 eL
   have out:(arrOf st).map (·.2)=(R'.map (·.u)).toArray:=by
    apply Array.toList_inj.mp
    rw [Array.toList_map,eR,List.map_map]
    rfl
   dsimp only
   refine wpAny_bind (listUpdate_at eku rfl ?_ (by simp;omega) (by simp))
   refine wpAny_bind (wpAny_letGo ?_)
   have I6:=i3 I5 ek eku (f:=λ_=>#[]) (its':=[]) (ws:=[]) rfl .nil (Nat.zero_le _)
   have eL6:(s5.heap.update (L+2) (Obj.mapSeq λ_=>#[])).get? L=some (seqObj "list" #[] ep):=(Heap.get?_update_other _ _ ne1).trans eL5
   have hL6:upd Hc (L+2) (a8 (L+2) []) L=some (ci L (seqObj "list" #[] ep)):=by rw [ap ne2];exact eL
   refine wpAny_bind (seqEpoch_at eL6 rfl ?_)
   refine wpAny_bind (listUpdate_at eL6 rfl ?_ (by simp) (by rw [out];simp;omega))
   rw [hfail]
   simp only [bne_self_eq_false,Bool.false_eq_true,if_false]
   have I7:=i3 I6 hL6 (its:=[]) eL6 (f:=λ_=>(arrOf st).map (·.2)) (its':=R'.map (·.u)) out vz (by rw [List.length_map,lR];exact hsl)
   have I8:=I7.ofAcc (D:=L) aA
   rw [fV] at I8
   refine wpAny_pure ⟨_,rfl,wpAny_pure ⟨.ref L,_,I8,rfl,?_⟩⟩
   have s6:=sc.chg (o:=a8 (L+2) []) ek nSk
   have r6:=Rps.chg (o:=a8 (L+2) []) ek rz
   have f6:Fr H S (upd Hc (L+2) (a8 (L+2) [])) S:=Fr.at fc nk
   cases tr with
   |false=>exact b _ _ (.lst _) S (Fr.at f6 nL) (s6.chg hL6 nSL) (.lst nSL aA (Rps.chg hL6 r6)) fin
   |true =>
    refine b _ _ (.ref L) _ (λa o h nn=>?_) (SRp.trk hL6 s6 r6) .ref (fin L nSL)
    have ha:a≠L:=bf h nL
    rw [aO ha]
    exact Fr.at f6 nL a o h nn
theorem zl {X:Cx}{K:Fg}(tr:Bool){k:Nat}{f:Addr}{fd:FuncData}{fx pn:Str}{wsp:WSp}{p pos kp kpos:Pos}{e:Expr}{wr:WA}(hK:X.K=K) (F:FnOk X.prog X.w X.K X.mg X.base CX0 k f fd [pn] (lSp K wsp)) (D:Df X.K X.mg fx f fd [pn]) (hr:Room (k+2) X.A)
  (hg:Gl X "sorted") (hm:X.mg "sorted"=none) (hgf:Gl X fx) (ha:QA K X [e] wr) (hdb:(fx==("__debug__":Str))=false:=by decide)
  (hks:(backToKw pos (keywordEach [⟨some (Str.ofString "key"),.Name fx kp,kpos⟩] X.env)).filterMap (·.1)=[Str.ofString "key"]:=by rfl)
  (he:backTo pos (starEach [e] X.env)=(false,eval e X.env)::backTo pos (starEach [] X.env):=by rfl)
  (hplain:(backTo pos (starEach [e] X.env)).any (·.1)=false:=by rfl)
  (hall:(backToKw pos (keywordEach [⟨some (Str.ofString "key"),.Name fx kp,kpos⟩] X.env)).all (·.1.isSome)=true:=by rfl)
  (hkw2:(backToKw pos (keywordEach [⟨some (Str.ofString "key"),.Name fx kp,kpos⟩] X.env)).any (·.1.isNone)=false:=by rfl) :
  QE K X (.Call (.Name "sorted" p) [e] [⟨some (Str.ofString "key"),.Name fx kp,kpos⟩] pos) (wSK (lf tr f wsp) wr (wC (.ref f))):=by
 have hk:QE K X (.Name fx kp) (wC (.ref f)):=kY (pb (v:=.ref f) hgf D.hm rfl hdb) λ_ _=>.ref
 exact PE.of (og (zk tr hK F D hr) hg hm PyProof.Rows.boot_sorted ha (pj hk qe) hks (by decide) (by decide) he hplain hall hkw2) λ_ _ _ h=>BA h
theorem zm {α:Type}{S:Sto}{Q:T->Sto->Prop}{tr:Bool}{f:Addr}{wsp:WSp}{ft:α->T}{ls:List α}{x:T}(κT:T->Ky) (k0:Ky) (e:aD S x=some (ls.map ft)) (hf:fit k0=true) (hd:k0.dep<=30)
  (hk:∀ a∈ls,Ky.ok (κT (ft a))=true/\Ky.shp k0 (κT (ft a))=true/\∀ S' Q',Q' (tre (κT (ft a))) S'->wsp [ft a] S' Q')
  (h:∀ l':List α,l'.Perm ls->l'.Pairwise (λa b=>Ky.lt (κT (ft b)) (κT (ft a))=false)->aR tr (l'.map ft) S Q):lf tr f wsp [x] [.ref f] S Q:=by
 refine ⟨x,ls.map ft,κT,k0,rfl,rfl,e,hf,hd,λt ht=>?_,λzs hp hs=>?_⟩
 ·obtain ⟨a,ha,rfl⟩:=List.mem_map.mp ht
  exact hk a ha
 ·obtain ⟨l',p,rfl⟩:=iG ft hp rfl
  rw [List.pairwise_map] at hs
  exact h l' p hs
def qR (tr:Bool):GC:=λts S Q=>∃ x xs κ k0,ts=[x]/\aD S x=some xs/\fit k0=true/\k0.dep<=30 /\
 (∀ t∈xs,Ky.ok (κ t)=true/\Ky.shp k0 (κ t)=true/\tre (κ t)=t)/\mD tr xs κ S Q
theorem pU {X:Cx}{K:Fg}(tr:Bool) (hK:X.K=K) (hr:Room 2 X.A):bu X (.builtin "sorted") (lC K (qR tr)):=by
 rintro pins s σ H xs us Q I rv ⟨S,ts,Qt,sr,r1,⟨x,ls,κ,k0,e1,ev,hf,hd,hk,hq⟩,b⟩
 subst e1
 cases r1 with
 |cons rx rnil =>
 cases rnil
 obtain ⟨u,rfl,ru⟩:=bi rv
 obtain ⟨pl,vs,rfl,hS,rs⟩:=bz sr rx ev
 cases ru
 have hS':SqL X.K H pl vs:=by rw [hK];exact hS
 obtain ⟨its,rvs,hpl,hz⟩:=I.list hS'
 obtain ⟨o,n,eo,ec,_,ed⟩:=hpl
 have hsl:its.length<=sizeLine:=by rw [<- rvs.length];exact hz
 refine zj tr hK hr I sr rs hz hf hd hk hq b λA E R hA q=>?_
 refine collect_list (l:=pl) (vs:=its) ⟨o,eo,ec,n,ed⟩ (q its _ s.toks rvs (λb u e=>?_) ?_) hsl
 ·exact (Heap.get?_update_other _ _ (Ne.symm (Nat.ne_of_lt (Heap.lt_size e)))).trans (Heap.get?_push_of_some _ e)
 ·rw [Heap.size_update,size_push'];omega
theorem pV {α:Type}{S:Sto}{Q:T->Sto->Prop}{tr:Bool}{ls:List α}{x:T}(κ:α->Ky) (κT:T->Ky) (k0:Ky) (e:aD S x=some (ls.map λa=>tre (κ a))) (hT:∀ a∈ls,κT (tre (κ a))=κ a) (hf:fit k0=true) (hd:k0.dep<=30)
  (hk:∀ a∈ls,Ky.ok (κ a)=true/\Ky.shp k0 (κ a)=true)
  (h:∀ l':List α,l'.Perm ls->l'.Pairwise (λa b=>Ky.lt (κ b) (κ a)=false)->aR tr (l'.map λa=>tre (κ a)) S Q):qR tr [x] S Q:=by
 refine ⟨x,ls.map λa=>tre (κ a),κT,k0,rfl,e,hf,hd,λt ht=>?_,λzs hp hs=>?_⟩
 ·obtain ⟨a,ha,rfl⟩:=List.mem_map.mp ht
  have:=hk a ha
  rw [hT a ha]
  exact ⟨this.1,this.2,rfl⟩
 ·obtain ⟨l',p,rfl⟩:=iG (λa=>tre (κ a)) hp rfl
  rw [List.pairwise_map] at hs
  refine h l' p (hs.imp_of_mem fun {a b} ha hb q=>?_)
  rw [hT a (p.mem_iff.mp ha),hT b (p.mem_iff.mp hb)] at q
  exact q
end T2
namespace L2
open PySem PySem.Spec PyProof.Rows
end L2
namespace T2
open PySem PySem.Spec PyProof.Rows L2
section
variable {K:Fg}{X:Cx}
end
section
variable {K:Fg}{X:Cx}{e:Expr}{wa:WE}
def tV (wa:WE):WT:=λσ S B=>wa σ S λx S1=>∃ ts,aD S1 x=some ts/\B (!ts.isEmpty) S1
theorem vV {H:Hp}{S:Sto}{ts:List T}{vs:List V}(r:Rps K H S ts vs):vs.isEmpty=ts.isEmpty:=by cases r<;>rfl
theorem xu (hK:X.K=K) (h:QE K X e wa) (he:∀ whole,isTrue e X.env whole=(do let v <- whole;standAt e.pos;holding [v] (truthy v)):=by intro _;rfl):QT K X e (tV wa):=PT.of (wD h he) λσ H Q zz97=>by
 obtain ⟨S,σt,Qt,s,c,q,hq⟩:=zz97
 subst hK
 refine ⟨S,σt,_,s,c,q,λv H1 t S1 f1 s1 r1 zz98=>?_⟩
 obtain ⟨ts,ev,q1⟩:=zz98
 obtain ⟨p,vs,rfl,hS,rs⟩:=bz s1 r1 ev
 exact ⟨!vs.isEmpty,.inl ⟨vs,hS,rfl⟩,hq _ H1 S1 f1 s1 (by rw [vV rs];exact q1)⟩
theorem Eu {σ:StT}{S:Sto}{B:Bool->Sto->Prop}(h:wa σ S λx S1=>∃ ts,aD S1 x=some ts/\B (!ts.isEmpty) S1):tV wa σ S B:=h
end
end T2
namespace Xc
open PySem
structure Ent (fr:List Addr) (e:Addr) (oe:Obj) (h h':Heap):Prop where
 it:∃ T o ts,h.objs.size<=T/\h'.get? e=some (oe.mapFields (·.setIfInBounds 1 (.ref T)))/\h'.get? T=some o/\o.data=.fields ts/\ts[3]?=some .none
 keep:∀ b o,h.get? b=some o->b≠e->b∉fr->h'.get? b=some o
 slot:∀ b o,h.get? b=some o->b≠e->∃ sl,h'.get? b=some { o with slots:=sl }
section
variable {M:Model}{A:Around}{E:Value->Shared->Prop}{s:Shared}
theorem oX {base:Heap}{env:Env}{outer:List Env}{L e:Addr}{oe:Obj}{vs:Array Value}{hd:Value}{nx:Bool}{Q:Unit->Shared->Prop}
  (fr:A.frames=some (env::outer)) (ff:s.heap.FunFrames base (env::outer)) (ef:env.frame=some L) (ge:s.heap.get? e=some oe) (de:oe.data=.fields vs) (sz:1<vs.size)
  (k:∀ h',Ent ((env::outer).filterMap (·.frame)) e oe s.heap h'->Q () { s with heap:=h' }) :
  wpAny M A (do let a <- frameOf env;let pl <- entryPlaceOf L nx;let b <- EntryCells.newEntry hd a .none (rawInt L) .none pl;setField (.ref e) 1 b) (λ_ s'=>wpAny M A (setFlight (.ref e) none) Q E s') E s:=by
 have nfr:e∉(env::outer).filterMap (·.frame):=λz=>by
  obtain ⟨_,o,q,nf⟩:=ff.mem z
  rw [ge] at q;cases q;exact nf vs de
 refine wpAny_bind (wpAny_frameOf_fun fr ff ef λh1 so=>wpAny_bind (wpAny_entryPlaceOf λpl ip=>?_))
 unfold EntryCells.newEntry newFields
 refine wpAny_bind (wpAny_newObj_type ?_ (ip.sizeOk5 _ _ _ _ _))
 have ge1:h1.get? e=some oe:=(so.2.1 e nfr).trans ge
 generalize hob:({ cls:=.type "traceback",dict:=none,data:=.fields ([hd,.ref L,.none,rawInt L,.none]++(if pl.isEmpty then List.replicate 6 Value.none else pl)).toArray }:Obj)=ot
 have dt:ot.data=.fields ([hd,.ref L,.none,rawInt L,.none]++(if pl.isEmpty then List.replicate 6 Value.none else pl)).toArray:=by rw [<- hob]
 have ot0:ot.isFreed=false:=Obj.isFreed_of_fields dt
 have ge2:(h1.push ot).get? e=some oe:=Heap.get?_push_of_some ot ge1
 have neT:h1.objs.size≠e:=Nat.ne_of_gt (Heap.lt_size ge1)
 have de3:=Obj.data_mapFields de (·.setIfInBounds 1 (Value.ref h1.objs.size))
 refine wpAny_setField ge2 de sz ?_
 have ge3:=Heap.get?_update_self (Obj.mapFields (·.setIfInBounds 1 (Value.ref h1.objs.size))) ge2 (Obj.isFreed_of_fields de3)
 have gT3:((h1.push ot).update e (Obj.mapFields (·.setIfInBounds 1 (Value.ref h1.objs.size)))).get? h1.objs.size=some ot:=(Heap.get?_update_other _ _ (Ne.symm neT)).trans (Heap.get?_push_size h1 ot0)
 unfold setFlight
 refine wpAny_bind (wpAny_field ge3 de3 (x:=.ref h1.objs.size) (by simp [sz]) ?_)
 rw [if_pos (show (Value.ref h1.objs.size != Value.none)=true from by simp)]
 have sz3:3<([hd,Value.ref L,.none,rawInt L,.none]++(if pl.isEmpty then List.replicate 6 Value.none else pl)).toArray.size:=by simp
 refine wpAny_setField gT3 dt sz3 (k _ ?_)
 have kp:∀ b o,b≠e->h1.get? b=some o->(((h1.push ot).update e (Obj.mapFields (·.setIfInBounds 1 (Value.ref h1.objs.size)))).update h1.objs.size (Obj.mapFields (·.setIfInBounds 3 ((none:Option Addr).elim Value.none λf=>rawInt f)))).get? b=some o:=λb o nb hb=>by
  rw [Heap.get?_update_other _ _ (Nat.ne_of_gt (Heap.lt_size hb)),Heap.get?_update_other _ _ (Ne.symm nb)]
  exact Heap.get?_push_of_some ot hb
 refine ⟨⟨h1.objs.size,_,_,Nat.le_of_eq so.1.symm,?_,Heap.get?_update_self _ gT3 (Obj.isFreed_of_fields (Obj.data_mapFields dt _)),Obj.data_mapFields dt _,?_⟩,λb o hb nb nf=>kp b o nb ((so.2.1 b nf).trans hb),λb o hb nb=>?_⟩
 ·rw [Heap.get?_update_other _ _ neT];exact ge3
 ·rw [Array.getElem?_setIfInBounds]
  rw [if_pos rfl,if_pos sz3]
  rfl
 ·obtain ⟨sl,q⟩:=so.2.2 b o hb
  exact ⟨sl,kp b _ nb q⟩
def Exc (h:Heap) (lo:Nat) (N:Addr->Prop) (e:Addr) (cls:Value) (dct:Option Addr):Prop :=
 ∃ oe vs hd,h.get? e=some oe/\oe.cls=cls/\oe.dict=dct/\oe.data=.fields vs/\(vs[1]?=some hd/\vs[2]?=some .none)/\lo<=e/\N e /\
  (hd=.none\/∃ T oT ts,hd=.ref T/\lo<=T/\N T/\T≠e/\h.get? T=some oT/\oT.data=.fields ts/\ts[3]?=some .none)
structure Past (fr ch:List Addr) (h h':Heap):Prop where
 keep:∀ b o,h.get? b=some o->b∉ch->b∉fr->h'.get? b=some o
 slot:∀ b o,h.get? b=some o->b∈fr->∃ sl,h'.get? b=some { o with slots:=sl }
 there:∀ b o,h.get? b=some o->∃ o',h'.get? b=some o'
theorem xv (o:Obj) (f:Array Value->Array Value):(o.mapFields f).dict=o.dict:=by
 obtain ⟨c,d,dt,sl⟩:=o
 cases dt<;>rfl
theorem Exc.mono {h:Heap}{lo lo':Nat}{N:Addr->Prop}{e:Addr}{cls:Value}{dct:Option Addr}(x:Exc h lo N e cls dct) (l:lo'<=lo):Exc h lo' N e cls dct:=by
 obtain ⟨oe,vs,hd,ge,c,d,de,e1,le,ne,hh⟩:=x
 refine ⟨oe,vs,hd,ge,c,d,de,e1,Nat.le_trans l le,ne,hh.imp id λzz99=>by obtain ⟨T,oT,ts,r,lT,q⟩:=zz99;exact ⟨T,oT,ts,r,Nat.le_trans l lT,q⟩⟩
theorem Exc.there {h:Heap}{lo:Nat}{N:Addr->Prop}{e:Addr}{cls:Value}{dct:Option Addr}(x:Exc h lo N e cls dct):∃ oe,h.get? e=some oe/\oe.cls=cls/\oe.dict=dct:=by
 obtain ⟨oe,vs,hd,ge,c,d,_⟩:=x
 exact ⟨oe,ge,c,d⟩
theorem note_it {base:Heap}{env:Env}{outer:List Env}{L e:Addr}{lo:Nat}{N:Addr->Prop}{cls:Value}{dct:Option Addr}{Q:Unit->Shared->Prop}
  (fr:A.frames=some (env::outer)) (ff:s.heap.FunFrames base (env::outer)) (ef:env.frame=some L) (hN:∀ b,s.heap.objs.size<=b->N b) (hlo:lo<=s.heap.objs.size) (x:Exc s.heap lo N e cls dct)
  (k:∀ h' ch,(∀ b∈ch,lo<=b/\N b/\b∉(env::outer).filterMap (·.frame)/\∃ o vs,s.heap.get? b=some o/\o.data=.fields vs)->Past ((env::outer).filterMap (·.frame)) ch s.heap h'->Exc h' lo N e cls dct->Q () { s with heap:=h' }) :
  wpAny M A (noteFrame (.ref e) env) (λ_ s'=>wpAny M A (setFlight (.ref e) none) Q E s') E s:=by
 obtain ⟨oe,vs,hd,ge,rfl,rfl,de,e1,le,ne,hh⟩:=x
 have sz:1<vs.size:=(Array.getElem?_eq_some_iff.mp e1.1).1
 have nofld:∀ b∈(env::outer).filterMap (·.frame),∀ o,s.heap.get? b=some o->∀ vs,o.data≠.fields vs:=λb hb o q=>by
  obtain ⟨_,o',q',nf⟩:=ff.mem hb
  rw [q] at q';cases q';exact nf
 have nfe:e∉(env::outer).filterMap (·.frame):=λz=>nofld e z _ ge vs de
 have fin:∀ (g h':Heap),g.objs.size=s.heap.objs.size->Ent ((env::outer).filterMap (·.frame)) e oe g h'->Exc h' lo N e oe.cls oe.dict:=by
  rintro g h' sg ⟨⟨T,o,ts,hT,gE,gT,dT,e3⟩,_,_⟩
  have hT':s.heap.objs.size<=T:=by omega
  refine ⟨_,_,.ref T,gE,Obj.cls_mapFields _ _,xv _ _,Obj.data_mapFields de _,⟨by simp [sz],by rw [Array.getElem?_setIfInBounds,if_neg (by decide)];exact e1.2⟩,le,ne,.inr ⟨T,o,ts,rfl,Nat.le_trans hlo hT',hN T hT',λz=>?_,gT,dT,e3⟩⟩
  have q:e<s.heap.objs.size:=Heap.lt_size ge
  rw [z] at hT'
  exact absurd (Nat.lt_of_lt_of_le q hT') (Nat.lt_irrefl _)
 unfold noteFrame
 simp only [ef]
 refine wpAny_bind (wpAny_field ge de e1.1 ?_)
 rcases hh with rfl|⟨T,oT,ts,rfl,lT,nT,neT,gT,dT,e3⟩
 ·rw [if_neg (by decide)]
  refine oX fr ff ef ge de sz λh' en=>k h' [e] (λb hb=>by rw [List.mem_singleton.mp hb];exact ⟨le,ne,nfe,_,_,ge,de⟩) ⟨λb o hb hk nf=>en.keep b o hb (λz=>hk (List.mem_singleton.mpr z)) nf,λb o hb hf=>en.slot b o hb λz=>nfe (z ▸ hf),λb o hb=>?_⟩ (fin s.heap h' rfl en)
  by_cases z:b=e
  ·subst z
   obtain ⟨T,_,_,_,q,_⟩:=en.it
   exact ⟨_,q⟩
  ·obtain ⟨sl,q⟩:=en.slot b o hb z
   exact ⟨_,q⟩
 ·rw [if_pos (show (Value.ref T != Value.none)=true from by simp)]
  refine wpAny_bind (wpAny_field gT dT e3 ?_)
  rw [if_neg (show ¬ ((Value.none==rawInt L)=true) from by simp [rawInt])]
  refine wpAny_bind (wpAny_setField gT dT (Array.getElem?_eq_some_iff.mp e3).1 ?_)
  generalize hg:s.heap.update T (Obj.mapFields (·.setIfInBounds 3 Value.none))=g
  have ot:∀ b,b≠T->g.get? b=s.heap.get? b:=λb nb=>by rw [<- hg];exact Heap.get?_update_other _ _ (Ne.symm nb)
  have sg:g.objs.size=s.heap.objs.size:=by rw [<- hg];exact Heap.size_after_update ..
  have nfT:T∉(env::outer).filterMap (·.frame):=λz=>nofld T z _ gT ts dT
  have ff':g.FunFrames base (env::outer):=ff.of_keeps λb o hb nf=>⟨o,(ot b λz=>by subst z;rw [gT] at hb;cases hb;exact nf ts dT).trans hb,rfl⟩
  refine oX (s:={ s with heap:=g }) fr ff' ef ((ot e (Ne.symm neT)).trans ge) de sz λh' en=>k h' [e,T] (λb hb=>?_) ⟨λb o hb hk nf=>en.keep b o ((ot b λz=>hk (by rw [z];simp)).trans hb) (λz=>hk (by rw [z];simp)) nf,λb o hb hf=>en.slot b o ((ot b λz=>nfT (z ▸ hf)).trans hb) λz=>nfe (z ▸ hf),λb o hb=>?_⟩ (fin g h' sg en)
  ·rcases List.mem_cons.mp hb with z|z
   ·rw [z];exact ⟨le,ne,nfe,_,_,ge,de⟩
   ·rw [List.mem_singleton.mp z];exact ⟨lT,nT,nfT,_,_,gT,dT⟩
  ·by_cases z:b=e
   ·subst z
    obtain ⟨T,_,_,_,q,_⟩:=en.it
    exact ⟨_,q⟩
   ·by_cases z2:b=T
    ·subst z2
     have gT':g.get? b=some (oT.mapFields (·.setIfInBounds 3 Value.none)):=by rw [<- hg];exact Heap.get?_update_self _ gT (Obj.isFreed_of_fields (Obj.data_mapFields dT _))
     obtain ⟨sl,q⟩:=en.slot b _ gT' z
     exact ⟨_,q⟩
    ·obtain ⟨sl,q⟩:=en.slot b o ((ot b z2).trans hb) z
     exact ⟨_,q⟩
end
end Xc
namespace L2
open PySem PySem.Spec PyProof.Rows
def CX1 (P:Program) (w:World):CXT:=λouter H s E e s'=>∃ a C dct H',e=.ref a/\s'.os=s.os/\AllBare s'.gens/\Un (frs outer) [] H H' s.heap s'.heap/\HOk P w H' s'.heap /\
 Xc.Exc s'.heap s.heap.objs.size (λb=>H' b=none) a (.ref C) dct/\E (.ref C) dct H'
abbrev XS:=Addr->Option Addr->St->Hp->Prop
structure Low (X:Cx) (pins:List (Addr×Obj)) (lo:Nat):Prop where
 s0:X.s₀.heap.objs.size<=lo
 loc:X.env.locals<lo
 cell:∀ x c,X.env.cells.lookup x=some c->c<lo
 pin:∀ p∈X.pn++pins,p.1<lo
def XP (X:Cx) (pins:List (Addr×Obj)) (R:XS) (e:Value) (s':Shared):Prop:=∃ a C dct σ' H' lo,e=.ref a/\Inv X pins σ' H' s'/\Low X pins lo/\Xc.Exc s'.heap lo (λb=>H' b=none) a (.ref C) dct/\R C dct σ' H'
abbrev TR:=St->Hp->XS->Prop
def PR (X:Cx) (st:Stmt) (t:TR):Prop:=∀ (pins:List (Addr×Obj)) (s:Shared) (σ:St) (H:Hp) (R:XS),Inv X pins σ H s->t σ H R->wpAny (model X.prog X.w) X.A (exec st X.env) (λ_ _=>False) (XP X pins R) s
def PRs (X:Cx) (st:List Stmt) (t:TR):Prop:=∀ (pins:List (Addr×Obj)) (s:Shared) (σ:St) (H:Hp) (R:XS),Inv X pins σ H s->t σ H R->wpAny (model X.prog X.w) X.A (execs st X.env) (λ_ _=>False) (XP X pins R) s
def PRE (X:Cx) (e:Expr) (t:TR):Prop:=∀ (pins:List (Addr×Obj)) (s:Shared) (σ:St) (H:Hp) (R:XS),Inv X pins σ H s->t σ H R->wpAny (model X.prog X.w) X.A (eval e X.env) (λ_ _=>False) (XP X pins R) s
def PRA (X:Cx) (es:List Expr) (t:TR):Prop:=∀ (pos:Pos) (pins:List (Addr×Obj)) (s:Shared) (σ:St) (H:Hp) (R:XS),Inv X pins σ H s->t σ H R->wpAny (model X.prog X.w) X.A (spliced (backTo pos (starEach es X.env))) (λ_ _=>False) (XP X pins R) s
section
variable {X:Cx}{pins:List (Addr×Obj)}{σ:St}{H:Hp}{s:Shared}
theorem Inv.low (I:Inv X pins σ H s):Low X pins s.heap.objs.size :=
 ⟨I.sz,I.lt,λx c e=>by obtain ⟨v,o,ho,_⟩:=I.cell x c e;exact Heap.lt_size ho,λp hp=>Heap.lt_size (I.pin p hp).1⟩
theorem gu {α:Type}{t:Sem α}{Q Q':α->Shared->Prop}{E:Value->Shared->Prop}(h:wpAny (model X.prog X.w) X.A t Q (λ_ _=>False) s) (q:∀ a s,Q a s->Q' a s):wpAny (model X.prog X.w) X.A t Q' E s:=wpAny_mono h q λ_ _ z=>z.elim
variable {st:Stmt}{rest:List Stmt}{t u:TS}{r r2:TR}{e:Expr}{es:List Expr}{te:TE}{ta:TA}{pos:Pos}
theorem xw (h:PR X st r):PRs X (st::rest) r:=λpins s σ H R I q=>wpAny_execs_cons (wpAny_mono (h pins s σ H R I q) (λ_ _ z=>z.elim) λ_ _ z=>z)
def Ev (t:TS) (r:TR):TR:=λσ H R=>t { nx:=λσ' H'=>r σ' H' R,rt:=λ_ _=>False } σ H
theorem xx (h1:PS X.nox st t) (h2:PRs X rest r):PRs X (st::rest) (Ev t r):=by
 intro pins s σ H R I q
 refine wpAny_execs_cons (gu (h1 pins s σ H _ (I.wish _) q) λf s1 q=>?_)
 cases f with
 |next=>obtain ⟨σ',H',I',q⟩:=q;exact h2 pins s1 σ' H' R I'.unwish q
 |ret v=>obtain ⟨_,_,_,_,_,q⟩:=q;exact q.elim
 |brk=>obtain ⟨_,_,_,q⟩:=q;exact q.elim
 |cont=>obtain ⟨_,_,_,q⟩:=q;exact q.elim
def rIf (c:TT) (r r2:TR):TR:=λσ H R=>c σ H λb H1=>if b=true then r σ H1 R else r2 σ H1 R
theorem Ew {c:Expr}{a b:List Stmt}{tc:TT}(hc:PT X.nox c tc) (ha:PRs X a r) (hb:PRs X b r2):PR X (.If c a b pos) (rIf tc r r2):=by
 intro pins s σ H R I h
 refine wpAny_If (gu (hc pins s σ H _ (I.wish _) h) λd s1 zz100=>?_)
 obtain ⟨H1,I1,q1⟩:=zz100
 cases d with
 |true=>exact ha pins s1 σ H1 R I1.unwish q1
 |false=>exact hb pins s1 σ H1 R I1.unwish q1
theorem zn (h:PRE X e r) (hs:swapsWith e none pos.line X.env=pure false:=by rfl):PR X (.Expr e pos) r:=λpins s σ H R I q=>wpAny_Expr_any (wpAny_mono (h pins s σ H R I q) (λ_ _ z=>z.elim) λ_ _ z=>z) I.quiet hs
theorem BO (h:PRE X e r):PR X (.Return (some e) pos) r:=λpins s σ H R I q=>wpAny_Return_some (wpAny_mono (h pins s σ H R I q) (λ_ _ z=>z.elim) λ_ _ z=>z)
theorem xz (h:PRE X e r) (hs:starEach (e::es) X.env=(false,eval e X.env)::starEach es X.env:=by rfl):PRA X (e::es) r:=by
 intro pos pins s σ H R I q
 rw [hs]
 exact Calls.spliced_cons (wpAny_mono (h pins s σ H R I q) (λ_ _ z=>z.elim) λ_ _ z=>z)
end
section
variable {X:Cx}{k:Nat}{f C:Addr}{fd:FuncData}{ps:List Str}{sp:Sp}{dvs:List V}{ds:List Value}{x m:Str}{p pos apos:Pos}{e o:Expr}{es:List Expr}{ta:TE}{t:TA}{r:TR}{G:Addr->Prop}
def toE (R:XS) (σ:St):XK:=λc dct H'=>∃ C,c=.ref C/\R C dct σ H'
theorem zo {pins:List (Addr×Obj)}{σ:St}{H:Hp}{s:Shared}{R:XS}{us:List Value}{vs:List V}(F:FnOk X.prog X.w X.K X.mg X.base (CX1 X.prog X.w) k f fd ps sp) (hr:Room k X.A) (hb:aq X.K fd ps ds) (hd:ai dvs ds)
  (I:Inv X pins σ H s) (r:ai vs us) (h:sp (vs++dvs) H (λ_ _=>False) (toE R σ)):wpAny (model X.prog X.w) X.A (call (.ref f) us) (λ_ _=>False) (XP X pins R) s:=by
 have r2:ai (vs++dvs) (us++ds):=r.append hd
 have hl:(us++ds).length=ps.length:=by rw [<- r2.length];exact F.len _ _ _ _ h
 refine wpAny_call (codeAny_mono (F.run X.A X.stack s H ⟨us,[]⟩ (us++ds) (vs++dvs) _ _ hr I.env0 (hb s us I.kIn hl) r2 h) λq s' hq=>?_)
 cases q with
 |error z =>
  obtain ⟨a,C,dct,H',rfl,os,bare,un,hok,x,C',ec,q⟩:=hq
  cases ec
  exact ⟨a,C,dct,σ,H',_,rfl,I.call' (ch:=[]) os un hok bare (λ_ z=>nomatch z),I.low,x,q⟩
 |ok fl =>
  cases fl with
  |ret u=>obtain ⟨_,_,_,_,_,_,_,q⟩:=hq;exact q.elim
  |next=>exact False.elim hq
  |brk=>exact False.elim hq
  |cont=>exact False.elim hq
theorem vW {g:Value}(hg:Gl X x) (hm:X.mg x=some (.ref f)) (hk:PySem.W.keepIn X.K (.ref f)=true) (ha:PRA X (e::es) r) (hdb:(x==("__debug__":Str))=false:=by decide)
  (he:starEach (e::es) X.env=(false,eval e X.env)::starEach es X.env:=by rfl) (hpl:(backTo pos (starEach es X.env)).any (·.1)=false:=by rfl):PRE X (.Call (.Name x p) (e::es) [] pos) r:=by
 intro pins s σ H R I h
 refine wpAny_Call_Name_kw (da I hg hm ?_ hdb)
 exact PySem.W.callWith_K (h₀:=X.base) I.ok.mod.kin hk (wpAny_mono (ha pos pins s σ H R I h) (λ_ _ z=>z.elim) λ_ _ z=>z) he hpl
def sM (G:Addr->Prop) (m:Str) (sp:Sp) (dvs:List V) (ta:TE) (t:TA):TR:=λσ H R=>ta σ H λx H1=>∃ a C dx fs,x=.ref a/\H1 a=some (.ins C dx fs)/\G C/\fs.lookup m=none/\t σ H1 λvs H2=>sp (x::(vs++dvs)) H2 (λ_ _=>False) (toE R σ)
theorem oY {pl:Sem Bool}(he:PE X.nox o ta) (hG:∀ C,G C->Cls X.K C/\Meth X.K C m f) (F:FnOk X.prog X.w X.K X.mg X.base (CX1 X.prog X.w) k f fd ps sp) (hr:Room k X.A) (hb:aq X.K fd ps ds) (hd:ai dvs ds) (ha:PA X.nox (e::es) t)
  (hst:starEach (e::es) X.env=(false,eval e X.env)::starEach es X.env:=by rfl) (hpl:(backTo pos (starEach es X.env)).any (·.1)=false:=by rfl)
  (ht:eval (.Call (.Attribute o m apos) (e::es) [] pos) X.env=(do
   let ov <- eval o X.env
   standAt apos.atName
   let (f,first) <- holding [ov] (getMethod ov m pl)
   callWith pos f first (backTo pos (starEach (e::es) X.env)) (backToKw pos (keywordEach [] X.env))):=by rfl) :
  PRE X (.Call (.Attribute o m apos) (e::es) [] pos) (sM G m sp dvs ta t):=by
 intro pins s σ H R I h
 refine PySem.W.methodCall_KW (pl:=pl) (gu (he pins s σ H _ (I.wish _) h) λu s1 ⟨x,H1,I1,rx,a,C,dx,fs,ex,ea,g,l,q⟩=>?_) ht
 subst ex
 obtain rfl:u=Value.ref a:=rx
 obtain ⟨c,hm⟩:=hG C g
 refine jL I1.unwish ea c hm l ?_
 refine PySem.W.callWith_K (first:=[.ref a]) (h₀:=X.base) I.ok.mod.kin hm.kp (gu (ha pos pins s1 σ H1 _ I1 q) λus s2 ⟨vs,H2,I2,r,q2⟩=>⟨I2.unwish.kIn,?_⟩) hst hpl
 exact zo (us:=.ref a::us) (vs:=.ref a::vs) F hr hb hd I2.unwish (.cons rfl r) q2
end
section
variable {X:Cx}{pins:List (Addr×Obj)}{σ:St}{H:Hp}{s:Shared}
theorem Inv.past {h':Heap}{ch:List Addr}(I:Inv X pins σ H s){lo:Nat}(lw:Low X pins lo) (hch:∀ b∈ch,lo<=b/\H b=none/\b∉frs X.stack/\∃ o vs,s.heap.get? b=some o/\o.data=.fields vs) (p:Xc.Past (frs X.stack) ch s.heap h') :
  Inv X pins σ H { s with heap:=h' }:=by
 have nfr:∀ b u,H b=some u->b∉frs X.stack:=λb u e z=>by rw [I.stkFree b z] at e;cases e
 have nch:∀ b u,H b=some u->b∉ch:=λb u e z=>by rw [(hch b z).2.1] at e;cases e
 have kp:∀ b u o,H b=some u->s.heap.get? b=some o->h'.get? b=some o:=λb u o e g=>p.keep b o g (nch b u e) (nfr b u e)
 refine I.call (g':=s.gens) (d':=s.drawn) (t':=s.toks) (ch:=ch) ⟨λb o e _ nf nc=>p.keep b o e nc nf,λb o e _ hf _=>p.slot b o e hf,λb o _ n _=>n,λb o e _=>p.there b o e,λ_ _ e=>e,λ_ _ _ e=>e,λb ps e=>⟨#[],by rw [Array.append_empty];exact e⟩⟩ ?_ I.bare λb hb=>?_
 ·intro b u e
  refine (I.hok b u e).stay (λc v hc g=>?_) (λ_ z=>z) λ_ _ z=>z
  rcases hc with rfl|hc
  ·exact kp c u v e g
  ·exact kp c _ v hc g
 ·have hl:=(hch b hb).1
  exact ⟨.inr (Nat.le_trans lw.s0 hl),λz=>absurd (Nat.lt_of_lt_of_le lw.loc hl) (by rw [z];exact Nat.lt_irrefl _),λx c e z=>absurd (Nat.lt_of_lt_of_le (lw.cell x c e) hl) (by rw [z];exact Nat.lt_irrefl _),λq hq z=>absurd (Nat.lt_of_lt_of_le (lw.pin q hq) hl) (by rw [z];exact Nat.lt_irrefl _)⟩
theorem pW {Q:Unit->Shared->Prop}{E:Value->Shared->Prop}{a C:Addr}{dct:Option Addr}{lo:Nat}(I:Inv X pins σ H s) (st:X.stack=X.env::X.outer/\X.env.frame=some X.env.locals) (lw:Low X pins lo) (hlo:lo<=s.heap.objs.size) (x:Xc.Exc s.heap lo (λb=>H b=none) a (.ref C) dct)
  (k:∀ s',Inv X pins σ H s'->s'.os=s.os->s'.gens=s.gens->Xc.Exc s'.heap lo (λb=>H b=none) a (.ref C) dct->Q () s'):wpAny (model X.prog X.w) X.A (noteFrame (.ref a) X.env) (λ_ s'=>wpAny (model X.prog X.w) X.A (setFlight (.ref a) none) Q E s') E s:=by
 have fs:s.heap.FunFrames X.base (X.env::X.outer):=by rw [<- st.1];exact I.stack
 refine Xc.note_it (base:=X.base) (L:=X.env.locals) (by rw [I.ok.frames,st.1]) fs st.2 (λb hb=>I.hok.fresh hb) hlo x λh' ch hch p x'=>?_
 have e:(X.env::X.outer).filterMap (·.frame)=frs X.stack:=by rw [st.1];rfl
 rw [e] at hch p
 exact k _ (I.past lw hch p) rfl rfl x'
end
section
variable {P:Program}{w:World}{K:PySem.W.Frag}{mg:Str->Option Value}{base:Heap}
theorem xA {k:Nat}{f:Addr}{name qual:Str}{params:Arguments}{body:List Stmt}{scope:Scope}{dV kV doc pm cdv ct oc:Value}{an od:Option Addr}{osl:Array (Option Value)}{N ps:List Str}{sp:Sp}
  (lk:K.lookup f=some ⟨oc,od,.func (PySem.W.fnOf name qual params body scope dV kV doc pm an cdv ct),osl⟩) (hcd:PySem.W.codeIn K cdv qual=true) (S:FnScope N ps scope) (len:∀ vs H Q E,sp vs H Q E->vs.length=ps.length)
  (hbody:∀ (A:Around) (outer:List Env) (s:Shared) (H:Hp) (vs:List V) (E:XK) (Q:VK),Room k (A.deeper (envOfC qual scope s.heap.objs.size f cdv))->sp vs H Q E ->
   ∃ r,PRs (cf CX0 P w K mg base N qual scope f cdv A outer s H E) body r/\r (aY N vs) H λC dct _ H'=>E (.ref C) dct H') :
  FnOk P w K mg base (CX1 P w) (k+1) f (PySem.W.fnOf name qual params body scope dV kV doc pm an cdv ct) ps sp:=by
 refine lD lk hcd S len λA outer s H vs Q E hr hsp=>?_
 obtain ⟨r,hr1,hr2⟩:=hbody A outer s H vs E Q hr hsp
 refine ⟨λ_ σ H'=>σ=aY N vs/\H'=H,?_,rfl,rfl⟩
 rintro pins s1 σ H1 D I ⟨rfl,rfl⟩
 have I0:Inv (cf CX0 P w K mg base N qual scope f cdv A outer s H1 E) pins (aY N vs) H1 s1:=⟨⟨I.ok.mod,I.ok.kind,I.ok.glob,I.ok.blt,I.ok.above,I.ok.inj,I.ok.has,I.ok.cab,I.ok.hd,I.ok.frames,I.ok.stk,I.ok.exf,I.ok.bs,I.ok.bsz,I.ok.noex,I.ok.exfs,I.ok.funs,I.ok.frf⟩,I.os,I.bare,I.base,I.loc,I.cell,I.free,I.freeC,I.pin,I.hok,I.len⟩
 refine wpAny_mono (hr1 pins s1 _ _ _ I0 hr2) (λ_ _ z=>z.elim) λe s2 zz101=>?_
 obtain ⟨a,C,dct,σ',H',lo,ee,J,lw,x,q⟩:=zz101
 subst ee
 show wpAny (model P w) (A.deeper _) (leaving _ (.ref a)) _ _ s2
 unfold leaving
 have hlo:lo<=s2.heap.objs.size:=Nat.le_of_lt (Nat.lt_of_le_of_lt (by obtain ⟨_,_,_,_,_,_,_,_,l,_⟩:=x;exact l) (by obtain ⟨oe,_,_,ge,_⟩:=x;exact Heap.lt_size ge))
 refine wpAny_bind (pW J ⟨rfl,rfl⟩ lw hlo x λs3 J3 _ _ x3=>?_)
 exact ⟨a,C,dct,H',rfl,J3.os,J3.bare,J3.base,J3.hok,x3.mono lw.s0,q⟩
end
end L2
namespace Xc
open PySem
section
variable {M:Model}{A:Around}{E:Value->Shared->Prop}{s:Shared}
theorem flight_it {e:Addr}{lo:Nat}{N:Addr->Prop}{cls:Value}{dct:Option Addr}{Q:Unit->Shared->Prop}(x:Exc s.heap lo N e cls dct)
  (k:∀ h' ch,(∀ b∈ch,lo<=b/\N b/\∃ o vs,s.heap.get? b=some o/\o.data=.fields vs)->Past [] ch s.heap h'->Exc h' lo N e cls dct->Q () { s with heap:=h' }):wpAny M A (setFlight (.ref e) none) Q E s:=by
 have x0:=x
 obtain ⟨oe,vs,hd,ge,hc,hdc,de,e1,le,ne,hh⟩:=x
 unfold setFlight
 refine wpAny_bind (wpAny_field ge de e1.1 ?_)
 rcases hh with rfl|⟨T,oT,ts,rfl,lT,nT,neT,gT,dT,e3⟩
 ·rw [if_neg (by decide)]
  exact wpAny_pure (k s.heap [] (λ_ z=>(nomatch z)) ⟨λb o hb _ _=>hb,λb o hb z=>(nomatch z),λb o hb=>⟨o,hb⟩⟩ x0)
 ·rw [if_pos (show (Value.ref T != Value.none)=true from by simp)]
  have s3:=(Array.getElem?_eq_some_iff.mp e3).1
  refine wpAny_setField gT dT s3 (k _ [T] (λb hb=>by rw [List.mem_singleton.mp hb];exact ⟨lT,nT,_,_,gT,dT⟩) ⟨λb o hb nb _=>?_,λb o hb z=>(nomatch z),λb o hb=>?_⟩ ?_)
  ·rw [Heap.get?_update_other _ _ (λz=>nb (List.mem_singleton.mpr z.symm))];exact hb
  ·by_cases z:b=T
   ·subst z
    exact ⟨_,Heap.get?_update_self _ gT (Obj.isFreed_of_fields (Obj.data_mapFields dT _))⟩
   ·exact ⟨o,by rw [Heap.get?_update_other _ _ (Ne.symm z)];exact hb⟩
  ·refine ⟨oe,vs,.ref T,(Heap.get?_update_other _ _ neT).trans ge,hc,hdc,de,e1,le,ne,.inr ⟨T,_,_,rfl,lT,nT,neT,Heap.get?_update_self _ gT (Obj.isFreed_of_fields (Obj.data_mapFields dT _)),Obj.data_mapFields dT _,?_⟩⟩
   rw [Array.getElem?_setIfInBounds,if_pos rfl,if_pos s3]
   rfl
end
end Xc
namespace L2
open PySem PySem.Spec PyProof.Rows
abbrev Cx.inx (X:Cx) (a:Addr):Cx:={ X with A:=X.A.mark (some (.ref a)),calm:=false,xe:=λ_ _=>False }
theorem Cx.Ok.inx {X:Cx}(ok:X.Ok) (a:Addr):(X.inx a).Ok :=
 ⟨ok.mod,ok.kind,ok.glob,ok.blt,ok.above,ok.inj,ok.has,ok.cab,λz=>(nomatch z),ok.frames,ok.stk,ok.exf,ok.bs,ok.bsz,ok.noex,ok.exfs,ok.funs,ok.frf⟩
section
variable {X:Cx}{pins:List (Addr×Obj)}{σ:St}{H:Hp}{s:Shared}{a:Addr}
theorem Inv.inx (I:Inv X pins σ H s) (a:Addr):Inv (X.inx a) pins σ H s:=⟨I.ok.inx a,I.os,I.bare,I.base,I.loc,I.cell,I.free,I.freeC,I.pin,I.hok,I.len⟩
theorem Inv.outx (I:Inv (X.inx a) pins σ H s) (ok:X.Ok):Inv X pins σ H s:=⟨ok,I.os,I.bare,I.base,I.loc,I.cell,I.free,I.freeC,I.pin,I.hok,I.len⟩
theorem SP.outx {D:Ends}{f:Flow}{s':Shared}(ok:X.Ok) (h:SP (X.inx a) pins D f s'):SP X pins D f s':=by
 cases f with
 |next=>obtain ⟨σ',H',I,q⟩:=h;exact ⟨σ',H',I.outx ok,q⟩
 |brk=>obtain ⟨σ',H',I,q⟩:=h;exact ⟨σ',H',I.outx ok,q⟩
 |cont=>obtain ⟨σ',H',I,q⟩:=h;exact ⟨σ',H',I.outx ok,q⟩
 |ret u=>obtain ⟨v,σ',H',I,r,q⟩:=h;exact ⟨v,σ',H',I.outx ok,r,q⟩
theorem xB {fr ch:List Addr}{h h':Heap}(p:Xc.Past [] ch h h') (hf:∀ b∈fr,b∉ch):Xc.Past fr ch h h' :=
 ⟨λb o hb nc _=>p.keep b o hb nc (by simp),λb o hb hfr=>⟨o.slots,p.keep b o hb (hf b hfr) (by simp)⟩,p.there⟩
theorem vX {A:Around}{Q:Unit->Shared->Prop}{E:Value->Shared->Prop}{C:Addr}{dct:Option Addr}{lo:Nat}(I:Inv X pins σ H s) (lw:Low X pins lo) (x:Xc.Exc s.heap lo (λb=>H b=none) a (.ref C) dct)
  (k:∀ s',Inv X pins σ H s'->Xc.Exc s'.heap lo (λb=>H b=none) a (.ref C) dct->Q () s'):wpAny (model X.prog X.w) A (setFlight (.ref a) none) Q E s:=by
 refine Xc.flight_it x λh' ch hch p x'=>?_
 have hf:∀ b∈frs X.stack,b∉ch:=λb hb hc=>by
  obtain ⟨_,o',g',nf⟩:=I.stack.mem hb
  obtain ⟨_,_,o,vs,g,d⟩:=hch b hc
  rw [g] at g';cases g'
  exact nf vs d
 exact k _ (I.past lw (λb hb=>⟨(hch b hb).1,(hch b hb).2.1,λz=>hf b z hb,(hch b hb).2.2⟩) (xB p hf)) x'
abbrev TH:=Addr->TS
def PH (X:Cx) (hs:List ExceptHandler) (t:TH):Prop:=∀ (pins:List (Addr×Obj)) (s:Shared) (σ:St) (H:Hp) (a C:Addr) (dct:Option Addr) (lo:Nat) (D:Ends),Inv X pins σ H s->Low X pins lo->Xc.Exc s.heap lo (λb=>H b=none) a (.ref C) dct->t C D σ H ->
 wpAny (model X.prog X.w) X.A (handleBy (.ref a) X.env hs) (SP X pins D) X.xe s
def Ex:TH:=λ_ _ _ _=>False
theorem BP:PH X [] Ex:=λ_ _ _ _ _ _ _ _ _ _ _ _ h=>h.elim
end
end L2
set_option maxRecDepth 100000
namespace PySem
section
variable {prog:Program}{w:World}{A:Around}{E:Value->Shared->Prop}{h:Heap}{g:Array GenState}{d:Drawn}{t:Nat}{os:OsState}
variable {nm q:Str}{C N:Addr}{bs bm bmB:List Value}{hdct:Bool}{sn:List Str}{sub:List Value}{ab:Bool}{col:Option Bool}{dd:Option Addr}{k0 k1 k2 k3 k5:Option Value}{B newId initId:String}
theorem ug (F:ExcBaseFacts B newId initId bmB) (T:OwnTail h bmB bm){mN:Str->Option Value}{rest:List Value}{Q:Fin->Shared->Prop}
  (hC:h.get? C=some (excClassObj nm q C N bs bm hdct sn sub ab col dd k0 k1 k2 k3 k5 newId)) (hn:h.Ns N mN) (hni:mN "__init__"=none)
  (hq:∀ h' e,Heap.MadeExcOf h h' e (.ref C) rest->h.objs.size<=e->Q (.done (.ret (.ref e))) ⟨h',g,d,t,os⟩) (hrest:rest.length<=sizeLine:=by size_fits) :
  wpAny (model prog w) A (Builtin.«type.__call__» ⟨.ref C::rest,[]⟩) Q E ⟨h,g,d,t,os⟩:=by
 repeat (first|with_reducible refine wpAny_loadPart_at hC ?_|with_reducible refine wpAny_madeBy_exc hC ?_|wp_step)
 refine codeAny_call_builtin_code (Code.quiet_builtin _ F.quiet) (wpAny_check_new_subT F T hC ?_)
 refine codeAny_exc_new_subT F T hC ?_ hrest
 show wpAny _ _ _ _ _ _
 have hC₁:=Heap.get?_push_of_some { cls:=.ref C,data:=.fields #[.ref h.objs.size,.none,.none,.none,.bool false,.none] }
  (Heap.get?_push_of_some { cls:=.type "tuple",data:=.seq rest.toArray } hC)
 have hn₁:((h.push { cls:=.type "tuple",data:=.seq rest.toArray }).push { cls:=.ref C,data:=.fields #[.ref h.objs.size,.none,.none,.none,.bool false,.none] }).Ns N mN :=
  let ⟨o,es,ep,e,r⟩:=hn;⟨o,es,ep,Heap.get?_push_of_some _ (Heap.get?_push_of_some _ e),r⟩
 have hget:((h.push { cls:=.type "tuple",data:=.seq rest.toArray }).push
   { cls:=.ref C,data:=.fields #[.ref h.objs.size,.none,.none,.none,.bool false,.none] }).get? (h.objs.size+1)=some
   { cls:=.ref C,data:=.fields #[.ref h.objs.size,.none,.none,.none,.bool false,.none] }:=by heap_get
 have hcC:(Value.ref C::bm).contains (.ref C)=true:=by simp
 have T₁:=T.keeps (h':=(h.push { cls:=.type "tuple",data:=.seq rest.toArray }).push { cls:=.ref C,data:=.fields #[.ref h.objs.size,.none,.none,.none,.bool false,.none] })
  λb o e=>Heap.get?_push_of_some _ (Heap.get?_push_of_some _ e)
 unfold isInstance
 repeat (first|with_reducible refine wpAny_loadPart_at hget ?_|(with_reducible refine wpAny_isSubtype_exc hC₁ ?_;rw [hcC])|wp_step)
 show wpAny _ _ (typeLookup (.ref C) _) _ _ _
 refine wpAny_typeLookup_tail hC₁ hn₁ T₁ F.mroIs F.init.lookup ?_
 rw [hni]
 refine wpAny_holding (wpAny_bind (wpAny_of_eq (F.init.bind _) ?_))
 refine wpAny_bind (wpAny_call (codeAny_call_builtin F.init.plain F.initEntry (wpAny_check_init_subT F T₁ hC₁ hget rfl ?_)))
 wp_walk
 refine hq _ _ ⟨λb o hb=>?_,Heap.get?_none_of_le (Nat.le_succ _),h.objs.size+2,?_,Heap.get?_none_of_le (by omega),?_⟩ (Nat.le_succ _)
 ·rw [Heap.get?_update_other _ _ (Nat.ne_of_gt (Nat.lt_succ_of_lt (Heap.lt_size hb)))]
  exact Heap.get?_push_of_some _ (Heap.get?_push_of_some _ (Heap.get?_push_of_some _ hb))
 ·rw [Heap.get?_update_self _ (Heap.get?_push_of_some _ hget) rfl]
  simp only [Heap.size_push]
  rfl
 ·rw [Heap.get?_update_other _ _ (show h.objs.size+1≠h.objs.size+2 by omega)]
  exact Heap.get?_push_at (by simp only [Heap.size_push]) rfl
theorem vY (F:ExcBaseFacts B newId initId bmB) (T:OwnTail h bmB bm){mN:Str->Option Value}{rest:List Value}{Q:Value->Shared->Prop}
  (hC:h.get? C=some (excClassObj nm q C N bs bm hdct sn sub ab col dd k0 k1 k2 k3 k5 newId)) (hn:h.Ns N mN) (hni:mN "__init__"=none)
  (hq:∀ h' e,Heap.MadeExcOf h h' e (.ref C) rest->h.objs.size<=e->Q (.ref e) ⟨h',g,d,t,os⟩) (hrest:rest.length<=sizeLine:=by size_fits) :
  wpAny (model prog w) A (call (.ref C) rest) Q E ⟨h,g,d,t,os⟩:=by
 have f1:=tc_lookup
 have f2:=tc_bind (.ref C)
 have hT:(⟨h,g,d,t,os⟩:Shared).TypeIs (.ref C) "type":=⟨_,hC,rfl⟩
 refine wpAny_call (codeAny_of_tree ?_)
 show wpAny _ _ (callAny (.ref C) _) _ _ _
 repeat (any_goals (first|assumption|with_reducible refine wpAny_loadPart_at hC ?_|wp_step))
 refine ⟨rfl,?_⟩
 refine codeAny_call_builtin_at (Code.quiet_builtin _ (by decide +kernel)) entry_typeCall (wpAny_check_type_call_sub hC (ug (hrest:=hrest) F T hC hn hni λh' e hm hz=>?_))
 exact hq h' e hm hz
end
end PySem
namespace L2
open PySem PySem.Spec PyProof.Rows
theorem Ey {K:PySem.W.Frag}{h:Heap}{N:Addr}{mg:Str->Option Value}{n:Str}{r:Option Value}(X:K.In h) (G:h.Ns N mg) (e:PySem.W.nsIn K N n=some r):mg n=r:=by
 obtain ⟨o,es,ep,ho,hd,_,hf⟩:=G
 unfold PySem.W.nsIn at e
 split at e
 ·rename_i c d es' n' sl q
  have:=X _ _ q
  rw [ho] at this
  cases this
  cases hd
  rw [<- hf]
  unfold nsFind findBy
  rw [<- Array.find?_toList]
  split at e
  ·rename_i y he;cases e;rw [he];rfl
  ·rename_i he
   split at e
   ·cases e
   ·cases e;rw [he];rfl
 ·cases e
theorem oB {K:PySem.W.Frag}{h:Heap}{C:Addr}{r:Option Value}(X:K.In h) (q:b8 K C r=true) :
  ∃ bm N nm qn bs hdct sn sub ab col dd k0 k1 k2 k3 k5 mN,h.get? C=some (excClassObj nm qn C N bs bm hdct sn sub ab col dd k0 k1 k2 k3 k5 "ValueError.__new__")/\h.Ns N mN/\mN "__init__"=r/\OwnTail h sU bm:=by
 unfold b8 at q
 cases ho:K.lookup C with
 |none=>rw [ho] at q;cases q
 |some o =>
  rw [ho] at q
  obtain ⟨cls,dd,dat,sl⟩:=o
  dsimp only at q
  rw [Bool.and_eq_true,beq_iff_eq] at q
  obtain ⟨rfl,q⟩:=q
  cases dat<;>try (cases q;done)
  rename_i cd
  dsimp only at q
  obtain ⟨nm,bs,mro,ns,qn,hd,sn,sub,ab,col,del⟩:=cd
  cases mro with
  |nil=>cases q
  |cons v bm =>
   simp only [Bool.and_eq_true,beq_iff_eq,Bool.not_eq_true'] at q
   obtain ⟨⟨⟨⟨⟨⟨rfl,h6⟩,h4⟩,hdel⟩,ht⟩,hok⟩,hni⟩:=q
   subst hdel
   obtain ⟨l⟩:=sl
   have h6:l.length=6:=h6
   have h4:l[4]?=some (some (.builtin "ValueError.__new__")):=h4
   obtain ⟨k0,k1,k2,k3,k4,k5,rfl⟩:∃ a b c d e f,l=[a,b,c,d,e,f]:=⟨l[0],l[1],l[2],l[3],l[4],l[5],List.ext_getElem h6 λi h1 h2=>by
    rcases i with _|_|_|_|_|_|i
    ·rfl
    ·rfl
    ·rfl
    ·rfl
    ·rfl
    ·rfl
    ·exact absurd h2 (by simp only [List.length_cons,List.length_nil];omega)⟩
   obtain rfl:k4=some (.builtin "ValueError.__new__"):=Option.some.inj h4
   have N:=Heap.Ns.of_isNs (PySem.W.isNs_of_in X hok)
   exact ⟨bm,ns,nm,qn,bs,hd,sn,sub,ab,col,dd,k0,k1,k2,k3,k5,_,X _ _ ho,N,Ey X N hni,PySem.W.tail_of_in X ht⟩
theorem vZ {K:PySem.W.Frag}{h h2:Heap}{C:Addr}{r:Option Value}(X:K.In h) (X2:K.In h2) (q:b8 K C r=true):h.get? C=h2.get? C:=by
 unfold b8 at q
 cases ho:K.lookup C with
 |none=>rw [ho] at q;cases q
 |some o=>rw [X _ _ ho,X2 _ _ ho]
section
variable {X:Cx}{C:Addr}{x:Str}{p pos pos2:Pos}{e:Expr}{es:List Expr}{t:TA}
def BQ (C:Addr) (t:TA):TR:=λσ H R=>t σ H λvs H1=>vs.length<=2/\R C none σ H1
theorem xC (hx:b8 X.K C none=true) (hk:PySem.W.keepIn X.K (.ref C)=true) (hc:X.calm=true) (hg:Gl X x) (hm:X.mg x=some (.ref C)) (ha:PA X.nox (e::es) t) (hdb:(x==("__debug__":Str))=false:=by decide)
  (he:starEach (e::es) X.env=(false,eval e X.env)::starEach es X.env:=by rfl) (hpl:(backTo pos (starEach es X.env)).any (·.1)=false:=by rfl):PR X (.Raise (some (.Call (.Name x p) (e::es) [] pos)) none pos2) (BQ C t):=by
 intro pins s σ H R I h
 obtain ⟨bm,N,nm,q,bs,hd,sn,sub,ab,col,dd,k0,k1,k2,k3,k5,mN,hC,hN,hi,T⟩:=oB I.kIn hx
 have hbase:bm.contains (.type "BaseException")=true:=T.hasType (by decide)
 rw [arm_exec_Raise]
 have go:wpAny (model X.prog X.w) X.A (eval (.Call (.Name x p) (e::es) [] pos) X.env) (λv s1=>∃ en t0,v=.ref en/\s1.heap.get? C=some (excClassObj nm q C N bs bm hd sn sub ab col dd k0 k1 k2 k3 k5 "ValueError.__new__") /\
   s1.heap.get? en=some { cls:=.ref C,data:=.fields #[.ref t0,.none,.none,.none,.bool false,.none] }/\XP X pins R (.ref en) s1) (XP X pins R) s:=by
  refine wpAny_Call_Name_kw (da I hg hm ?_ hdb)
  refine PySem.W.callWith_K (h₀:=X.base) I.ok.mod.kin hk (gu (ha pos pins s σ H _ (I.wish _) h) λus s1 ⟨vs,H1,I1,r,hl,q1⟩=>⟨I1.unwish.kIn,?_⟩) he hpl
  have J:=I1.unwish
  obtain ⟨bm',N',nm',q',bs',hd',sn',sub',ab',col',dd',k0',k1',k2',k3',k5',mN',hC',hN',hi',T'⟩:=oB J.kIn hx
  have same:s1.heap.get? C=some (excClassObj nm q C N bs bm hd sn sub ab col dd k0 k1 k2 k3 k5 "ValueError.__new__"):=by
   have z:=vZ I.kIn J.kIn hx
   rw [<- z];exact hC
  obtain ⟨hp,g,d,tk,os⟩:=s1
  refine vY PySem.F.excBase_ValueError T' hC' hN' hi' (λh' en m hz=>?_) (by have:=r.length;rw [sizeLine_eq,List.nil_append];omega)
  obtain ⟨t0,g1,g2,g3⟩:=m.there
  refine ⟨en,t0,rfl,m.keeps _ _ same,g1,?_⟩
  refine ⟨en,C,none,σ,H1,hp.objs.size,rfl,J.kept (t':=tk) m.keeps,J.low,⟨_,_,.none,g1,rfl,rfl,rfl,⟨rfl,rfl⟩,hz,J.hok.fresh hz,.inl rfl⟩,q1⟩
 exact wpAny_bind (wpAny_standAt (wpAny_raiseStmt_made_sub (C:=C) (nm:=nm) (q:=q) (N:=N) (bs:=bs) (bm:=bm) (hdct:=hd) (sn:=sn) (sub:=sub) (ab:=ab) (col:=col) (dd:=dd) (k0:=k0) (k1:=k1) (k2:=k2) (k3:=k3) (k5:=k5) (newId:="ValueError.__new__") hbase (I.ok.hd hc)
  (wpAny_bind (wpAny_mono go (λv s3 h3=>wpAny_bind (wpAny_standAt (wpAny_pure h3))) λ_ _ z=>z))))
end
end L2
namespace T2
open PySem PySem.Spec PyProof.Rows L2
abbrev WX:=Addr->StT->Sto->Prop
abbrev WR:=StT->Sto->WX->Prop
def lR (K:Fg) (w:WR):TR:=λσ H R=>∃ S σt Rt,SRp K H S/\Cov K H S σ σt/\w σt S Rt/\∀ C σ' H' σt' S',Fr H S H' S'->SRp K H' S'->Cov K H' S' σ' σt'->Rt C σt' S'->R C none σ' H'
def QR (K:Fg) (X:Cx) (st:Stmt) (w:WR):Prop:=PR X st (lR K w)
def QRs (K:Fg) (X:Cx) (st:List Stmt) (w:WR):Prop:=PRs X st (lR K w)
def QRE (K:Fg) (X:Cx) (e:Expr) (w:WR):Prop:=PRE X e (lR K w)
def QRA (K:Fg) (X:Cx) (es:List Expr) (w:WR):Prop:=PRA X es (lR K w)
theorem PR.of {X:Cx}{e:Stmt}{t t':TR}(h:PR X e t) (i:∀ σ H Q,t' σ H Q->t σ H Q):PR X e t':=λpins s σ H Q I q=>h pins s σ H Q I (i σ H Q q)
theorem PRs.of {X:Cx}{e:List Stmt}{t t':TR}(h:PRs X e t) (i:∀ σ H Q,t' σ H Q->t σ H Q):PRs X e t':=λpins s σ H Q I q=>h pins s σ H Q I (i σ H Q q)
theorem PRE.of {X:Cx}{e:Expr}{t t':TR}(h:PRE X e t) (i:∀ σ H Q,t' σ H Q->t σ H Q):PRE X e t':=λpins s σ H Q I q=>h pins s σ H Q I (i σ H Q q)
abbrev cu:=List T->Sto->(Addr->Sto->Prop)->Prop
def bD (K:Fg) (w:cu):Sp:=λvs H _ E=>∃ S ts Rt,SRp K H S/\Rps K H S ts vs/\w ts S Rt/\∀ C H' S',Fr H S H' S'->SRp K H' S'->Rt C S'->E (.ref C) none H'
section
variable {K:Fg}{X:Cx}{st:Stmt}{rest:List Stmt}{w u:WS}{r r2:WR}{e:Expr}{es:List Expr}{we:WE}{pos:Pos}{t:WT}
theorem bb (h:QR K X st r):QRs K X (st::rest) r:=xw h
def qS (w:WS) (r:WR):WR:=λσ S R=>w { nx:=λσ' S'=>r σ' S' R,rt:=λ_ _=>False } σ S
theorem fU (h1:QS K X.nox st w) (h2:QRs K X rest r):QRs K X (st::rest) (qS w r):=PRs.of (xx h1 h2) λσ H R ⟨S,σt,Rt,s,c,q,hr⟩ =>
 ⟨S,σt,_,s,c,q,⟨λσ' H' σt' S' f s' c' q'=>⟨S',σt',Rt,s',c',q',λC σ2 H2 σt2 S2 f2=>hr C σ2 H2 σt2 S2 (f.trans f2)⟩,λ_ _ _ _ _ _ _ q'=>q'.elim,λ_ _ _ _ _ _ _ q'=>q'.elim,λ_ _ _ _ _ _ _ q'=>q'.elim⟩⟩
def tW (t:WT) (r r2:WR):WR:=λσ S R=>t σ S λb S1=>if b=true then r σ S1 R else r2 σ S1 R
theorem di {c:Expr}{a b:List Stmt}(hc:QT K X.nox c t) (ha:QRs K X a r) (hb:QRs K X b r2):QR K X (.If c a b pos) (tW t r r2):=PR.of (Ew hc ha hb) λσ H R zz102=>by
 obtain ⟨S,σt,Rt,s,c,q,hr⟩:=zz102
 refine ⟨S,σt,_,s,c,q,λk H1 S1 f1 s1 q1=>?_⟩
 cases k with
 |true=>exact ⟨S1,σt,Rt,s1,c.fr f1,q1,λC σ2 H2 σt2 S2 f2=>hr C σ2 H2 σt2 S2 (f1.trans f2)⟩
 |false=>exact ⟨S1,σt,Rt,s1,c.fr f1,q1,λC σ2 H2 σt2 S2 f2=>hr C σ2 H2 σt2 S2 (f1.trans f2)⟩
def zq:WR:=λ_ _ _=>False
theorem c9 {sts:List Stmt}:QRs K X sts zq:=λ_ _ _ _ _ _ zz103=>by obtain ⟨_,_,_,_,_,q,_⟩:=zz103;exact q.elim
theorem eW (h:QRE K X e r) (hs:swapsWith e none pos.line X.env=pure false:=by rfl):QR K X (.Expr e pos) r:=zn h hs
theorem BR (h:QRE K X e r):QR K X (.Return (some e) pos) r:=BO h
theorem oZ (h:QRE K X e r) (hs:starEach (e::es) X.env=(false,eval e X.env)::starEach es X.env:=by rfl):QRA K X (e::es) r:=xz h hs
end
section
variable {K:Fg}{X:Cx}{k:Nat}{f C:Addr}{fd:FuncData}{ps:List Str}{wsp:cu}{x m:Str}{p pos pos2 apos:Pos}{e o:Expr}{es:List Expr}{wa:WE}{wr:WA}{r:WR}{G:Addr->Prop}
theorem o0 (D:Df X.K X.mg x f fd ps) (hg:Gl X x) (ha:QRA K X (e::es) r) (hdb:(x==("__debug__":Str))=false:=by decide) (he:starEach (e::es) X.env=(false,eval e X.env)::starEach es X.env:=by rfl) (hpl:(backTo pos (starEach es X.env)).any (·.1)=false:=by rfl) :
  QRE K X (.Call (.Name x p) (e::es) [] pos) r:=vW (g:=.none) hg D.hm D.kp ha hdb he hpl
def lg (G:Addr->Prop) (m:Str) (wsp:cu) (wa:WE) (wr:WA):WR:=λσ S R=>wa σ S λx S1=>∃ a C fs,x=.ref a/\S1 a=some (.ins C fs)/\G C/\fs.lookup m=none/\wr σ S1 λts S2=>wsp (x::(ts++[])) S2 λC S'=>R C σ S'
theorem v0 {σ H R}(h:lR K (lg G m wsp wa wr) σ H R):sM G m (bD K wsp) [] (lE K wa) (lA K wr) σ H R:=by
 obtain ⟨S,σt,Rt,s,c,q,hq⟩:=h
 refine ⟨S,σt,_,s,c,q,λx H1 tx S1 f1 s1 r1 q1=>?_⟩
 obtain ⟨a,C,fs,rfl,ea,g,l,q1⟩:=q1
 cases r1
 cases s1 a _ ea with
 |ins eh pr =>
  refine ⟨a,C,_,_,rfl,eh,g,b6 pr l,S1,σt,_,s1,c.fr f1,q1,λvs H2 ts S2 f2 s2 r2 q2=>?_⟩
  exact ⟨S2,_,_,s2,.cons .ref (r2.append .nil),q2,λC H' S' f s' q'=>⟨C,rfl,hq C σ H' σt S' ((f1.trans f2).trans f) s' (c.fr ((f1.trans f2).trans f)) q'⟩⟩
theorem dF {pl:Sem Bool}(hG:∀ C,G C->Cls X.K C/\Meth X.K C m f) (F:FnOk X.prog X.w X.K X.mg X.base (CX1 X.prog X.w) k f fd ps (bD K wsp)) (hb:aq X.K fd ps []) (hr:Room k X.A) (ho:QE K X.nox o wa) (ha:QA K X.nox (e::es) wr)
  (hst:starEach (e::es) X.env=(false,eval e X.env)::starEach es X.env:=by rfl) (hpl:(backTo pos (starEach es X.env)).any (·.1)=false:=by rfl)
  (ht:eval (.Call (.Attribute o m apos) (e::es) [] pos) X.env=(do
   let ov <- eval o X.env
   standAt apos.atName
   let (f,first) <- holding [ov] (getMethod ov m pl)
   callWith pos f first (backTo pos (starEach (e::es) X.env)) (backToKw pos (keywordEach [] X.env))):=by rfl) :
  QRE K X (.Call (.Attribute o m apos) (e::es) [] pos) (lg G m wsp wa wr):=PRE.of (oY (pl:=pl) (dvs:=[]) ho hG F hr hb .nil ha hst hpl ht) λ_ _ _ h=>v0 h
def pX (C:Addr) (wr:WA):WR:=λσ S R=>wr σ S λts S1=>ts.length<=2/\R C σ S1
theorem kg (hx:b8 X.K C none=true) (hk:PySem.W.keepIn X.K (.ref C)=true) (hc:X.calm=true) (hg:Gl X x) (hm:X.mg x=some (.ref C)) (ha:QA K X.nox (e::es) wr) (hdb:(x==("__debug__":Str))=false:=by decide)
  (he:starEach (e::es) X.env=(false,eval e X.env)::starEach es X.env:=by rfl) (hpl:(backTo pos (starEach es X.env)).any (·.1)=false:=by rfl):QR K X (.Raise (some (.Call (.Name x p) (e::es) [] pos)) none pos2) (pX C wr) :=
 PR.of (xC hx hk hc hg hm ha hdb he hpl) λσ H R ⟨S,σt,Rt,s,c,q,hq⟩ =>
  ⟨S,σt,_,s,c,q,λvs H1 ts S1 f1 s1 r1 zz104=>by obtain ⟨hl,q1⟩:=zz104;exact ⟨by rw [r1.length];exact hl,hq C σ H1 σt S1 f1 s1 (c.fr f1) q1⟩⟩
end
def mI (R:Addr->Sto->Prop):WX:=λC _ S=>∃ S0,Le S0 S/\R C S0
theorem mI.mk {R:Addr->Sto->Prop}{C:Addr}{σ:StT}{S:Sto}(h:R C S):mI R C σ S:=⟨S,.refl,h⟩
theorem fZ {P:Program}{w:World}{K:Fg}{mg:Str->Option Value}{base:Heap}{x qual:Str}{st:Stmt}{f:Addr}{fd:FuncData}{N ps:List Str}{k:Nat}{wsp:cu}(F:FunD K x qual st f fd) (Sc:FnScope N ps (aj st)) (len:∀ ts S Q,wsp ts S Q->ts.length=ps.length)
  (hbody:∀ (cdv:Value) (A:Around) (outer:List Env) (s:Shared) (H:Hp) (E:XK),Room k (A.deeper (envOfC qual (aj st) s.heap.objs.size f cdv)) ->
   ∃ u,QRs K (cf CX0 P w K mg base N qual (aj st) f cdv A outer s H E) (ao st) u/\∀ ts S R,wsp ts S R->u (b7 N ts) S (mI R)):FnOk P w K mg base (CX1 P w) (k+1) f fd ps (bD K wsp):=by
 obtain ⟨oc,od,dV,kV,doc,pm,an,cdv,ct,osl,rfl,lk,hcd⟩:=F.ex
 refine xA lk hcd Sc (λvs H Q E ⟨S,ts,Qt,s,r,q,_⟩=>by rw [r.length];exact len _ _ _ q) λA outer s H vs E Q hr ⟨S,ts,Rt,sr,r,q,b⟩=>?_
 obtain ⟨u,hu,hq⟩:=hbody cdv A outer s H E hr
 refine ⟨_,hu,S,b7 N ts,_,sr,ix r,hq ts S Rt q,λC σ' H' σt' S' f s' _ zz105=>?_⟩
 obtain ⟨S0,l,q0⟩:=zz105
 exact b C H' S0 (f.trans (Fr.le l)) (s'.le l) q0
section
variable {K:Fg}{X:Cx}{pos p:Pos}{x:Str}{B:Addr}
abbrev WH:=Addr->WS
def lH (K:Fg) (w:WH):TH:=λC D σ H=>∃ S σt Dt,SRp K H S/\Cov K H S σ σt/\w C Dt σt S/\EndsOk K H S Dt D
def QH (K:Fg) (X:Cx) (hs:List ExceptHandler) (w:WH):Prop:=PH X hs (lH K w)
theorem PH.of {hs:List ExceptHandler}{t t':TH}(h:PH X hs t) (i:∀ C D σ H,t' C D σ H->t C D σ H):PH X hs t':=λpins s σ H a C dct lo D I lw x q=>h pins s σ H a C dct lo D I lw x (i C D σ H q)
def Ez:WH:=λ_ _ _ _=>False
theorem BS:QH K X [] Ez:=PH.of BP λ_ _ _ _ zz106=>by obtain ⟨_,_,_,_,_,q,_⟩:=zz106;exact q
def jC (wn:WS) (wr:WR) (wh:WH):WS:=λD σ S=>wn D σ S\/wr σ S λC σ' S'=>wh C D σ' S'
end
section
variable {K:Fg}{σ:StT}{S:Sto}{R:WX}{D:EndsT}{w:WS}{r r2:WR}{t:WT}{we wa:WE}{wr:WA}{wsp:cu}{C B:Addr}{G:Addr->Prop}{m:Str}{wh:WH}
theorem qT (h:w { nx:=λσ' S'=>r σ' S' R,rt:=λ_ _=>False } σ S):qS w r σ S R:=h
theorem tX (h:t σ S λb S1=>if b=true then r σ S1 R else r2 σ S1 R):tW t r r2 σ S R:=h
theorem BT (h:wa σ S λx S1=>∃ a C fs,x=.ref a/\S1 a=some (.ins C fs)/\G C/\fs.lookup m=none/\wr σ S1 λts S2=>wsp (x::(ts++[])) S2 λC S'=>R C σ S'):lg G m wsp wa wr σ S R:=h
theorem zr (h:wr σ S λts S1=>ts.length<=2/\R C σ S1):pX C wr σ S R:=h
theorem gv (h:w D σ S):jC w r wh D σ S:=.inl h
theorem qU (h:r σ S λC σ' S'=>wh C D σ' S'):jC w r wh D σ S:=.inr h
end
end T2
namespace L2
open PySem PySem.Spec PyProof.Rows
section
variable {X:Cx}
variable {pos p2 p3:Pos}{value:Expr}{tv:TE}{s2:Str}{k3:Nat}
end
end L2
namespace T2
open PySem PySem.Spec PyProof.Rows L2
section
variable {K:Fg}{X:Cx}{pos p2 p3:Pos}{value o:Expr}{wv wa:WE}{s2:Str}{k3:Nat}{G:Addr->Prop}
end
end T2
namespace L2
open PySem PySem.Spec PyProof.Rows
end L2
namespace T2
open PySem PySem.Spec PyProof.Rows L2
section
variable {K:Fg}{X:Cx}
end
section
variable {K:Fg}{X:Cx}{sts:List Stmt}{r1 r2:WR}
def mJ (r1 r2:WR):WR:=λσ S R=>r1 σ S R\/r2 σ S R
theorem gw (h1:QRs K X sts r1) (h2:QRs K X sts r2):QRs K X sts (mJ r1 r2):=λpins s σ H Q I zz107=>by
 obtain ⟨S,σt,Rt,sr,c,q,hr⟩:=zz107
 rcases q with q|q
 ·exact h1 pins s σ H Q I ⟨S,σt,Rt,sr,c,q,hr⟩
 ·exact h2 pins s σ H Q I ⟨S,σt,Rt,sr,c,q,hr⟩
theorem fJ {σ:StT}{S:Sto}{R:WX}(h:r1 σ S R):mJ r1 r2 σ S R:=.inl h
theorem ck {σ:StT}{S:Sto}{R:WX}(h:r2 σ S R):mJ r1 r2 σ S R:=.inr h
end
end T2
namespace L2
open PySem PySem.Spec PyProof.Rows
section
variable {X:Cx}
end
end L2
namespace T2
open PySem PySem.Spec PyProof.Rows L2
section
variable {K:Fg}{X:Cx}
end
end T2
namespace L2
open PySem PySem.Spec PyProof.Rows
section
variable {X:Cx}{pins:List (Addr×Obj)}{σ:St}{H:Hp}{s:Shared}
theorem iR {M:Model}{A:Around}{E:Value->Shared->Prop}{i:Nat}{x:Str}{pos:Pos}{Q:Unit->Shared->Prop}(I:Inv X pins σ H s) (hN:X.N.Nodup) (hi:X.N[i]?=some x) (hx:X.env.scope.names.lookup x=some .local)
  (h:∀ s',Inv X pins (σ.set i none) H s'->Q () s'):wpAny M A (do bindName X.env x .none;unbindBehindTheSuite X.env x pos) Q E s:=by
 refine wpAny_bind (wpAny_bindName (fR (v:=.non) I hN hi (.inl hx) rfl (λs1 I1=>?_) (.inr hx)))
 have hcls:(X.env.scope.kind==.class || (X.env.scope.kind==.module&&X.env.locals != X.env.globals))=false:=by rw [I.ok.kind];rfl
 have hk:X.env.kindOf x=some .local:=hx
 obtain ⟨m,hn,hl⟩:=id I1.loc
 have cne:=I1.cne
 unfold unbindBehindTheSuite
 refine wpAny_onRaise ?_
 unfold unbindName
 refine wpAny_bind (wpAny_point (wpAny_bind ?_))
 unfold deleteName
 simp only [hk,hcls]
 rw [if_neg (by decide)]
 refine wpAny_bind (wpAny_nsDel_keeps hn λh' v hn' hs=>?_)
 have hsome:(m x).isSome=true:=by
  have hiσ:i<σ.length:=by rw [I.len];exact (List.getElem?_eq_some_iff.mp hi).1
  obtain ⟨u,_,q⟩:=hl i x .non hi (by rw [List.getElem?_set_self hiσ]) (.inl hx)
  rcases q with ⟨_,e⟩|⟨k,_⟩
  ·rw [e];rfl
  ·rw [hk] at k;rcases k with k|k<;>cases k
 rw [hsome]
 simp only [if_true,Option.isSome_some,Bool.not_true,Bool.false_eq_true,if_false]
 refine wpAny_pure (wpAny_point (h _ ?_))
 obtain ⟨oL,_,_,hoL,_⟩:=id hn
 refine ⟨I.ok,I1.os,I1.bare,⟨λb o e n hb hx=>?_,λb o e n hb hx=>?_,I1.base.free,λb o e hx=>?_,I1.base.tups,I1.base.frzs,I1.base.tbls⟩,⟨_,hn',λj y v' e1 e2 e3=>?_⟩,λy c e=>?_,I1.free,I1.freeC,λp hp=>?_,λb ob e=>?_,by simpa using I.len⟩
 ·exact (hs.2 b (Nat.ne_of_lt (Nat.lt_of_lt_of_le (Heap.lt_size e) I.ok.above))).trans (I1.base.keep b o e n hb hx)
 ·obtain ⟨sl,e1⟩:=I1.base.slot b o e n hb hx
  exact ⟨sl,(hs.2 b (Nat.ne_of_lt (Nat.lt_of_lt_of_le (Heap.lt_size e) I.ok.above))).trans e1⟩
 ·obtain ⟨o',e1⟩:=I1.base.there b o e hx
  exact ⟨o',(hs.2 b (Nat.ne_of_lt (Nat.lt_of_lt_of_le (Heap.lt_size e) I.ok.above))).trans e1⟩
 ·have hiσ:i<σ.length:=by rw [I.len];exact (List.getElem?_eq_some_iff.mp hi).1
  by_cases hj:j=i
  ·subst hj
   rw [List.getElem?_set_self hiσ] at e2
   cases e2
  ·rw [List.getElem?_set_ne (Ne.symm hj)] at e2
   obtain ⟨u',r',q⟩:=hl j y v' e1 (by rw [List.getElem?_set_ne (Ne.symm hj)];exact e2) e3
   refine ⟨u',r',?_⟩
   rcases q with ⟨k,e⟩|⟨k,c,e,z⟩
   ·refine .inl ⟨k,?_⟩
    have:y≠x:=λe=>hj (jW hN e1 (e ▸ hi))
    simp [this,e]
   ·exact .inr ⟨k,c,e,z.sameBut hs (cne y c e)⟩
 ·obtain ⟨w',z⟩:=I1.cell y c e
  exact ⟨w',z.sameBut hs (cne y c e)⟩
 ·obtain ⟨e,n,ne,nf,d⟩:=I1.pin p hp
  exact ⟨(hs.2 p.1 ne).trans e,n,ne,nf,d⟩
 ·refine (I1.hok b ob e).stay (λc w' hc q=>(hs.2 c ?_).trans q) (λ_ q=>q) λ_ _ q=>q
  rintro rfl
  rcases hc with rfl|hc
  ·rw [I1.free] at e;cases e
  ·rw [I1.free] at hc;cases hc
theorem Inv.add {a:Addr}{o:HO}{lo:Nat}(I:Inv X pins σ H s) (lw:Low X pins lo) (hl:lo<=a) (h0:H a=none) (new:aM X.prog X.w (upd H a o) s.heap a o):Inv X pins σ (upd H a o) s:=by
 have ne:∀ b u,H b=some u->b≠a:=λb u e z=>by rw [z,h0] at e;cases e
 have up:∀ b u,H b=some u->upd H a o b=some u:=λb u e=>by unfold upd;rw [if_neg (ne b u e)];exact e
 have no:∀ b,b<lo->H b=none->upd H a o b=none:=λb hb e=>by unfold upd;rw [if_neg (λz=>absurd (Nat.lt_of_lt_of_le hb hl) (by rw [z];exact Nat.lt_irrefl _))];exact e
 refine ⟨I.ok,I.os,I.bare,⟨I.base.keep,I.base.slot,λb u e n hx=>?_,I.base.there,λb xs e=>?_,λb u v e=>?_,λb ps e=>?_⟩,I.loc,I.cell,no _ lw.loc I.free,λx c e=>no _ (lw.cell x c e) (I.freeC x c e),λp hp=>?_,λb ob e=>?_,I.len⟩
 ·exact no b (Nat.lt_of_lt_of_le (Heap.lt_size e) lw.s0) (I.base.free b u e n hx)
 ·exact up _ _ (I.base.tups b xs e)
 ·exact up _ _ (I.base.frzs b u v e)
 ·obtain ⟨m,q⟩:=I.base.tbls b ps e
  exact ⟨m,up _ _ q⟩
 ·obtain ⟨e,n,r⟩:=I.pin p hp
  exact ⟨e,no _ (lw.pin p hp) n,r⟩
 ·by_cases hb:b=a
  ·subst hb
   have:ob=o:=by unfold upd at e;rw [if_pos rfl] at e;exact (Option.some.inj e).symm
   subst this
   exact new
  ·have e':H b=some ob:=by unfold upd at e;rw [if_neg hb] at e;exact e
   exact (I.hok b ob e').stay (λc w' hc q=>q) (λc q=>up _ _ q) λc xs q=>up _ _ q
theorem BU {P:Program}{w:World}{h:Heap}{C a:Addr}(x:∃ ob,h.get? a=some ob/\ob.cls=.ref C/\ob.dict=none/\∃ vs,ob.data=.fields vs/\vs[2]?=some .none):aM P w H h a (exH C a) :=
 ⟨x,let ⟨ob,e,_⟩:=x;⟨ob,e⟩,λ_ _ zz108 k=>by obtain ⟨ob,e,r⟩:=zz108;exact ⟨ob,k _ e,r⟩⟩
end
section
variable {X:Cx}
def PHn (X:Cx) (hs:List ExceptHandler) (t:TH):Prop:=∀ (pins:List (Addr×Obj)) (s:Shared) (σ:St) (H:Hp) (a C:Addr) (lo:Nat) (D:Ends),Inv X pins σ H s->Low X pins lo->Xc.Exc s.heap lo (λb=>H b=none) a (.ref C) none->t C D σ H ->
 wpAny (model X.prog X.w) X.A (handleBy (.ref a) X.env hs) (SP X pins D) X.xe s
theorem PH.n {hs:List ExceptHandler}{t:TH}(h:PH X hs t):PHn X hs t:=λpins s σ H a C lo D I lw x q=>h pins s σ H a C none lo D I lw x q
def lh (i:Nat) (D:Ends):Ends:={ D with nx:=λσ H=>D.nx (σ.set i none) H,bk:=λσ H=>D.bk (σ.set i none) H,ct:=λσ H=>D.ct (σ.set i none) H }
def FB (K:PySem.W.Frag) (B:Addr) (i:Nat) (t:Addr->TS) (r:TH):TH:=λC D σ H=>∃ b,PySem.W.exmOne K (.ref C) (.ref B)=some b/\if b=true then ∀ a,H a=none->t a (lh i D) (σ.set i (some (.ref a))) (upd H a (exH C a)) else r C D σ H
theorem EA {x n:Str}{B:Addr}{i:Nat}{p pos:Pos}{st:Stmt}{suite:List Stmt}{hs:List ExceptHandler}{t:Addr->TS}{r:TH}(hN:X.N.Nodup) (hi:X.N[i]?=some n) (hn:X.env.scope.names.lookup n=some .local) (hg:Gl X x) (hm:X.mg x=some (.ref B)) (h1:∀ a,PSs (X.inx a) (st::suite) (t a)) (h2:PHn X hs r) (hdb:(x==("__debug__":Str))=false:=by decide) :
  PHn X (.ExceptHandler (some (.Name x p)) (some n) (st::suite) pos::hs) (FB X.K B i t r):=by
 intro pins s σ H a C lo D I lw x h
 obtain ⟨b,hb,q⟩:=h
 refine wpAny_handleBy_cons (codeAny_handlers_test (da (X:=X.inx a) (I.inx a) hg hm ?_ hdb)) (by intro z;cases z)
 obtain ⟨oe,ge,hc,_⟩:=x.there
 have lt:PySem.W.Looks (model X.prog X.w) s.heap (typeOf (.ref a)) (.ref C):=hc ▸ (PySem.W.Looks.ld ge).andThen .now
 refine (PySem.W.exm_one (M:=model X.prog X.w) I.kIn lt hb).here ?_
 cases b with
 |true =>
  rw [if_pos rfl] at q
  refine codeAny_handlers_suite_as ?_
  refine vX I lw x λs' I' x'=>?_
  obtain ⟨oe',_,_,ge',hc',hd',de',e2',hlo,h0,_⟩:=x'
  have J:=(I'.add lw hlo h0 (BU (C:=C) ⟨oe',ge',hc',hd',_,de',e2'.2⟩)).inx a
  refine fR (X:=X.inx a) (v:=.ref a) J hN hi (.inl hn) rfl (λs2 J2=>?_) (.inr hn)
  refine wpAny_mono (h1 a pins s2 _ _ (lh i D) J2 (q a h0)) (λf s3 z=>?_) λ_ _ z=>z.elim
  have z:=SP.outx I.ok z
  cases f with
  |next=>obtain ⟨σ',H',I3,q3⟩:=z;exact iR I3 hN hi hn λs4 I4=>⟨_,_,I4,q3⟩
  |brk=>obtain ⟨σ',H',I3,q3⟩:=z;exact iR I3 hN hi hn λs4 I4=>⟨_,_,I4,q3⟩
  |cont=>obtain ⟨σ',H',I3,q3⟩:=z;exact iR I3 hN hi hn λs4 I4=>⟨_,_,I4,q3⟩
  |ret u=>obtain ⟨v,σ',H',I3,rv,q3⟩:=z;exact iR I3 hN hi hn λs4 I4=>⟨v,_,_,I4,rv,q3⟩
 |false =>
  rw [if_neg (by decide)] at q
  exact h2 pins s σ H a C lo D I lw x q
def EB (tn:TS) (tr:TR) (th:TH):TS:=λD σ H=>tn D σ H\/tr σ H λC dct σ' H'=>dct=none/\th C D σ' H'
theorem zt {body:List Stmt}{hd:ExceptHandler}{hs:List ExceptHandler}{tn:TS}{tr:TR}{th:TH}{pos:Pos}(st:X.stack=X.env::X.outer/\X.env.frame=some X.env.locals) (hn:PSs X.nox body tn) (hr:PRs X body tr) (hh:PHn X (hd::hs) th) :
  PS X (.Try body (hd::hs) [] [] pos) (EB tn tr th):=by
 intro pins s σ H D I h
 rcases h with h|h
 ·refine wpAny_Try_except (wpAny_mono (hn pins s σ H D (I.wish _) h) (λf s1 q=>?_) λ_ _ z=>z.elim)
  cases f with
  |next=>exact wpAny_execs_nil q.unwish
  |brk=>exact q.unwish
  |cont=>exact q.unwish
  |ret u=>exact q.unwish
 ·refine wpAny_Try_except (wpAny_mono (hr pins s σ H _ I h) (λf s1 q=>q.elim) λe s1 ⟨a,C,dct,σ',H',lo,ee,J,lw,x,hdn,q⟩=>?_)
  subst ee hdn
  have hlo:lo<=s1.heap.objs.size:=Nat.le_of_lt (Nat.lt_of_le_of_lt (by obtain ⟨_,_,_,_,_,_,_,_,l,_⟩:=x;exact l) (by obtain ⟨oe,_,_,ge,_⟩:=x;exact Heap.lt_size ge))
  exact pW J st lw hlo x λs2 J2 _ _ x2=>hh pins s2 σ' H' a C lo D J2 lw x2 q
end
end L2
namespace T2
open PySem PySem.Spec PyProof.Rows L2
section
variable {K:Fg}{X:Cx}{pos p:Pos}{x:Str}{B:Addr}
theorem Cov.none {H:Hp}{S:Sto}{σ:L2.St}{σt:StT}(c:Cov K H S σ σt) (i:Nat):Cov K H S (σ.set i none) (σt.set i none):=by
 refine ⟨by rw [List.length_set,List.length_set];exact c.1,λj t e=>?_⟩
 rw [List.getElem?_set] at e
 split at e
 ·split at e<;>cases e
 ·rename_i h
  obtain ⟨v,e1,e2⟩:=c.2 j t e
  exact ⟨v,by rw [List.getElem?_set_ne h];exact e1,e2⟩
def asE (i:Nat) (D:EndsT):EndsT:={ D with nx:=λσ S=>D.nx (σ.set i none) S,bk:=λσ S=>D.bk (σ.set i none) S,ct:=λσ S=>D.ct (σ.set i none) S }
theorem EndsOk.as {H:Hp}{S:Sto}{Dt:EndsT}{D:Ends}(e:EndsOk K H S Dt D) (i:Nat):EndsOk K H S (asE i Dt) (lh i D) :=
 ⟨λσ' H' σt' S' f s c q=>e.nx _ H' _ S' f s (c.none i) q,λv H' t S' f s r q=>e.rt v H' t S' f s r q,λσ' H' σt' S' f s c q=>e.bk _ H' _ S' f s (c.none i) q,λσ' H' σt' S' f s c q=>e.ct _ H' _ S' f s (c.none i) q⟩
def QHn (K:Fg) (X:Cx) (hs:List ExceptHandler) (w:WH):Prop:=PHn X hs (lH K w)
theorem PHn.of {hs:List ExceptHandler}{t t':TH}(h:PHn X hs t) (i:∀ C D σ H,t' C D σ H->t C D σ H):PHn X hs t':=λpins s σ H a C lo D I lw x q=>h pins s σ H a C lo D I lw x (i C D σ H q)
theorem BV {hs:List ExceptHandler}{w:WH}(h:QH K X hs w):QHn K X hs w:=PH.n h
def tY (K:Fg) (B:Addr) (i:Nat) (w:Addr->WS) (r:WH):WH:=λC D σ S=>∃ b,PySem.W.exmOne K (.ref C) (.ref B)=some b/\if b=true then ∀ a,S a=none->w a (asE i D) (σ.set i (some (.ref a))) (put S a (.exk C)) else r C D σ S
theorem EC {n:Str}{i:Nat}{st:Stmt}{suite:List Stmt}{hs:List ExceptHandler}{w:Addr->WS}{r:WH}(hK:X.K=K) (hN:X.N.Nodup) (hi:X.N[i]?=some n) (hn:X.env.scope.names.lookup n=some .local) (hg:Gl X x) (hm:X.mg x=some (.ref B)) (h1:∀ a,QSs K (X.inx a) (st::suite) (w a)) (h2:QHn K X hs r) (hdb:(x==("__debug__":Str))=false:=by decide) :
  QHn K X (.ExceptHandler (some (.Name x p)) (some n) (st::suite) pos::hs) (tY K B i w r):=by
 subst hK
 refine PHn.of (EA hN hi hn hg hm h1 h2 hdb) λC D σ H zz109=>?_
 obtain ⟨S,σt,Dt,s,c,⟨b,hb,q⟩,he⟩:=zz109
 refine ⟨b,hb,?_⟩
 cases b with
 |true =>
  intro a h0
  have q:=q a (s.fresh h0)
  have f:=Fr.newT (S:=S) (u:=exH C a) (o:=.exk C) h0
  exact ⟨_,_,_,s.newT h0 (.exk aA),(c.fr f).set .ref i,q,(he.fr f).as i⟩
 |false=>exact ⟨S,σt,Dt,s,c,q,he⟩
theorem BW {body:List Stmt}{hd:ExceptHandler}{hs:List ExceptHandler}{wn:WS}{wr:WR}{wh:WH}(st:X.stack=X.env::X.outer/\X.env.frame=some X.env.locals) (hn:QSs K X.nox body wn) (hr:QRs K X body wr) (hh:QHn K X (hd::hs) wh) :
  QS K X (.Try body (hd::hs) [] [] pos) (jC wn wr wh):=PS.of (zt st hn hr hh) λD σ H zz110=>by
 obtain ⟨S,σt,Dt,s,c,q,he⟩:=zz110
 rcases q with q|q
 ·exact .inl ⟨S,σt,Dt,s,c,q,he⟩
 ·exact .inr ⟨S,σt,_,s,c,q,λC σ' H' σt' S' f s' c' q'=>⟨rfl,S',σt',Dt,s',c',q',he.fr f⟩⟩
theorem li {σ:StT}{S:Sto}{D:EndsT}{C:Addr}{i:Nat}{w:Addr->WS}{r:WH}(e:PySem.W.exmOne K (.ref C) (.ref B)=some true) (h:∀ a,S a=none->w a (asE i D) (σ.set i (some (.ref a))) (put S a (.exk C))):tY K B i w r C D σ S:=⟨true,e,h⟩
end
end T2
set_option maxRecDepth 100000
namespace PySem.W
open PySem PySem.Spec PySem.Calls PyProof.Rows
section
variable {prog:Program}{w:World}{A:Around}{E:Value->Shared->Prop}{s:Shared}{K:Frag}{x C:Addr}{ox:Obj}{od:Option Obj}{name:Str}{expr fill:Bool}
structure XGet (K:Frag) (C:Addr):Prop where
 ga:findIn K (.ref C) "__getattribute__"=some (some (.builtin "BaseException.__getattribute__"))
 gk:findIn K (.ref C) "__getattr__"=some none
 sub:mroIn K C (.type "BaseException")=some true
theorem zv {tk:Tok}{Q:Value->Shared->Prop}(G:XGet K C) (X:K.In s.heap) (I:InstAt s.heap x ox C od)
  (h:wpAny (model prog w) A.in1 (Builtin.«object.__getattribute__» ⟨[.ref x,.str name tk],[]⟩) (λfin s'=>match fin with|.done (.ret v)=>wpAny (model prog w) A (handedOut v) Q E s'|_=>False) (λ_ _=>False) s) :
  wpAny (model prog w) A (getAttrBy (.ref x) (.str name tk) fill expr) Q E s:=by
 have hb:Looks (model prog w) s.heap (hookBefore (.ref C)) none:=by
  unfold hookBefore;rw [if_pos (show onTheHeap (.ref C)=true from rfl)];exact looks_findIn X G.gk
 have sub:Looks (model prog w) s.heap (isInstance (.ref x) (.type "BaseException")) true:=I.type.andThen (looks_mroIn X G.sub)
 unfold getAttrBy
 refine wpAny_holding (wpAny_bind (I.type.here (wpAny_bind ((looks_findIn X G.ga).here ?_))))
 dsimp only
 rw [show (onTheHeap (.ref C)&&Value.builtin "BaseException.__getattribute__" == Value.builtin "object.__getattribute__")=false from by rw [show (Value.builtin "BaseException.__getattribute__" == Value.builtin "object.__getattribute__")=false from by decide +kernel,Bool.and_false],if_neg (by decide)]
 unfold getAttrByItsOwn
 refine wpAny_bind (hb.here (wpAny_bind (wpAny_attempt (wpAny_holding ?_))))
 unfold callGetattribute
 rw [show (expr&&onTheHeap (Value.builtin "BaseException.__getattribute__"))=false from Bool.and_false _,if_neg (by decide)]
 unfold boundAndCalled
 rw [PySem.F.attr_ValueError.ga.bind]
 refine wpAny_bind (wpAny_pure ?_)
 show wpAny _ _ (call (.builtin "BaseException.__getattribute__") [.ref x,.str name tk]) _ _ _
 refine wpAny_call ?_
 refine codeAny_call_builtin PySem.F.attr_ValueError.ga.plain PySem.F.entry_bexc_ga ?_
 refine @check_slot (model prog w) _ _ s "BaseException.__getattribute__" "BaseException" "__getattribute__" (.ref x) [.str name tk] [] _ (by decide +kernel) (by decide +kernel) sub (PySem.F.args_bexc_ga (.ref x) (.str name tk)) ?_
 refine wpAny_mono h (λfin s' z=>?_) λ_ _ z=>z.elim
 rcases fin with (_|_|_|_)|_<;>first|exact z|exact z.elim
theorem xget_class {Q:Option Value->Shared->Prop}(G:XGet K C) (X:K.In s.heap) (I:InstAt s.heap x ox C od) (hf:findObj K C od "__class__"=some (.bind (.builtin "getset_descriptor.__get__") (.builtin "object.__class__")))
  (hm:mroIn K C (.type "object")=some true) (h:Q (some (.ref C)) { s with toks:=s.toks+1 }) :
  wpAny (model prog w) A (getAttr? (.ref x) "__class__") Q E s:=by
 unfold getAttr? getAttrBy?
 refine wpAny_bind (wpAny_mkText (wpAny_bind (wpAny_attempt (zv (s:={ s with toks:=s.toks+1 }) G X I ?_))))
 obtain ⟨hh',g,d,t,os⟩:=s
 have L0:=I.type (M:=model prog w)
 have L1:=looks_find (M:=model prog w) X I hf
 refine wpAny_bind (wpAny_pure (wpAny_bind (wpAny_pure (wpAny_bind (L0.at (wpAny_bind (L1.at ?_)))))))
 show wpAny _ _ (holding [_] (call (.builtin "getset_descriptor.__get__") [.builtin "object.__class__",.ref x,.ref C]) >>= ret) _ _ _
 refine wpAny_bind (wpAny_holding (wpAny_call (class_get (ox:=ox) (od:=od) X I hm (wpAny_pure ?_))))
 show wpAny _ _ (handedOut (.ref C)) _ _ _
 rw [handedOut_of rfl]
 exact wpAny_pure (wpAny_pure h)
theorem findObj_class (hc:(clsIn K C).isSome=true) (ha:findIn K (.ref C) "__class__"=some (some (.builtin "object.__class__"))) (hn:specialIn K (.builtin "object.__class__") "__get__"=some (some (.builtin "getset_descriptor.__get__"))) (htk:takesIn K (.builtin "object.__class__")=some true) :
  findObj K C od "__class__"=some (.bind (.builtin "getset_descriptor.__get__") (.builtin "object.__class__")):=by
 obtain ⟨cd,hc⟩:=Option.isSome_iff_exists.mp hc
 unfold findObj
 rw [hc,Option.bind_some,ha,Option.bind_some]
 simp [hn,htk]
end
end PySem.W
namespace T2
open PySem PySem.Spec PyProof.Rows L2
structure XC (K:Fg) (C:Addr):Prop where
 kp:PySem.W.keepIn K (.ref C)=true
 get:PySem.W.XGet K C
 cl:(PySem.W.clsIn K C).isSome=true
 ca:PySem.W.findIn K (.ref C) "__class__"=some (some (.builtin "object.__class__"))
 cn:PySem.W.specialIn K (.builtin "object.__class__") "__get__"=some (some (.builtin "getset_descriptor.__get__"))
 ct:PySem.W.takesIn K (.builtin "object.__class__")=some true
 ob:PySem.W.mroIn K C (.type "object")=some true
theorem XC.of {K:Fg}{C:Addr}(h:dk K C=true):XC K C:=by
 simp only [dk,Bool.and_eq_true,beq_iff_eq] at h
 obtain ⟨⟨⟨⟨⟨⟨⟨⟨a,b⟩,c⟩,d⟩,e⟩,f⟩,g⟩,i⟩,j⟩:=h
 exact ⟨a,⟨b,c,d⟩,e,f,g,i,j⟩
section
variable {K:Fg}{X:Cx}{x:Str}{p:Pos}
theorem xD {x D:Addr}{ox:Obj}{od:Option Obj}(c:XC K D):PySem.W.KitX K (.ref x) (.ref D) (λh=>PySem.W.InstAt h x ox D od) where
 ty:=λ_ _ _ I=>I.type
 it:=λ_ _ X _=>by
  obtain ⟨cdD,hcD⟩:=Option.isSome_iff_exists.mp c.cl
  unfold PySem.W.clsIn at hcD
  split at hcD
  ·rename_i c' d' cd' sl' ho
   intro A' Q' E' s' k q
   unfold isType loadHead
   exact wpAny_bind (wpAny_loadPart (k _ _ (X _ _ ho)) (wpAny_pure q))
  ·cases hcD
 ne:=λh tp dd its n sl X htp=>by
  obtain ⟨cdD,hcD⟩:=Option.isSome_iff_exists.mp c.cl
  refine Bool.eq_false_iff.mpr λq=>?_
  have e:D=tp:=Value.ref.inj (beq_iff_eq.mp q)
  subst e
  unfold PySem.W.clsIn at hcD
  split at hcD
  ·rename_i c' d' cd' sl' ho
   have z:=(X _ _ ho).symm.trans htp
   cases z
  ·cases hcD
 ca:=λX I k=>PySem.W.xget_class c.get X I (PySem.W.findObj_class c.cl c.ca c.cn c.ct) c.ob k
def tZ:T->Option Value
 |.ty n=>some (.type n)
 |.ref C=>some (.ref C)
 |_=>none
def t4 (K:Fg) (G:Addr->Prop):GC:=λts S Q=>∃ a C y c b,ts=[.ref a,y]/\S a=some (.exk C)/\G C/\tZ y=some c/\PySem.W.kitOne K (.ref C) c=some b/\Q (.bl b) S
theorem cW {G:Addr->Prop}(hK:X.K=K) (hG:∀ C,G C->XC K C):bu X (.builtin "isinstance") (lC K (t4 K G)):=by
 subst hK
 rintro pins s σ H xs us Q I r ⟨S,ts,Qt,sr,rs,hg,bh⟩
 obtain ⟨a,C,y,cv,b,rfl,ea,g,ey,ek,q⟩:=hg
 cases rs with
 |cons r1 l =>
  cases l with
  |cons r2 l2 =>
   cases l2
   cases r1
   obtain ⟨u1,u2,rfl,rr1,rr2⟩:=rM r
   obtain rfl:u1=Value.ref a:=rr1
   have eu:u2=cv:=by
    cases r2<;>first|cases ey|skip
    ·exact rr2
    ·exact rr2
   subst eu
   have fin:∀ tk,EP X pins σ Q (.bool b) { s with toks:=tk }:=λtk=>⟨.bl b,H,I.tok tk,rfl,bh _ H _ S .refl sr .bl q⟩
   cases sr a _ ea with
   |exk eh =>
    obtain ⟨oe,g0,hc,hd,vs,dv,_⟩:=(show aM X.prog X.w H s.heap a (exH C a) from I.hok a _ eh).1
    exact PySem.W.kia_one (xD (od:=none) (ox:=oe) (hG C g)) I.kIn ⟨g0,hc,by unfold PySem.W.notCls;rw [dv],by rw [hd];trivial⟩ ek (λz=>nomatch z) fin
theorem aQ {G:Addr->Prop}{S:Sto}{Q:T->Sto->Prop}{a C:Addr}{y:T}{c:Value}{b:Bool}(h1:S a=some (.exk C)) (h2:G C) (h3:tZ y=some c) (h4:PySem.W.kitOne K (.ref C) c=some b) (h:Q (.bl b) S):t4 K G [.ref a,y] S Q:=⟨a,C,y,c,b,rfl,h1,h2,h3,h4,h⟩
theorem BX {C:Addr}(hg:Gl X x) (hm:X.mg x=some (.ref C)) (hdb:(x==("__debug__":Str))=false:=by decide):PE X (.Name x p) (λ_ H Q=>Q (.ref C) H):=by
 intro pins s σ H Q I h
 exact da I hg hm ⟨.ref C,H,I,rfl,h⟩ hdb
def t5 (C:Addr):WE:=λ_ S Q=>Q (.ref C) S
theorem dj {C:Addr}(hg:Gl X x) (hm:X.mg x=some (.ref C)) (hdb:(x==("__debug__":Str))=false:=by decide):QE K X (.Name x p) (t5 C) :=
 PE.of (BX hg hm hdb) λσ H Q zz111=>by obtain ⟨S,σt,Qt,s,c,q,hq⟩:=zz111;exact hq _ H _ S .refl s .ref q
theorem ED {C:Addr}{σ:StT}{S:Sto}{Q:T->Sto->Prop}(h:Q (.ref C) S):t5 C σ S Q:=h
end
end T2
namespace L2
open PySem PySem.Spec PyProof.Rows
section
variable {X:Cx}{pos p2 p3 p4:Pos}{value value2:Expr}{tv tv2:TE}{s2:Str}{k3:Nat}
variable {elt iter target:Expr}{ifs:List Expr}{scope:Scope}{r:TR}
end
end L2
namespace T2
open PySem PySem.Spec PyProof.Rows L2
section
variable {K:Fg}{X:Cx}{pos p2 p3 p4:Pos}{value value2:Expr}{wv wv2:WE}{s2:Str}{k3:Nat}{r:WR}
variable {elt iter target:Expr}{ifs:List Expr}{scope:Scope}
end
end T2
namespace T2
open PySem L2
end T2
namespace L2
open PySem PySem.Spec PyProof.Rows
section
variable {X:Cx}
end
end L2
namespace T2
open PySem PySem.Spec PyProof.Rows L2
section
variable {K:Fg}{X:Cx}
end
end T2
namespace L2
open PySem PySem.Spec PyProof.Rows
end L2
namespace T2
open PySem PySem.Spec PyProof.Rows L2
section
variable {K:Fg}{X:Cx}
end
end T2
namespace L2
open PySem PySem.Spec PyProof.Rows
theorem BY {X:Cx}{tg e:Expr}{r:TR}{pos:Pos}(h:PRE X e r) (hs:swapsWithSole [tg] e pos.line X.env=pure false:=by rfl) (hw:swappedStores [tg] e X.env=pure none:=by rfl):PR X (.Assign [tg] e pos) r :=
 λpins s σ H R I q=>wpAny_Assign_stores (wpAny_mono (h pins s σ H R I q) (λ_ _ z=>z.elim) λ_ _ z=>z) hs hw
end L2
namespace T2
open PySem PySem.Spec PyProof.Rows L2
theorem BZ {K:Fg}{X:Cx}{tg e:Expr}{r:WR}{pos:Pos}(h:QRE K X e r) (hs:swapsWithSole [tg] e pos.line X.env=pure false:=by rfl) (hw:swappedStores [tg] e X.env=pure none:=by rfl):QR K X (.Assign [tg] e pos) r:=BY h hs hw
section
variable {K:Fg}{X:Cx}
end
section
variable {K:Fg}{X:Cx}{k:Nat}{f C:Addr}{fd:FuncData}{ps:List Str}{wsp:WSp}{wsr:cu}{x m fl:Str}{p pos apos cpos pos':Pos}{e o value:Expr}{es:List Expr}{wa wv:WE}{wr:WA}{G:Addr->Prop}{i:Int}{tk:Tok}
theorem pY {pl:Sem Bool}(hG:∀ C,G C->Cls X.K C/\Meth X.K C m f) (F:FnOk X.prog X.w X.K X.mg X.base CX0 k f fd ps (lSp K wsp)) (hb:aq X.K fd ps [.int i tk]) (hr:Room k X.A) (ho:QE K X o wa) (ha:QA K X (e::es) wr)
  (hst:starEach (e::es) X.env=(false,eval e X.env)::starEach es X.env:=by rfl) (hpl:(backTo pos (starEach es X.env)).any (·.1)=false:=by rfl)
  (ht:eval (.Call (.Attribute o m apos) (e::es) [] pos) X.env=(do
   let ov <- eval o X.env
   standAt apos.atName
   let (f,first) <- holding [ov] (getMethod ov m pl)
   callWith pos f first (backTo pos (starEach (e::es) X.env)) (backToKw pos (keywordEach [] X.env))):=by rfl) :
  QE K X (.Call (.Attribute o m apos) (e::es) [] pos) (dg G m wsp [.int i] wa wr):=qr (dvs:=[.int i]) (λ_ _=>.cons .int .nil) (oK (pl:=pl) ho hG F hr hb (.cons ⟨tk,rfl⟩ .nil) fq ha hst hpl ht)
def pZ (G:Addr->Prop) (m:Str) (i:Int) (wsp:cu) (wa:WE) (wr:WA):WR:=λσ S R=>wa σ S λx S1=>∃ a C fs,x=.ref a/\S1 a=some (.ins C fs)/\G C/\fs.lookup m=none/\wr σ S1 λts S2=>wsp (x::(ts++[.int i])) S2 λC S'=>R C σ S'
theorem xE {pl:Sem Bool}(hG:∀ C,G C->Cls X.K C/\Meth X.K C m f) (F:FnOk X.prog X.w X.K X.mg X.base (CX1 X.prog X.w) k f fd ps (bD K wsr)) (hb:aq X.K fd ps [.int i tk]) (hr:Room k X.A) (ho:QE K X.nox o wa) (ha:QA K X.nox (e::es) wr)
  (hst:starEach (e::es) X.env=(false,eval e X.env)::starEach es X.env:=by rfl) (hpl:(backTo pos (starEach es X.env)).any (·.1)=false:=by rfl)
  (ht:eval (.Call (.Attribute o m apos) (e::es) [] pos) X.env=(do
   let ov <- eval o X.env
   standAt apos.atName
   let (f,first) <- holding [ov] (getMethod ov m pl)
   callWith pos f first (backTo pos (starEach (e::es) X.env)) (backToKw pos (keywordEach [] X.env))):=by rfl) :
  QRE K X (.Call (.Attribute o m apos) (e::es) [] pos) (pZ G m i wsr wa wr):=PRE.of (oY (pl:=pl) (dvs:=[.int i]) ho hG F hr hb (.cons ⟨tk,rfl⟩ .nil) ha hst hpl ht) λσ H R h=>by
 obtain ⟨S,σt,Rt,s,c,q,hq⟩:=h
 refine ⟨S,σt,_,s,c,q,λx H1 tx S1 f1 s1 r1 q1=>?_⟩
 obtain ⟨a,C,fs,rfl,ea,g,l,q1⟩:=q1
 cases r1
 cases s1 a _ ea with
 |ins eh pr =>
  refine ⟨a,C,_,_,rfl,eh,g,b6 pr l,S1,σt,_,s1,c.fr f1,q1,λvs H2 ts S2 f2 s2 r2 q2=>?_⟩
  exact ⟨S2,_,_,s2,.cons .ref (r2.append (.cons .int .nil)),q2,λC H' S' f s' q'=>⟨C,rfl,hq C σ H' σt S' ((f1.trans f2).trans f) s' (c.fr ((f1.trans f2).trans f)) q'⟩⟩
theorem zw {σ:StT}{S:Sto}{R:WX}(h:wa σ S λx S1=>∃ a C fs,x=.ref a/\S1 a=some (.ins C fs)/\G C/\fs.lookup m=none/\wr σ S1 λts S2=>wsr (x::(ts++[.int i])) S2 λC S'=>R C σ S'):pZ G m i wsr wa wr σ S R:=h
end
end T2
namespace L2
open PySem PySem.Spec PyProof.Rows
section
variable {X:Cx}{pos p2 p3:Pos}{value:Expr}{tv:TE}{s2:Str}{k3:Nat}
structure Tng (d:PyData):Prop where
 sh:PyData.showable d=true
 nd:PyData.hasDict d=false
 dp:PyData.depth d<=60
 sz:(PyData.shown d).length<=10002
theorem zx {pins:List (Addr×Obj)}{σ:St}{H:Hp}{s:Shared}{v:V}{u:Value}{A:Around}{E:Value->Shared->Prop}{d:PyData}{Q:Value->Shared->Prop}(hg:A.guards=some []) (hu:A.units+64<cLine) (I:Inv X pins σ H s) (hd:DatV X.K H v d) (ru:ak v u) (t:Tng d)
  (h:∀ y t s',Str.length y<=10002->Inv X pins σ H s'->Q (.str y t) s'):wpAny (model X.prog X.w) A (pyReprObj u) Q E s:=by
 obtain ⟨as,ra⟩:=dB I hd ru
 have hsz:=t.sz
 have hdp:=t.dp
 have hz:(PyData.shown d).length<=sizeLine:=by rw [sizeLine_eq];omega
 cases hd with
 |non=>obtain rfl:=(show u=Value.none from ru);exact pyReprObj_none (h _ _ _ (by decide) (I.tok _))
 |bl b=>obtain rfl:=(show u=Value.bool b from ru);exact pyReprObj_bool (h _ _ _ (by cases b<;>decide) (I.tok _))
 |int i =>
  obtain ⟨t',rfl⟩:=(show ∃ t,u=Value.int i t from ru)
  exact pyReprObj_int (by have:=t.sh;simpa [PyData.showable] using this) (h _ _ _ hsz (I.tok _))
 |str z =>
  obtain ⟨t',rfl⟩:=(show ∃ t,u=Value.str z t from ru)
  exact pyReprObj_str (h _ _ _ hsz (I.tok _)) hz
 |lst hq hss =>
  obtain rfl:=(show u=Value.ref _ from ru)
  exact pyReprObj_of_reads ra t.sh (PyData.noDict_hsm t.nd) hg (by omega) (λ_ _ e=>e) (λh' u tk hk=>h _ _ _ hsz (I.kept (t':=tk) hk)) hz
 |tup hq hss =>
  obtain rfl:=(show u=Value.ref _ from ru)
  exact pyReprObj_of_reads ra t.sh (PyData.noDict_hsm t.nd) hg (by omega) (λ_ _ e=>e) (λh' u tk hk=>h _ _ _ hsz (I.kept (t':=tk) hk)) hz
def FC (K:PySem.W.Frag) (tv:TE):TE:=λσ H Q=>tv σ H λx H1=>(∃ d,DatV K H1 x d/\Tng d)/\∀ y,Q (.str y) H1
theorem B6 (hg:X.A.guards=some []) (hu:X.A.units+64<cLine) (hv:PE X value tv) (h2:s2.length<=1000):PE X (.JoinedStr [.FormattedValue value 114 none p2,.Constant (.str s2) k3 p3] pos) (FC X.K tv):=by
 intro pins s σ H Q I h
 refine JoinedStr_many (joinParts_cons ?_)
 show wpAny (model X.prog X.w) X.A (do let v <- eval value X.env;standAt p2;formatted p2 (<- holding [v] (converted 114 v)) none) _ _ s
 refine wpAny_bind (thn (hv pins s σ H _ I h) λu sa zz112=>?_)
 obtain ⟨x,H1,I1,rx,⟨d,hd,ht⟩,q⟩:=zz112
 refine wpAny_bind (wpAny_standAt (wpAny_bind (wpAny_holding ?_)))
 show wpAny _ _ (pyReprObj u) _ _ _
 refine zx hg hu I1 hd rx ht λz t1 sb hz I2=>formatField_str (λt' tk=>?_) (by rw [sizeLine_eq];omega)
 have l0:(Str.empty++z).length<=10002:=by rw [PySem.Str.length_append];exact (by simpa [Str.empty,PySem.Str.length] using hz)
 refine ⟨by rw [sizeLine_eq];omega,?_⟩
 refine joinParts_cons (thn (qa pins _ σ H1 (λv H2=>v=.str s2/\H2=H1) (I2.tok _) ⟨rfl,rfl⟩) λu3 sc zz113=>?_)
 obtain ⟨v,H3,I3,ru3,ev,eH⟩:=zz113
 subst ev eH
 obtain ⟨t3,rfl⟩:=(show ∃ t,u3=Value.str s2 t from ru3)
 have lz:(Str.empty++z++s2).length<=sizeLine:=by rw [PySem.Str.length_append,sizeLine_eq];omega
 exact ⟨lz,joinParts_nil (show EP X pins σ Q _ _ from ⟨.str (Str.empty++z++s2),_,I3.tok _,⟨_,rfl⟩,q _⟩) lz⟩
end
end L2
namespace T2
open PySem PySem.Spec PyProof.Rows L2
section
variable {K:Fg}{X:Cx}{pos p2 p3:Pos}{value:Expr}{wv:WE}{s2:Str}{k3:Nat}
def t6 (wv:WE):WE:=λσ S Q=>wv σ S λx S1=>(∃ d,bC S1 x=some d/\Tng d)/\∀ y,Q (.str y) S1
theorem l7 (hK:X.K=K) (hg:X.A.guards=some []) (hu:X.A.units+64<cLine) (hv:QE K X value wv) (h2:s2.length<=1000:=by decide):QE K X (.JoinedStr [.FormattedValue value 114 none p2,.Constant (.str s2) k3 p3] pos) (t6 wv):=by
 subst hK
 exact PE.of (B6 hg hu hv h2) λσ H Q zz114=>by
  obtain ⟨S,σt,Qt,s,c,q,hq⟩:=zz114
  refine ⟨S,σt,_,s,c,q,λx H1 tx S1 f1 s1 r1 q1=>?_⟩
  obtain ⟨⟨d,hd,ht⟩,q1⟩:=q1
  exact ⟨⟨d,fX s1 r1 hd,ht⟩,λy=>hq _ H1 _ S1 f1 s1 .str (q1 y)⟩
theorem EE {σ:StT}{S:Sto}{Q:T->Sto->Prop}(h:wv σ S λx S1=>(∃ d,bC S1 x=some d/\Tng d)/\∀ y,Q (.str y) S1):t6 wv σ S Q:=h
end
section
variable {K:Fg}{X:Cx}
structure IsO (K:Fg) (C:Addr):Prop where
 pg:PySem.W.plainGet K C "__class__"=true
 hd:PySem.W.hasDictIn K C=true
 fi:PySem.W.findIn K (.ref C) "__class__"=some (some (.builtin "object.__class__"))
 sp:PySem.W.specialIn K (.builtin "object.__class__") "__get__"=some (some (.builtin "getset_descriptor.__get__"))
 tk:PySem.W.takesIn K (.builtin "object.__class__")=some true
 mr:PySem.W.mroIn K C (.type "object")=some true
end
end T2
namespace L2
open PySem PySem.Spec PyProof.Rows
section
variable {X:Cx}
def B7 (K:PySem.W.Frag):V->List V->Hp->VK->Prop:=λx vs H Q=>∃ l xs y j,x=.ref l/\vs=[y]/\SqL K H l xs/\bA y=true/\xs.all bA=true/\(∃ z,xs[j]?=some z/\eqV z y=true)/\(∀ i z,i<j->xs[i]?=some z->eqV z y=false)/\Q (.int (j:Nat)) H
theorem xF:MtR X "list.index" (B7 X.K):=by
 intro pins s σ H x vs v us Q I rx rv h
 obtain ⟨l,xs,y,j,rfl,rfl,hq,fy,fs,⟨z,ez,qz⟩,no,q⟩:=h
 cases rx
 obtain ⟨u,rfl,ru⟩:=bi rv
 obtain ⟨its,r,hl,hz⟩:=I.list hq
 obtain ⟨⟨cls,dd,data,sl⟩,n,ho,hc,hs,hd⟩:=hl
 simp only at hc hd
 subst hc hd
 have len:=r.length
 have jl:j<xs.length:=by
  rcases Nat.lt_or_ge j xs.length with g|g
  ·exact g
  ·rw [List.getElem?_eq_none g] at ez;cases ez
 have at_:∀ i z,xs[i]?=some z->∀ (hi:i<its.length),eqU y its[i]=eqV z y:=λi z e hi=>by
  obtain ⟨w,ew,rw'⟩:=r.get e
  rw [List.getElem?_eq_getElem hi] at ew
  cases ew
  have fz:bA z=true:=List.all_eq_true.mp fs z (List.mem_of_getElem? e)
  exact iT rw' fz
 have sl1:xs.length<2 ^ 63 - 1:=by
  have:=hz
  rw [PySem.sizeLine_eq] at this
  omega
 refine call_meets PySem.F.slot_list_index ⟨_,ho,rfl⟩ PySem.F.entry_list_index (PySem.F.args_list_index_2 _ _)
  (SeqAt.list_indexAt l its.toArray n dd sl u (eqU y) j (by rw [List.size_toArray,<- len];exact jl) (by omega) ?_ ?_) ⟨ho,λw hw=>dA ru fy r fs w (by simpa using hw),⟨.int (j:Nat),H,I.tok _,⟨_,rfl⟩,q⟩⟩
 ·rw [List.getElem_toArray,at_ j z ez]
  exact qz
 ·intro i hi ij
  rw [List.size_toArray] at hi
  rw [List.getElem_toArray,at_ i xs[i] (List.getElem?_eq_getElem (by omega))]
  exact no i _ ij (List.getElem?_eq_getElem (by omega))
def B8 (K:PySem.W.Frag):V->List V->Hp->VK->Prop:=λx vs H Q=>∃ l xs y,x=.ref l/\vs=[y]/\SqL K H l xs/\bA y=true/\xs.all bA=true/\Q (.int (xs.countP λz=>eqV z y:Nat)) H
theorem p0 {y:V}:∀ {xs:List V}{us:List Value},ai xs us->xs.all bA=true->us.countP (eqU y)=xs.countP λz=>eqV z y
 |_,_,.nil,_=>rfl
 |x::xs,u::us,.cons r t,f=>by
  rw [List.all_cons,Bool.and_eq_true] at f
  rw [List.countP_cons,List.countP_cons,iT r f.1,p0 t f.2]
theorem xG:MtR X "list.count" (B8 X.K):=by
 intro pins s σ H x vs v us Q I rx rv h
 obtain ⟨l,xs,y,rfl,rfl,hq,fy,fs,q⟩:=h
 cases rx
 obtain ⟨u,rfl,ru⟩:=bi rv
 obtain ⟨its,r,hl,hz⟩:=I.list hq
 obtain ⟨⟨cls,dd,data,sl⟩,n,ho,hc,hs,hd⟩:=hl
 simp only at hc hd
 subst hc hd
 refine call_meets PySem.F.slot_list_count ⟨_,ho,rfl⟩ PySem.F.entry_list_count (PySem.F.args_list_count_2 _ _)
  (SeqAt.list_countAt l its.toArray n dd sl u (eqU y)) ⟨ho,λw hw=>dA ru fy r fs w (by simpa using hw),⟨.int (xs.countP λz=>eqV z y:Nat),H,I.tok _,⟨_,by rw [<- p0 r fs (y:=y)]⟩,q⟩⟩
end
end L2
namespace T2
open PySem PySem.Spec PyProof.Rows L2
section
variable {K:Fg}{X:Cx}
theorem qV {H:Hp}{S:Sto}{bs:List Bool}{ys:List V}(r:Rps K H S (bs.map T.bl) ys):ys=bs.map V.bl:=by
 induction bs generalizing ys with
 |nil=>cases r;rfl
 |cons b bs ih=>cases r with|cons h t=>rw [ih t,h.ibl];rfl
theorem l8 (a b:Bool):eqV (.bl a) (.bl b)=decide (a=b):=by cases a<;>cases b<;>rfl
def zy:GM:=λx ts S Q=>∃ bs b,ts=[.bl b]/\aD S x=some (List.map T.bl bs)/\Q (.int (bs.count b:Nat)) S
theorem xH (hK:X.K=K):MtR X "list.count" (lM K zy):=by
 subst hK
 rintro pins s σ H x vs v us Q I rx rv ⟨S,t,ts,Qt,sr,hx,rs,⟨bs,b,e1,ev,q⟩,bh⟩
 subst e1
 cases rs with
 |cons ra rn =>
  cases rn
  cases ra
  obtain ⟨p,ys,rfl,hq,ry⟩:=bz sr hx ev
  obtain rfl:=qV ry
  refine xG pins s σ H _ _ v us Q I rx rv ⟨p,_,_,rfl,rfl,hq,rfl,?_,?_⟩
  ·rw [List.all_map];exact List.all_eq_true.mpr λ_ _=>rfl
  ·rw [List.countP_map,show ((λz=>eqV z (V.bl b)) ∘ V.bl)=(·==b) by funext a;show eqV (.bl a) (.bl b)=_;rw [l8];cases a<;>cases b<;>rfl]
   exact bh _ H _ S .refl sr .int q
def zA:GM:=λx ts S Q=>∃ bs b j,ts=[.bl b]/\aD S x=some (List.map T.bl bs)/\bs[j]?=some b/\(∀ i z,i<j->bs[i]?=some z->z≠b)/\Q (.int (j:Nat)) S
theorem xI (hK:X.K=K):MtR X "list.index" (lM K zA):=by
 subst hK
 rintro pins s σ H x vs v us Q I rx rv ⟨S,t,ts,Qt,sr,hx,rs,⟨bs,b,j,e1,ev,ej,no,q⟩,bh⟩
 subst e1
 cases rs with
 |cons ra rn =>
  cases rn
  cases ra
  obtain ⟨p,ys,rfl,hq,ry⟩:=bz sr hx ev
  obtain rfl:=qV ry
  refine xF pins s σ H _ _ v us Q I rx rv ⟨p,_,_,j,rfl,rfl,hq,rfl,?_,⟨.bl b,by rw [List.getElem?_map,ej];rfl,by rw [l8];exact decide_eq_true rfl⟩,λi z ij ez=>?_,bh _ H _ S .refl sr .int q⟩
  ·rw [List.all_map];exact List.all_eq_true.mpr λ_ _=>rfl
  ·rw [List.getElem?_map,Option.map_eq_some_iff] at ez
   obtain ⟨w,ew,rfl⟩:=ez
   rw [l8];exact decide_eq_false (no i w ij ew)
end
end T2
namespace L2
open PySem PySem.Spec PyProof.Rows
section
variable {X:Cx}
theorem oE:∀ {as:List Str}{us:List Value},ai (as.map V.str) us->∀ u∈us,∃ a t,u=.str a t
 |[],_,.nil,_,h=>by cases h
 |a::as,_,.cons r l,u,h=>by
  rcases List.mem_cons.mp h with rfl|h
  ·obtain ⟨t,rfl⟩:=r;exact ⟨_,_,rfl⟩
  ·exact oE l u h
def zB:V->List V->Hp->VK->Prop:=λx vs H Q=>∃ l as a bs,x=.ref l/\vs=[.str a]/\H l=some (.lst ((as++a::bs:List Str).map V.str))/\a∉as/\Q .non (upd H l (.lst ((as++bs).map V.str)))
def eqT (a:Str):Value->Bool|.str b _=>b.cps.toList==a.cps.toList|_=>false
theorem v1:MtM X "list.remove" zB:=by
 intro pins s σ H x vs v us Q I rx rv h
 obtain ⟨l,as,a,bs,rfl,rfl,hH,no,q⟩:=h
 cases rx
 obtain ⟨u,rfl,ru⟩:=rv.one
 obtain ⟨tk,rfl⟩:=ru
 obtain ⟨z,its,n,r,hl,e⟩:=I.lstM hH
 have st:=oE r
 have len:=r.length
 rw [List.length_map,List.length_append,List.length_cons] at len
 have at_:∀ i (hi:i<its.length) (b:Str),(as++a::bs)[i]?=some b->∃ t,its[i]=.str b t:=λi hi b eb=>by
  obtain ⟨w,ew,rw'⟩:=r.get (i:=i) (x:=.str b) (by rw [List.getElem?_map,eb];rfl)
  rw [List.getElem?_eq_getElem hi] at ew
  cases ew
  exact rw'
 refine call_meets F.slot_list_remove ⟨_,e,rfl⟩ F.entry_list_remove (F.args_list_remove_2 _ _) (PySem.MeetsSeq.list_remove l its.toArray n (.str a tk) (eqT a) (λy hy=>?_) as.length (by rw [List.size_toArray];omega) ?_ ?_ (by rw [List.size_toArray];omega)) ⟨e,?_⟩
 ·obtain ⟨b,t,rfl⟩:=st y (by simpa using hy)
  exact PySem.SeqRoads2.EqGives.str b a t tk
 ·obtain ⟨t,e1⟩:=at_ as.length (by omega) a (by simp)
  rw [List.getElem_toArray,e1]
  exact beq_self_eq_true _
 ·intro m hm hj
  rw [List.size_toArray] at hm
  obtain ⟨t,e1⟩:=at_ m hm as[m] (by rw [List.getElem?_append_left hj,List.getElem?_eq_getElem hj])
  rw [List.getElem_toArray,e1]
  show (as[m].cps.toList==a.cps.toList)=false
  rw [beq_eq_false_iff_ne]
  intro c
  refine no ?_
  have:as[m]=a:=by
   cases h1:as[m];cases a
   rw [h1] at c
   exact congrArg Str.mk (Array.toList_inj.mp c)
  rw [<- this]
  exact List.getElem_mem hj
 ·refine ⟨.non,_,I.lset (its':=its.eraseIdx as.length) hH e (by simp) ?_ ?_,rfl,q⟩
  ·have:=r.eraseIdx as.length
   rw [List.map_append,List.eraseIdx_append_of_length_le (by rw [List.length_map];exact Nat.le_refl _),List.length_map,Nat.sub_self] at this
   rw [List.map_append]
   exact this
  ·have:=List.length_eraseIdx_le its as.length
   simp only [List.length_map,List.length_append,List.length_cons] at z ⊢
   omega
theorem xJ:MtR X "str.upper" (λx vs H Q=>∃ a:Str,x=.str a/\vs=[]/\(Txt.upper a).length<=sizeLine/\Q (.str (Txt.upper a)) H):=by
 intro pins s σ H x vs v us Q I rx rv h
 obtain ⟨a,rfl,rfl,hz,q⟩:=h
 obtain ⟨tk,rfl⟩:=rx
 have hus:=rv.zero
 subst hus
 exact SC.upper (by unfold Builtin.Str.tooLong;exact decide_eq_false (by omega)) ⟨.str (Txt.upper a),H,I.tok _,⟨_,rfl⟩,q⟩
end
end L2
namespace T2
open PySem PySem.Spec PyProof.Rows L2
section
variable {K:Fg}{X:Cx}
def zC:GM:=λx ts S Q=>∃ l as a bs,x=.ref l/\ts=[.str a]/\S l=some (.lst ((as++a::bs:List Str).map T.str))/\a∉as/\Q .non (put S l (.lst ((as++bs).map T.str)))
theorem zD {H:Hp}{S:Sto}{bs:List Str}{ys:List V}(r:Rps K H S (bs.map T.str) ys):ys=bs.map V.str:=by
 induction bs generalizing ys with
 |nil=>cases r;rfl
 |cons b bs ih=>cases r with|cons h t=>rw [ih t,h.istr];rfl
theorem xK:MtR X "list.remove" (lM K zC):=by
 rintro pins s σ H x vs v us Q I rx rv ⟨S,t,ts,Qt,sr,hx,rs,⟨l,as,a,bs,e0,e1,e2,no,q⟩,b⟩
 subst e0 e1
 cases hx
 cases rs with
 |cons ra rn =>
  cases rn
  cases ra
  obtain ⟨ys,hy,ry⟩:=k7 sr e2
  obtain rfl:=zD ry
  exact v1 pins s σ H _ _ v us Q I rx rv ⟨_,as,a,bs,rfl,rfl,hy,no,on sr e2 Rps.strs b .non q⟩
def B9:GM:=λx ts S Q=>∃ a:Str,x=.str a/\ts=[]/\(Txt.upper a).length<=sizeLine/\Q (.str (Txt.upper a)) S
theorem zE:MtR X "str.upper" (lM K B9):=by
 rintro pins s σ H x vs v us Q I rx rv ⟨S,t,ts,Qt,sr,hx,rs,⟨a,e0,e1,hz,q⟩,b⟩
 subst e0 e1
 cases hx
 cases rs
 exact xJ pins s σ H _ _ v us Q I rx rv ⟨_,rfl,rfl,hz,b _ H _ S .refl sr .str q⟩
end
end T2
set_option maxRecDepth 100000
namespace Xh
open PySem PyProof.Rows
def Hnd (A:Around) (h:Heap):Prop:=∃ a o vs,A.handled=some (.ref a)/\h.get? a=some o/\o.data=.fields vs/\vs[2]?=some .none
section
variable {prog:Program}{w:World}{A:Around}{E:Value->Shared->Prop}{s:Shared}{α:Type}{Q:α->Shared->Prop}
end
end Xh
namespace L2
open PySem PySem.Spec PyProof.Rows
section
variable {X:Cx}{a0:Addr}
end
structure TurnH (a0:Addr) (P:Program) (w:World) (K:PySem.W.Frag) (tg:Expr) (J:It) (fp:List Addr) (it:Addr) (tn:Nat->Heap->Prop):Prop where
 mem:it∈fp
 obj:∀ i h,tn i h->∀ b∈fp,∃ o,h.get? b=some o/\∀ v,o.data≠.cell v
 keep:∀ i h h',tn i h->(∀ b∈fp,∀ o,h.get? b=some o->h'.get? b=some o)->tn i h'
 item:∀ (X:Cx),X.prog=P->X.w=w->X.K=K->X.A.handled=some (.ref a0)->∀ (i:Nat) (pins:List (Addr×Obj)) (s:Shared) (σ:St) (H:Hp) (E:Value->Shared->Prop),Inv X pins σ H s->(∀ b∈fp,bH X pins H b)->tn i s.heap->J.go i H ->
  wpAny (model P w) X.A (pyNext (.ref it)) (λr s1=>∃ u,r=some u /\
   wpAny (model P w) X.A (letOwnedTupleGo tg (.ref it) u) (λ_ s2=>∃ x H',Inv X pins σ H' s2/\ak x u/\J.yld i H x H'/\tn (i+1) s2.heap/\∀ b∈fp,H' b=none) E s1) E s
 done:∀ (X:Cx),X.prog=P->X.w=w->X.K=K->X.A.handled=some (.ref a0)->∀ (i:Nat) (pins:List (Addr×Obj)) (s:Shared) (σ:St) (H:Hp) (E:Value->Shared->Prop),Inv X pins σ H s->(∀ b∈fp,bH X pins H b)->tn i s.heap->J.stop i H ->
  wpAny (model P w) X.A (pyNext (.ref it)) (λr s1=>r=none/\Inv X pins σ H s1) E s
 self:∀ (A:Around) (i:Nat) (s:Shared) (Q:Value->Shared->Prop) (E:Value->Shared->Prop),tn i s.heap->Q (.ref it) s->wpAny (model P w) A (pyIter (.ref it)) Q E s
def FD (a0:Addr) (X:Cx) (pins:List (Addr×Obj)) (σ:St) (tg:Expr) (R:It->Hp->Prop) (itv:Value) (s2:Shared):Prop :=
 ∃ (it:Addr) (fp:List Addr) (tn:Nat->Heap->Prop) (J:It) (H':Hp),itv=.ref it/\Inv X pins σ H' s2/\TurnH a0 X.prog X.w X.K tg J fp it tn/\tn 0 s2.heap/\(∀ b∈fp,bH X pins H' b)/\R J H'
def PIH (a0:Addr) (X:Cx) (tg iter:Expr) (wi:TI):Prop :=
 ∀ (pins:List (Addr×Obj)) (s:Shared) (σ:St) (H:Hp) (R:It->Hp->Prop),Inv X pins σ H s->wi σ H R ->
  wpAny (model X.prog X.w) X.A (eval iter X.env) (λv s1=>wpAny (model X.prog X.w) X.A (pyIter v) (FD a0 X pins σ tg R) X.xe s1) X.xe s
section
variable {X:Cx}{tg:Expr}{a0:Addr}
end
section
variable {a0:Addr}{X:Cx}{pins:List (Addr×Obj)}{σ:St}{H:Hp}{s:Shared}{scope:Scope}{Nc:List Str}{fp:List Addr}{C:Addr}
variable {elt iter target:Expr}{ifs:List Expr}{pos:Pos}{n:Nat}{caps:List Nat}{wi:TI}{g:TG}{tt:TT}{te:TE}
end
end L2
namespace T2
open PySem PySem.Spec PyProof.Rows L2
section
variable {K:Fg}{X:Cx}{tg:Expr}{a0:Addr}
end
end T2
namespace L2
open PySem PySem.Spec PyProof.Rows
structure RoomH (k:Nat) (A:Around):Prop where
 dp:A.depth+3 * k+5<recursionLimit
 un:A.units+16 * k+200<cLine
 gd:A.guards=some []
theorem Room.h {k:Nat}{A:Around}(r:Room k A):RoomH k A:=⟨r.dp,r.un,r.gd⟩
theorem RoomH.mark {k:Nat}{A:Around}{h:Option Value}(r:RoomH k A):RoomH k (A.mark h):=⟨r.dp,r.un,r.gd⟩
theorem RoomH.deeper {k:Nat}{A:Around}(r:RoomH (k+1) A) (env:Env):RoomH k (A.deeper env) :=
 ⟨by have:=r.dp;show A.depth+1+3 * k+5<_;omega,by have:=r.un;show A.units+3+16 * k+200<_;omega,r.gd⟩
theorem RoomH.depth {k:Nat}{A:Around}(r:RoomH k A):A.depth<recursionLimit:=by have:=r.dp;omega
abbrev dS (CX:CXT) (P:Program) (w:World) (K:PySem.W.Frag) (mg:Str->Option Value) (base:Heap) (N:List Str) (qual:Str) (scope:Scope) (f:Addr) (cd:Value) (A:Around) (outer:List Env) (s:Shared) (H:Hp) (E:XK):Cx:={ cf CX P w K mg base N qual scope f cd A outer s H E with calm:=false }
structure FnOkH (P:Program) (w:World) (K:PySem.W.Frag) (mg:Str->Option Value) (base:Heap) (CX:CXT) (k:Nat) (f:Addr) (fd:FuncData) (ps:List Str) (sp:Sp):Prop where
 len:∀ vs H Q E,sp vs H Q E->vs.length=ps.length
 run:∀ (A:Around) (outer:List Env) (s:Shared) (H:Hp) (args:Args) (us:List Value) (vs:List V) (Q:VK) (E:XK),RoomH k A->Env0 P w K mg base A outer s H->BindsTo s fd args (ps.zip us)->ai vs us->sp vs H Q E ->
  codeAny (model P w) A (.call (.ref f) args) (CR CX outer P w H s Q E) s
section
variable {X:Cx}{CX:CXT}{k:Nat}{f C:Addr}{fd:FuncData}{ps:List Str}{sp:Sp}{dvs:List V}{ds:List Value}{E:XK}{x m:Str}{p pos apos:Pos}{e o:Expr}{es:List Expr}{ta:TE}{t:TA}
theorem zF {pins:List (Addr×Obj)}{σ:St}{H:Hp}{s:Shared}{Q:VK}{us:List Value}{vs:List V}(F:FnOkH X.prog X.w X.K X.mg X.base CX k f fd ps sp) (hr:RoomH k X.A) (hb:aq X.K fd ps ds) (hd:ai dvs ds) (hx:cS CX X E)
  (I:Inv X pins σ H s) (r:ai vs us) (h:sp (vs++dvs) H Q E):wpAny (model X.prog X.w) X.A (call (.ref f) us) (EP X pins σ Q) X.xe s:=by
 have r2:ai (vs++dvs) (us++ds):=r.append hd
 have hl:(us++ds).length=ps.length:=by rw [<- r2.length];exact F.len _ _ _ _ h
 refine wpAny_call (codeAny_mono (F.run X.A X.stack s H ⟨us,[]⟩ (us++ds) (vs++dvs) Q E hr I.env0 (hb s us I.kIn hl) r2 h) λr s' hq=>?_)
 cases r with
 |error e=>exact hx pins σ H s e s' I hq
 |ok fl =>
  cases fl with
  |ret u=>exact I.after hq
  |next=>exact False.elim hq
  |brk=>exact False.elim hq
  |cont=>exact False.elim hq
theorem xL (F:FnOkH X.prog X.w X.K X.mg X.base CX k f fd ps sp) (hr:RoomH k X.A) (hg:Gl X x) (hm:X.mg x=some (.ref f)) (hk:PySem.W.keepIn X.K (.ref f)=true) (hb:aq X.K fd ps ds) (hd:ai dvs ds) (hx:cS CX X E)
  (ha:PA X (e::es) t) (hdb:(x==("__debug__":Str))=false:=by decide) (he:starEach (e::es) X.env=(false,eval e X.env)::starEach es X.env:=by rfl) (hpl:(backTo pos (starEach es X.env)).any (·.1)=false:=by rfl) :
  PE X (.Call (.Name x p) (e::es) [] pos) (i9 sp dvs E t):=by
 intro pins s σ H Q I h
 refine wpAny_Call_Name_kw (da I hg hm ?_ hdb)
 refine PySem.W.callWith_K (h₀:=X.base) I.ok.mod.kin hk (thn (ha pos pins s σ H _ I h) λus s1 ⟨vs,H1,I1,r,q⟩=>⟨I1.kIn,?_⟩) he hpl
 exact zF F hr hb hd hx I1 r q
end
theorem uY {CX:CXT}{P:Program}{w:World}{K:PySem.W.Frag}{mg:Str->Option Value}{base:Heap}{N ps:List Str}{qual:Str}{scope:Scope}{f:Addr}{cd:Value}{A:Around}{outer:List Env}{s s1:Shared}{H:Hp}{E:XK}{us:List Value}{vs:List V}
  (S:FnScope N ps scope) (e0:Env0 P w K mg base A outer s H) (hl:vs.length=ps.length) (r:ai vs us)
  (x:InCallC s s.heap.objs.size (bindL (envOfC qual scope s.heap.objs.size f cd).kindOf (ps.zip us) λ_=>none) (cellsFrom (s.heap.objs.size+1) scope.names []) (bindC (envOfC qual scope s.heap.objs.size f cd).kindOf (ps.zip us) λ_=>none) s1) :
  Inv (dS CX P w K mg base N qual scope f cd A outer s H E) [] (aY N vs) H s1:=by
 have hpl:ps.length<=N.length:=by have:=congrArg List.length S.pre;rw [List.length_take] at this;omega
 obtain ⟨h1,tk,rfl,hk⟩:=x.done
 have noA:∀ b:Addr,b∉(dS CX P w K mg base N qual scope f cd A outer s H E).ex:=λb z=>absurd (show b∈([]:List Addr) from z) (by simp)
 refine ⟨⟨e0.mod,S.kind,rfl,rfl,Nat.le_refl _,λy z c h1 h2=>?_,λy hy=>?_,λy c _ h=>?_,(λz=>(nomatch z)),Around.frames_deeper e0.frames,.inr ⟨rfl,rfl⟩,λb z=>absurd z (noA b),e0.bs,e0.bsz,λb _ _=>noA b,λb z=>absurd z (noA b),e0.funs,e0.frf⟩,
  rfl,e0.bare,Un.kept hk,⟨_,x.toInCall.ns,λi y v h1 h2 h3=>?_⟩,λy c h=>⟨_,x.cell y c h⟩,e0.hok.fresh (Nat.le_refl _),λy c h=>?_,λp hp=>absurd (show p∈([]:List (Addr×Obj)) from hp) (by simp),e0.hok.kept hk,?_⟩
 ·exact name_of_addr x.apart (PySem.mem_of_lookup h1) (PySem.mem_of_lookup h2)
 ·have hy:scope.names.lookup y=some .cell\/scope.names.lookup y=some .free:=hy
  rcases hy with hy|hy
  ·exact iB hy
  ·exact absurd rfl (S.nofree _ (PySem.mem_of_lookup hy))
 ·exact Nat.le_of_lt (x.above y c (PySem.mem_of_lookup h))
 ·have hi:i<vs.length:=by
   unfold aY at h2
   by_cases hi:i<vs.length
   ·exact hi
   ·rw [List.getElem?_append_right (by simpa using hi)] at h2
    rw [List.getElem?_replicate] at h2
    split at h2<;>cases h2
  have ha:vs[i]?=some v:=by
   unfold aY at h2
   rw [List.getElem?_append_left (by simpa using hi),List.getElem?_map] at h2
   cases e:vs[i]? with
   |none=>rw [e] at h2;cases h2
   |some a=>rw [e] at h2;cases h2;rfl
  obtain ⟨u,hu,rv⟩:=r.get ha
  have hp:ps[i]?=some y:=by
   rw [<- S.pre,List.getElem?_take_of_lt (by omega)];exact h1
  have ndP:ps.Nodup:=by rw [<- S.pre];exact S.nd.sublist (List.take_sublist _ _)
  refine ⟨u,rv,?_⟩
  rcases S.par y (List.mem_of_getElem? hp) with k|k
  ·exact .inl ⟨k,jQ ndP hp hu k⟩
  ·obtain ⟨c,e⟩:=iB (n:=s.heap.objs.size+1) k
   refine .inr ⟨.inl k,c,e,?_⟩
   have q:=x.cell y c e
   rw [jR ndP hp hu (by show scope.names.lookup y≠_;rw [k];decide)] at q
   exact q
 ·exact e0.hok.fresh (Nat.le_of_lt (x.above y c (PySem.mem_of_lookup h)))
 ·unfold aY
  show _=N.length
  rw [List.length_append,List.length_map,List.length_replicate]
  omega
theorem B' {CX:CXT}{P:Program}{w:World}{K:PySem.W.Frag}{mg:Str->Option Value}{base:Heap}{k:Nat}{f:Addr}{name qual:Str}{params:Arguments}{body:List Stmt}{scope:Scope}{dV kV doc pm cdv ct oc:Value}{an od:Option Addr}
  {osl:Array (Option Value)}{N ps:List Str}{sp:Sp}(lk:K.lookup f=some ⟨oc,od,.func (PySem.W.fnOf name qual params body scope dV kV doc pm an cdv ct),osl⟩) (hcd:PySem.W.codeIn K cdv qual=true) (S:FnScope N ps scope)
  (len:∀ vs H Q E,sp vs H Q E->vs.length=ps.length)
  (hbody:∀ (A:Around) (outer:List Env) (s:Shared) (H:Hp) (vs:List V) (Q:VK) (E:XK),RoomH k (A.deeper (envOfC qual scope s.heap.objs.size f cdv))->sp vs H Q E ->
   ∃ t,PSs (dS CX P w K mg base N qual scope f cdv A outer s H E) body t/\t { nx:=λ_ H'=>Q .non H',rt:=Q } (aY N vs) H) :
  FnOkH P w K mg base CX (k+1) f (PySem.W.fnOf name qual params body scope dV kV doc pm an cdv ct) ps sp:=by
 refine ⟨len,λA outer s H args us vs Q E hr e0 hb r hsp=>?_⟩
 have hl:=len _ _ _ _ hsp
 have KX:K.In s.heap:=e0.mod.kin.keeps λb o e=>(e0.bs b o e).1
 have lim:s.heap.NoLimit:=e0.mod.nolimit.keeps λb o e=>(e0.bs b o e).1
 have hkind:∀ y∈ps.zip us,scope.names.lookup y.1=some .local\/(scope.names.lookup y.1=some .cell/\((cellsFrom (s.heap.objs.size+1) scope.names []).lookup y.1).isSome=true):=λzz115 hy=>by
  obtain ⟨n,v⟩:=zz115
  rcases S.par n (List.of_mem_zip hy).1 with q|q
  ·exact .inl q
  ·exact .inr ⟨q,PySem.W.cellsFrom_some _ _ _ (.inl q)⟩
 refine codeAny_call_function hr.depth (KX _ _ lk) rfl S.co S.gen rfl (PySem.W.codeRec_of KX hcd) (hb _ _ _ _ ?_)
 refine wpAny_newFunctionEnv_cells S.kind hkind λenv he s1 x=>?_
 subst he
 refine ⟨lim.keeps x.toInCall.keep,codeAny_func ?_⟩
 obtain ⟨t,ht,hq⟩:=hbody A outer s H vs Q E (hr.deeper _) hsp
 have I:Inv (dS CX P w K mg base N qual scope f cdv A outer s H E) [] (aY N vs) H s1:=uY S e0 hl r x
 refine wpAny_mono (ht [] s1 (aY N vs) H _ I hq) (λfl s' hs=>?_) λe s' hs=>hs
 have fin:∀ {σ':St}{H':Hp}{v:V}{u:Value},Inv (dS CX P w K mg base N qual scope f cdv A outer s H E) [] σ' H' s'->ak v u->Q v H'->CE outer P w H s Q u s' :=
  fun {σ' H' v u} J rv q=>⟨v,H',J.os,J.bare,J.base,J.hok,rv,q⟩
 cases fl with
 |ret u =>
  obtain ⟨v,σ',H',J,rv,q⟩:=hs
  exact fin J rv q
 |next =>
  obtain ⟨σ',H',J,q⟩:=hs
  exact fin (v:=V.non) (u:=Value.none) J rfl q
 |brk =>
  obtain ⟨_,_,_,q⟩:=hs
  exact False.elim q
 |cont =>
  obtain ⟨_,_,_,q⟩:=hs
  exact False.elim q
section
variable {P:Program}{w:World}{K:PySem.W.Frag}{mg:Str->Option Value}{base:Heap}
theorem Fun.okH {x qual:Str}{st:Stmt}{f:Addr}{fd:FuncData}{N ps:List Str}{k:Nat}{sp:Sp}(F:Fun K x qual st f fd) (S:FnScope N ps (aj st)) (len:∀ vs H Q E,sp vs H Q E->vs.length=ps.length)
  (hbody:∀ (cdv:Value) (A:Around) (outer:List Env) (s:Shared) (H:Hp) (vs:List V) (Q:VK) (E:XK),RoomH k (A.deeper (envOfC qual (aj st) s.heap.objs.size f cdv))->sp vs H Q E ->
   ∃ t,PSs (dS CX0 P w K mg base N qual (aj st) f cdv A outer s H E).nox (ao st) t/\t { nx:=λ_ H'=>Q .non H',rt:=Q } (aY N vs) H):FnOkH P w K mg base CX0 (k+1) f fd ps sp:=by
 obtain ⟨oc,od,kV,doc,pm,an,cdv,ct,osl,rfl,lk,hcd⟩:=F.ex
 refine B' lk hcd S len λA outer s H vs Q E hr hsp=>?_
 obtain ⟨t,h,q⟩:=hbody cdv A outer s H vs Q E hr hsp
 exact ⟨t,h.nox,q⟩
end
end L2
namespace T2
open PySem PySem.Spec PyProof.Rows L2
section
variable {P:Program}{w:World}{K:Fg}{mg:Str->Option Value}{base:Heap}
theorem zG {x qual:Str}{st:Stmt}{f:Addr}{fd:FuncData}{N ps:List Str}{k:Nat}{wsp:WSp}(F:Fun K x qual st f fd) (Sc:FnScope N ps (aj st)) (len:∀ ts S Q,wsp ts S Q->ts.length=ps.length)
  (hbody:∀ (cdv:Value) (A:Around) (outer:List Env) (s:Shared) (H:Hp) (E:XK),RoomH k (A.deeper (envOfC qual (aj st) s.heap.objs.size f cdv)) ->
   ∃ u,QSs K (dS CX0 P w K mg base N qual (aj st) f cdv A outer s H E).nox (ao st) u/\∀ ts S Q,wsp ts S Q->u { nx:=λ_ S'=>Fin Q .non S',rt:=Fin Q } (b7 N ts) S):FnOkH P w K mg base CX0 (k+1) f fd ps (lSp K wsp):=by
 refine Fun.okH F Sc (λvs H Q E ⟨S,ts,Qt,s,r,q,_⟩=>by rw [r.length];exact len _ _ _ q) λcdv A outer s H vs Q E hr ⟨S,ts,Qt,sr,r,q,b⟩=>?_
 obtain ⟨u,hu,hq⟩:=hbody cdv A outer s H E hr
 refine ⟨_,hu,S,b7 N ts,_,sr,ix r,hq ts S Qt q,⟨λ_ H' _ S' f s' _ q'=>Fin.ends b f s' .non q',λv H' t S' f s' r' q'=>Fin.ends b f s' r' q',λ_ _ _ _ _ _ _ q'=>q'.elim,λ_ _ _ _ _ _ _ q'=>q'.elim⟩⟩
end
section
variable {K:Fg}{X:Cx}{k:Nat}{f:Addr}{fd:FuncData}{ps:List Str}{wsp:WSp}{x m:Str}{p pos apos cpos:Pos}{e o:Expr}{es:List Expr}{wa wb:WE}{wr:WA}{id ty:String}{g:GC}{gm:GM}{i:Nat}
theorem zH (F:FnOkH X.prog X.w X.K X.mg X.base CX0 k f fd ps (lSp K wsp)) (D:Df X.K X.mg x f fd ps) (hr:RoomH k X.A) (hg:Gl X x) (ha:QA K X (e::es) wr)
  (hdb:(x==("__debug__":Str))=false:=by decide) (he:starEach (e::es) X.env=(false,eval e X.env)::starEach es X.env:=by rfl) (hpl:(backTo pos (starEach es X.env)).any (·.1)=false:=by rfl) :
  QE K X (.Call (.Name x p) (e::es) [] pos) (gH wsp [] wr):=qq (dvs:=[]) (λ_ _=>.nil) (xL F hr hg D.hm D.kp D.b .nil fq ha hdb he hpl)
end
end T2
open PySem
namespace Sc
def isL (c:Nat):Bool:=decide (97<=c)&&decide (c<=122)
def isP (p:List Nat):Bool:=decide (1<=p.length)&&decide (p.length<=12)&&p.all isL
def az:List Nat->Nat->Nat->Option (Nat×Nat)
 |[],z,n=>some (z,n)
 |c::r,z,n=>if c=32 then (if z=0 then none else az r 0 (n+1)) else if isL c=true then (if z+1>12 then none else az r (z+1) n) else none
def fin:Option (Nat×Nat)->Bool
 |none=>false
 |some (z,n)=>decide (0<z)&&decide (n<5)
theorem jV:∀ (p rest:List Nat) (z n:Nat),32∉p->z<=12->az (p++rest) z n=if (p.all isL&&decide (z+p.length<=12))=true then az rest (z+p.length) n else none
 |[],rest,z,n,_,hz=>by simp [hz]
 |c::p,rest,z,n,h,hz=>by
  have hc:c≠32:=λe=>h (by simp [e])
  have hp:32∉p:=λe=>h (by simp [e])
  have ih:=jV p rest (z+1) n hp
  show az (c::(p++rest)) z n=_
  rw [az,if_neg hc]
  cases hl:isL c with
  |false=>simp [hl]
  |true =>
   rw [if_pos rfl]
   by_cases hz2:z+1>12
   ·rw [if_pos hz2]
    have:¬ (z+(c::p).length<=12):=by simp;omega
    simp [this]
    omega
   ·rw [if_neg hz2,ih (by omega)]
    have e:z+1+p.length=z+(c::p).length:=by simp;omega
    rw [e]
    simp [hl]
def aT (g:List Nat):List (List Nat)->List Nat
 |[]=>[]
 |[p]=>p
 |p::q::r=>p++g++aT g (q::r)
theorem kh:∀ (ps:List (List Nat)) (n:Nat),ps≠[]->(∀ p∈ps,32∉p)->fin (az (aT [32] ps) 0 n)=(decide (ps.length+n<=5)&&ps.all isP)
 |[],_,h,_=>absurd rfl h
 |[p],n,_,hf=>by
  have h:=jV p [] 0 n (hf p (by simp)) (by omega)
  rw [List.append_nil] at h
  show fin (az p 0 n)=_
  rw [h]
  simp only [Nat.zero_add,List.length_singleton,List.all_cons,List.all_nil,Bool.and_true]
  by_cases hc:(p.all isL&&decide (p.length<=12))=true
  ·rw [if_pos hc]
   simp only [Bool.and_eq_true,decide_eq_true_eq] at hc
   simp only [az,fin,isP,hc.1,hc.2,decide_true,Bool.and_true]
   rw [Bool.eq_iff_iff]
   simp only [Bool.and_eq_true,decide_eq_true_eq]
   omega
  ·rw [if_neg hc]
   have:isP p=false:=by
    simp only [isP]
    rw [Bool.eq_false_iff]
    intro z
    simp only [Bool.and_eq_true,decide_eq_true_eq] at z hc
    exact hc ⟨z.2,z.1.2⟩
   simp [fin,this]
 |p::q::r,n,_,hf=>by
  have h:=jV p (32::aT [32] (q::r)) 0 n (hf p (by simp)) (by omega)
  have ih:=kh (q::r) (n+1) (by simp) λx hx=>hf x (List.mem_cons_of_mem _ hx)
  have e:aT [32] (p::q::r)=p++32::aT [32] (q::r):=by simp [aT]
  rw [e,h]
  simp only [Nat.zero_add]
  by_cases hc:(p.all isL&&decide (p.length<=12))=true
  ·rw [if_pos hc]
   simp only [Bool.and_eq_true,decide_eq_true_eq] at hc
   rw [az,if_pos rfl]
   by_cases hz:p.length=0
   ·rw [if_pos hz]
    have:isP p=false:=by simp [isP,hz]
    simp [fin,this]
   ·rw [if_neg hz,ih]
    have:isP p=true:=by
     simp only [isP,hc.1,hc.2,decide_true,Bool.and_true,decide_eq_true_eq]
     omega
    have ea:(p::q::r).all isP=(q::r).all isP:=by rw [List.all_cons,this,Bool.true_and]
    rw [ea]
    have e2:(q::r).length+(n+1)=(p::q::r).length+n:=by simp;omega
    rw [e2]
  ·rw [if_neg hc]
   have:isP p=false:=by
    simp only [isP]
    rw [Bool.eq_false_iff]
    intro z
    simp only [Bool.and_eq_true,decide_eq_true_eq] at z hc
    exact hc ⟨z.2,z.1.2⟩
   simp [fin,this]
theorem zI (c:Nat):decide (c∈[97,98,99,100,101,102,103,104,105,106,107,108,109,110,111,112,113,114,115,116,117,118,119,120,121,122])=isL c:=by
 have lo:∀ c<123,decide (c∈[97,98,99,100,101,102,103,104,105,106,107,108,109,110,111,112,113,114,115,116,117,118,119,120,121,122])=isL c:=by decide +kernel
 by_cases h:c<123
 ·exact lo c h
 ·have hi:∀ x∈[97,98,99,100,101,102,103,104,105,106,107,108,109,110,111,112,113,114,115,116,117,118,119,120,121,122],x<123:=by decide +kernel
  rw [decide_eq_false λq=>h (hi c q)]
  unfold isL
  rw [decide_eq_false (p:=c<=122) λq=>h (Nat.lt_succ_of_le q),Bool.and_false]
theorem Ca (a b:Nat):decide ([a]<[b])=decide (a<b):=by
 rw [Bool.eq_iff_iff]
 simp [List.cons_lt_cons_iff]
end Sc
namespace Wm
open PySem
theorem jO (g:List Nat):∀ ps:List (List Nat),Sc.aT g ps=Tm.aT g ps
 |[]=>rfl
 |[p]=>rfl
 |p::q::r=>by
  show p++g++Sc.aT g (q::r)=p++g++Tm.aT g (q::r)
  rw [jO g (q::r)]
def Wd (z:Str):Bool:=decide (z.length<=24)&&Sc.fin (Sc.az (Tm.tl z) 0 1)
theorem nQ (z:Str):Sc.fin (Sc.az (Tm.tl z) 0 1)=(decide ((Txt.split z " ").length<=4)&&(Txt.split z " ").all λp=>Sc.isP (Tm.tl p)):=by
 have hn:=PyProof.Rows.split_pos z " "
 rw [<- Tm.nO z,<- jO,Sc.kh _ 1 (by simp [Tm.xk]) (Tm.split_free z),List.length_map,List.all_map]
 congr 1
 rw [Bool.eq_iff_iff]
 simp only [decide_eq_true_eq]
 omega
theorem Cb:Tm.tl "abcdefghijklmnopqrstuvwxyz"=[97,98,99,100,101,102,103,104,105,106,107,108,109,110,111,112,113,114,115,116,117,118,119,120,121,122]:=by decide +kernel
theorem Cc (c:Nat):(!(Builtin.Str.occurrences ("abcdefghijklmnopqrstuvwxyz":Str) ⟨#[c]⟩ 0 ("abcdefghijklmnopqrstuvwxyz":Str).length 1).isEmpty)=Sc.isL c:=by
 rw [PySem.StrLaws.found_one,show ("abcdefghijklmnopqrstuvwxyz":Str).cps.toList=_ from Cb,Sc.zI]
theorem qW (c d:Nat):T2.ltS ⟨#[c]⟩ ⟨#[d]⟩=decide (c<d):=by
 unfold T2.ltS
 exact Sc.Ca c d
theorem Cd (c:Nat):(!T2.ltS ⟨#[c]⟩ "a" && !T2.ltS "z" ⟨#[c]⟩)=Sc.isL c:=by
 rw [show ("a":Str)=⟨#[97]⟩ by decide +kernel,show ("z":Str)=⟨#[122]⟩ by decide +kernel,qW,qW,Bool.eq_iff_iff]
 simp only [Sc.isL,Bool.and_eq_true,Bool.not_eq_true',decide_eq_false_iff_not,decide_eq_true_eq]
 omega
theorem all_map (l:List Bool):T2.dn (l.map T2.T.bl)=some l:=by
 induction l with
 |nil=>rfl
 |cons a l ih=>simp [T2.dn,ih]
theorem gb {α β:Type}(f:α->β) (l:List α):l.filterMap (λx=>some (f x))=l.map f:=by
 induction l with
 |nil=>rfl
 |cons a l ih=>simp [ih]
end Wm
namespace Wm
open PySem
theorem goes (c:Nat):(" ":Str).cps.contains c=decide (c=32):=by
 have e:(" ":Str).cps=#[32]:=by
  have:=Tm.lW
  apply Array.toList_inj.mp
  exact this
 rw [e,Bool.eq_iff_iff]
 simp
theorem EF:((" ":Str).cps.contains:Nat->Bool)=λc=>decide (c=32):=funext goes
theorem xM (x:Str):Tm.tl (Txt.stripChars x " ")=((Tm.tl x).take (x.length - (((Tm.tl x).drop ((Tm.tl x).takeWhile λc=>decide (c=32)).length).reverse.takeWhile λc=>decide (c=32)).length)).drop ((Tm.tl x).takeWhile λc=>decide (c=32)).length:=by
 unfold Txt.stripChars Txt.stripBy
 rw [EF]
 split
 ·rename_i h
  simp only [PySem.stripSame,PySem.stripLo,PySem.stripHi,if_true,Bool.and_eq_true,beq_iff_eq] at h
  obtain ⟨h1,h2⟩:=h
  rw [h1] at h2 ⊢
  rw [h2,List.drop_zero,List.take_of_length_le (by rw [Tm.len];exact Nat.le_refl _)]
 ·simp only [PySem.stripped,PySem.stripLo,PySem.stripHi,if_true,Builtin.Str.strSub,Tm.tl,Array.toList_extract,List.extract]
  rw [List.drop_take]
theorem iI:∀ (a b:List Nat) (z n:Nat),Sc.az (a++b) z n=(Sc.az a z n).bind λp=>Sc.az b p.1 p.2
 |[],b,z,n=>rfl
 |c::a,b,z,n=>by
  show Sc.az (c::(a++b)) z n=_
  rw [Sc.az,Sc.az]
  split
  ·split
   ·rfl
   ·exact iI a b _ _
  ·split
   ·split
    ·rfl
    ·exact iI a b _ _
   ·rfl
theorem kO:∀ (a:List Nat) (z n:Nat) {z' n':Nat},Sc.az a z n=some (z',n')->n<=n'
 |[],z,n,z',n',h=>by simp only [Sc.az,Option.some.injEq,Prod.mk.injEq] at h;omega
 |c::a,z,n,z',n',h=>by
  rw [Sc.az] at h
  split at h
  ·split at h
   ·cases h
   ·have:=kO a _ _ h;omega
  ·split at h
   ·split at h
    ·cases h
    ·exact kO a _ _ h
   ·cases h
theorem v2 {l:List Nat}{n:Nat}{p:Nat×Nat}(h:Sc.az l 0 n=some p):(l.takeWhile λc=>decide (c=32))=[]:=by
 cases l with
 |nil=>rfl
 |cons c l =>
  rw [Sc.az] at h
  by_cases e:c=32
  ·rw [if_pos e,if_pos rfl] at h;cases h
  ·simp [List.takeWhile_cons,e]
theorem v3 {l:List Nat}{z n:Nat}(h:Sc.az l 0 1=some (z,n)) (hl:l≠[]) (hn:n<=4):∃ l',((l.take (l.length - (l.reverse.takeWhile λc=>decide (c=32)).length))=l')/\Sc.fin (Sc.az l' 0 1)=true/\l'.length<=l.length:=by
 have step:∀ {a:List Nat}{c:Nat}{z n:Nat},Sc.az (a++[c]) 0 1=some (z,n)->(c≠32/\0<z)\/(c=32/\z=0/\∃ z' n',Sc.az a 0 1=some (z',n')/\0<z'/\n'<=n):=by
  intro a c z n e
  rw [iI] at e
  cases q:Sc.az a 0 1 with
  |none=>rw [q] at e;cases e
  |some p =>
   rw [q] at e
   simp only [Option.bind_some,Sc.az] at e
   by_cases hc:c=32
   ·rw [if_pos hc] at e
    split at e
    ·cases e
    ·rename_i hz
     simp only [Option.some.injEq,Prod.mk.injEq] at e
     exact .inr ⟨hc,e.1.symm,p.1,p.2,rfl,by omega,by omega⟩
   ·rw [if_neg hc] at e
    split at e
    ·split at e
     ·cases e
     ·simp only [Option.some.injEq,Prod.mk.injEq] at e
      exact .inl ⟨hc,by omega⟩
    ·cases e
 rcases List.eq_nil_or_concat l with rfl|⟨a,c,rfl⟩
 ·exact (hl rfl).elim
 rw [List.concat_eq_append] at h ⊢
 rcases step h with ⟨hc,hz⟩|⟨hc,hz,z',n',e,hz',hn'⟩
 ·refine ⟨a++[c],?_,?_,Nat.le_refl _⟩
  ·have e:((a++[c]).reverse.takeWhile λc=>decide (c=32))=[]:=by simp [List.takeWhile_cons,hc]
   rw [e,List.length_nil,Nat.sub_zero,List.take_length]
  ·rw [h];simp only [Sc.fin,Bool.and_eq_true,decide_eq_true_eq];omega
 ·refine ⟨a,?_,?_,by simp⟩
  ·have:(a.reverse.takeWhile λc=>decide (c=32))=[]:=by
    rcases List.eq_nil_or_concat a with rfl|⟨b,d,rfl⟩
    ·rfl
    ·rw [List.concat_eq_append] at e ⊢
     rcases step e with ⟨hd,_⟩|⟨_,z0,_⟩
     ·simp [List.takeWhile_cons,hd]
     ·omega
   simp [List.takeWhile_cons,hc,this]
  ·rw [e];simp only [Sc.fin,Bool.and_eq_true,decide_eq_true_eq];omega
theorem Ce {x y:Str}{k:Nat}(h:Sc.fin (Sc.az (Tm.tl x) 0 1)=true) (e:Tm.tl y=(Tm.tl x).take k) (h1:1<=k) (h2:k<=24):Wd (Txt.stripChars y " ")=true:=by
 cases q:Sc.az (Tm.tl x) 0 1 with
 |none=>rw [q] at h;cases h
 |some p =>
  rw [q] at h
  simp only [Sc.fin,Bool.and_eq_true,decide_eq_true_eq] at h
  have hne:Tm.tl x≠[]:=λz=>by
   rw [z] at q;simp only [Sc.az,Option.some.injEq] at q;rw [<- q] at h;simp at h
  have q':=q
  rw [<- List.take_append_drop k (Tm.tl x),iI] at q'
  cases r:Sc.az ((Tm.tl x).take k) 0 1 with
  |none=>rw [r] at q';cases q'
  |some u =>
   rw [r] at q'
   have hu:=kO _ _ _ q'
   have hl:Tm.tl y≠[]:=by
    rw [e]
    cases hx:Tm.tl x with
    |nil=>exact (hne hx).elim
    |cons c l=>cases k with
     |zero=>omega
     |succ k=>simp
   rw [<- e] at r
   obtain ⟨l',e1,e2,e3⟩:=v3 (z:=u.1) (n:=u.2) r hl (by omega)
   have es:Tm.tl (Txt.stripChars y " ")=l':=by
    rw [xM,v2 r,List.length_nil,List.drop_zero,List.drop_zero,<- Tm.len]
    exact e1
   unfold Wd
   rw [Bool.and_eq_true,decide_eq_true_eq]
   refine ⟨?_,by rw [es];exact e2⟩
   rw [<- Tm.len,es]
   have:(Tm.tl y).length<=k:=by rw [e,List.length_take];omega
   omega
theorem oF:∀ (ls:List (List Nat)),Tm.aT [] ls=ls.flatten
 |[]=>rfl
 |[p]=>by simp [Tm.aT]
 |p::q::r=>by
  show p++[]++Tm.aT [] (q::r)=_
  rw [oF (q::r)];simp
theorem iL {ys:List Str}(h1:∀ y∈ys,∃ c,y=⟨#[c]⟩/\Sc.isL c=true) (h2:1<=ys.length) (h3:ys.length<=12):Sc.isP (Tm.tl (Txt.join "" ys))=true:=by
 rw [Tm.kJ,Tm.empty,oF]
 have len:((ys.map Tm.tl).flatten).length=ys.length:=by
  clear h2 h3
  induction ys with
  |nil=>rfl
  |cons y l ih =>
   obtain ⟨c,rfl,_⟩:=h1 y (by simp)
   simp only [List.map_cons,List.flatten_cons,List.length_append,ih λz hz=>h1 z (by simp [hz]),List.length_cons]
   simp [Tm.tl];omega
 unfold Sc.isP
 rw [len]
 simp only [Bool.and_eq_true,decide_eq_true_eq]
 refine ⟨⟨h2,h3⟩,?_⟩
 rw [List.all_eq_true]
 intro c hc
 rw [List.mem_flatten] at hc
 obtain ⟨l,hl,hc⟩:=hc
 rw [List.mem_map] at hl
 obtain ⟨y,hy,rfl⟩:=hl
 obtain ⟨d,rfl,hd⟩:=h1 y hy
 simp [Tm.tl] at hc
 rw [hc];exact hd
theorem xN {p:List Nat}(h:Sc.isP p=true):32∉p:=λhm=>by
 unfold Sc.isP at h
 simp only [Bool.and_eq_true,List.all_eq_true] at h
 have:=h.2 32 hm
 simp [Sc.isL] at this
theorem zJ {ps:List Str}(h1:∀ p∈ps,Sc.isP (Tm.tl p)=true) (h2:ps≠[]) (h3:ps.length<=4):Sc.fin (Sc.az (Tm.tl (Txt.join " " ps)) 0 1)=true:=by
 rw [Tm.kJ,Tm.lW,<- jO]
 rw [Sc.kh (ps.map Tm.tl) 1 (by simpa using h2) (λp hp=>by
  rw [List.mem_map] at hp
  obtain ⟨y,hy,rfl⟩:=hp
  exact xN (h1 y hy))]
 simp only [List.length_map,Bool.and_eq_true,decide_eq_true_eq,List.all_map,List.all_eq_true]
 exact ⟨by omega,λp hp=>h1 p hp⟩
theorem dM {z:Str}(h:Wd z=true):1<=z.length/\z.length<=24:=by
 unfold Wd at h
 simp only [Bool.and_eq_true,decide_eq_true_eq] at h
 refine ⟨?_,h.1⟩
 rcases Nat.eq_zero_or_pos z.length with e|e
 ·have:Tm.tl z=[]:=List.length_eq_zero_iff.mp (by rw [Tm.len];exact e)
  rw [this] at h
  simp [Sc.az,Sc.fin] at h
 ·exact e
theorem kP:∀ (l:List Nat) (z n:Nat){p:Nat×Nat},Sc.az l z n=some p->∀ c∈l,c=32\/Sc.isL c=true
 |[],_,_,_,_,c,hc=>by cases hc
 |d::l,z,n,p,h,c,hc=>by
  rw [Sc.az] at h
  rcases List.mem_cons.mp hc with rfl|hc
  ·by_cases e:c=32
   ·exact .inl e
   ·rw [if_neg e] at h
    split at h
    ·exact .inr ‹_›
    ·cases h
  ·split at h
   ·split at h
    ·cases h
    ·exact kP l _ _ h c hc
   ·split at h
    ·split at h
     ·cases h
     ·exact kP l _ _ h c hc
    ·cases h
theorem o5 {z:Str}(h:Wd z=true):∀ c∈Tm.tl z,c=32\/Sc.isL c=true:=by
 unfold Wd at h
 simp only [Bool.and_eq_true] at h
 cases q:Sc.az (Tm.tl z) 0 1 with
 |none=>rw [q] at h;simp [Sc.fin] at h
 |some p=>exact kP _ _ _ q
theorem jp {z:Str}(h:Wd z=true):PyData.strOk z=true:=by
 unfold PyData.strOk
 rw [Array.all_eq_true_iff_forall_mem]
 intro c hc
 have:=o5 h c (by simpa [Tm.tl] using hc)
 rw [decide_eq_true_eq]
 rcases this with e|e
 ·omega
 ·simp only [Sc.isL,Bool.and_eq_true,decide_eq_true_eq] at e;omega
end Wm
namespace Rk
open PySem T2 S6
abbrev Rt:=Str×Int
def rt (a:Rt):T:=.tup [.str a.1,.int a.2]
def ky (a:Rt):Ky:=.cons (.i (-a.2)) (.cons (.s a.1) .nil)
theorem Cf (a:Rt):tre (ky a)=.tup [.int (-a.2),.str a.1]:=by simp [ky,tre,hE]
def ah (a b:Rt):Bool:=Ky.lt (ky a) (ky b)
theorem i6 (a b:Rt):Ky.shp (ky a) (ky b)=true:=rfl
theorem Cg {a b:Rt}(h:ky a=ky b):a=b:=by
 simp only [ky,Ky.cons.injEq,Ky.i.injEq,Ky.s.injEq,and_true] at h
 exact Prod.ext h.2 (by omega)
theorem xO {a b c:Rt}(h1:ah a b=true) (h2:ah b c=true):ah a c=true:=Ky.trans (i6 _ _) (i6 _ _) h1 h2
theorem qX (a b:Rt):ah a b=true\/a=b\/ah b a=true:=by
 rcases Ky.tri (i6 a b) with h|h|h
 ·exact .inl h
 ·exact .inr (.inl (Cg h))
 ·exact .inr (.inr h)
theorem zK {a b:Rt}(h:ah a b=true):ah b a=false:=Ky.Fv (i6 _ _) h
def kyT:T->Ky
 |.tup [.str w,.int n]=>ky (w,n)
 |_=>.nil
theorem qY (a:Rt):kyT (rt a)=ky a:=rfl
def ins (acc:List Rt) (a:Rt):List Rt:=acc.takeWhile (λx=>ah x a)++a::acc.dropWhile (λx=>ah x a)
def bst (l:List Rt):List Rt:=l.foldl ins []
theorem ki (acc:List Rt) (a:Rt):(ins acc a).Perm (a::acc):=by
 unfold ins
 refine (List.perm_middle).trans ?_
 rw [List.takeWhile_append_dropWhile]
theorem oG:∀ (l acc:List Rt),(l.foldl ins acc).Perm (l++acc)
 |[],acc=>by simp
 |a::l,acc=>by
  rw [List.foldl_cons]
  refine (oG l (ins acc a)).trans ?_
  refine ((ki acc a).append_left l).trans ?_
  exact List.perm_middle
theorem o6 (l:List Rt):(bst l).Perm l:=by
 have:=oG l []
 rwa [List.append_nil] at this
theorem uZ {acc:List Rt}{a:Rt}(h:acc.Pairwise λx y=>ah x y=true) (hn:a∉acc):(ins acc a).Pairwise λx y=>ah x y=true:=by
 induction acc with
 |nil=>simp [ins]
 |cons b l ih =>
  have hb:b≠a:=λe=>hn (by simp [e])
  obtain ⟨h1,h2⟩:=List.pairwise_cons.mp h
  have hn2:a∉l:=λe=>hn (by simp [e])
  unfold ins
  by_cases q:ah b a=true
  ·rw [List.takeWhile_cons,if_pos q,List.dropWhile_cons,if_pos q,List.cons_append]
   refine List.pairwise_cons.mpr ⟨λx hx=>?_,ih h2 hn2⟩
   have:=(ki l a).mem_iff.mp (show x∈ins l a from hx)
   rcases List.mem_cons.mp this with rfl|hx
   ·exact q
   ·exact h1 x hx
  ·rw [List.takeWhile_cons,if_neg q,List.dropWhile_cons,if_neg q,List.nil_append]
   have ab:ah a b=true:=by
    rcases qX a b with z|z|z
    ·exact z
    ·exact (hb z.symm).elim
    ·exact (q z).elim
   refine List.pairwise_cons.mpr ⟨λx hx=>?_,h⟩
   rcases List.mem_cons.mp hx with rfl|hx
   ·exact ab
   ·exact xO ab (h1 x hx)
theorem nz:∀ (l acc:List Rt),(l++acc).Nodup->(acc.Pairwise λx y=>ah x y=true)->((l.foldl ins acc).Pairwise λx y=>ah x y=true)
 |[],acc,_,h=>h
 |a::l,acc,hn,h=>by
  rw [List.foldl_cons]
  have hm:a∉acc:=λe=>by
   rw [List.cons_append,List.nodup_cons] at hn
   exact hn.1 (List.mem_append_right _ e)
  refine nz l (ins acc a) ?_ (uZ h hm)
  have p:(l++ins acc a).Perm (a::l++acc):=((ki acc a).append_left l).trans List.perm_middle
  exact p.nodup_iff.mpr hn
theorem u4 {l:List Rt}(h:l.Nodup):(bst l).Pairwise λx y=>ah x y=true:=nz l [] (by simpa using h) .nil
theorem t7:∀ {l m:List Rt},(l.Pairwise λx y=>ah x y=true)->(m.Pairwise λx y=>ah x y=true)->l.Perm m->l=m
 |[],m,_,_,p=>(List.perm_nil.mp p.symm).symm
 |a::l,[],_,_,p=>absurd p.length_eq (by simp)
 |a::l,b::m,h1,h2,p=>by
  obtain ⟨a1,a2⟩:=List.pairwise_cons.mp h1
  obtain ⟨b1,b2⟩:=List.pairwise_cons.mp h2
  have e:a=b:=by
   rcases List.mem_cons.mp (p.mem_iff.mp (List.mem_cons_self ..):a∈b::m) with e|e
   ·exact e
   ·rcases List.mem_cons.mp (p.mem_iff.mpr (List.mem_cons_self ..):b∈a::l) with q|q
    ·exact q.symm
    ·have x1:=a1 b q
     have x2:=b1 a e
     rw [zK x1] at x2;cases x2
  subst e
  rw [t7 a2 b2 (List.perm_cons a |>.mp p)]
theorem xP {l:List Rt}(h:(l.map (·.1)).Nodup):l.Nodup:=by
 unfold List.Nodup at h ⊢
 rw [List.pairwise_map] at h
 exact h.imp fun {a b} hne e=>hne (by rw [e])
theorem v6 {l l':List Rt}(hn:l.Nodup) (p:l'.Perm l) (h:l'.Pairwise λa b=>Ky.lt (kyT (rt b)) (kyT (rt a))=false):l'=bst l:=by
 refine t7 ?_ (u4 hn) (p.trans (o6 l).symm)
 have n':l'.Nodup:=p.nodup_iff.mpr hn
 refine (h.and n').imp fun {a b} hab=>?_
 rcases qX a b with z|z|z
 ·exact z
 ·exact (hab.2 z).elim
 ·have:=hab.1
  rw [qY,qY] at this
  rw [show Ky.lt (ky b) (ky a)=true from z] at this;cases this
theorem EG {S:Sto}{Q:T->Sto->Prop}{a:Rt}(h:Q (.str a.1) S):gIx (rt a) (.int 0) S Q:=sy (t:=.str a.1) rfl h
end Rk
namespace As
open PySem T2
variable {α β:Type}
def kt (f:α->T) (l:List (Str×α)):List (L2.Key×T):=l.map λa=>(Sum.inr a.1,f a.2)
def look (l:List (Str×α)) (z:Str):Option α:=(l.find? λa=>decide (a.1=z)).map (·.2)
def pu (l:List (Str×α)) (z:Str) (x:α):List (Str×α):=if (l.any λa=>decide (a.1=z))=true then l.map (λa=>if a.1=z then (a.1,x) else a) else l++[(z,x)]
def dr (l:List (Str×α)) (z:Str):List (Str×α):=l.filter λa=>decide (a.1≠z)
theorem dN (f:α->T) (z:Str):∀ l:List (Str×α),bx (kt f l) (Sum.inr z)=(look l z).map f
 |[]=>rfl
 |a::l=>by
  have ih:=dN f z l
  unfold bx kt look at *
  rw [List.map_cons,List.find?_cons,List.find?_cons]
  by_cases e:a.1=z
  ·simp [e]
  ·have e2:¬ (Sum.inr a.1:L2.Key)=Sum.inr z:=λq=>e (Sum.inr.inj q)
   simp only [e,e2,decide_false]
   exact ih
theorem qZ (f:α->T) (z:Str):∀ l:List (Str×α),((kt f l).any λkv=>decide (kv.1=Sum.inr z))=l.any λa=>decide (a.1=z)
 |[]=>rfl
 |a::l=>by
  have ih:=qZ f z l
  unfold kt at *
  rw [List.map_cons,List.any_cons,List.any_cons,ih]
  congr 1
  rw [Bool.eq_iff_iff]
  simp
theorem re (f:α->T) (l:List (Str×α)) (z:Str) (x:α):fH (kt f l) (Sum.inr z) (f x)=kt f (pu l z x):=by
 unfold fH pu
 rw [qZ]
 split
 ·unfold kt
  rw [List.map_map,List.map_map]
  refine List.map_congr_left λa _=>?_
  by_cases e:a.1=z
  ·simp [e]
  ·have e2:¬ (Sum.inr a.1:L2.Key)=Sum.inr z:=λq=>e (Sum.inr.inj q)
   simp [e]
 ·unfold kt;simp
theorem zL (f:α->T) (l:List (Str×α)) (z:Str):fI (kt f l) (Sum.inr z)=kt f (dr l z):=by
 unfold fI dr kt
 rw [List.filter_map]
 congr 1
 refine List.filter_congr λa _=>?_
 rw [Bool.eq_iff_iff]
 simp
theorem eO {l:List (Str×α)}{z:Str}{x:α}(h:look l z=some x):(z,x)∈l:=by
 unfold look at h
 rw [Option.map_eq_some_iff] at h
 obtain ⟨a,h1,h2⟩:=h
 have h3:=List.find?_some h1
 have h4:=List.mem_of_find?_eq_some h1
 simp only [decide_eq_true_eq] at h3
 rw [<- h3,<- h2];exact h4
theorem b6 {l:List (Str×α)}{z:Str}:look l z=none ↔ z∉l.map (·.1):=by
 unfold look
 rw [Option.map_eq_none_iff,List.find?_eq_none]
 constructor
 ·intro h hm
  obtain ⟨a,ha,e⟩:=List.mem_map.mp hm
  exact h a ha (by simp [e])
 ·intro h a ha e
  exact h (by rw [<- of_decide_eq_true e];exact List.mem_map_of_mem ha)
theorem Ch {l:List (Str×α)}{z:Str}(x:α) (h:z∉l.map (·.1)):pu l z x=l++[(z,x)]:=by
 unfold pu
 rw [if_neg]
 intro e
 rw [List.any_eq_true] at e
 obtain ⟨a,ha,e⟩:=e
 exact h (by rw [<- of_decide_eq_true e];exact List.mem_map_of_mem ha)
theorem zM {l:List (Str×α)}{z:Str}(x:α) (h:z∈l.map (·.1)):(pu l z x).map (·.1)=l.map (·.1):=by
 unfold pu
 rw [if_pos (by
  obtain ⟨a,ha,e⟩:=List.mem_map.mp h
  exact List.any_eq_true.mpr ⟨a,ha,by simp [e]⟩),List.map_map]
 refine List.map_congr_left λa _=>?_
 by_cases e:a.1=z<;>simp [e]
theorem p5 (l:List (Str×α)) (z:Str):(dr l z).map (·.1)=(l.map (·.1)).filter λy=>decide (y≠z):=by
 unfold dr
 rw [List.filter_map];rfl
theorem rg {l:List (Str×α)}{z:Str}{x:α}{a:Str×α}(h:a∈pu l z x):a∈l\/a=(z,x):=by
 unfold pu at h
 split at h
 ·obtain ⟨b,hb,e⟩:=List.mem_map.mp h
  by_cases q:b.1=z
  ·rw [if_pos q] at e;exact .inr (by rw [<- e,q])
  ·rw [if_neg q] at e;exact .inl (e ▸ hb)
 ·rcases List.mem_append.mp h with h|h
  ·exact .inl h
  ·exact .inr (List.mem_singleton.mp h)
theorem rh (f:α->T) (l:List (Str×α)):(kt f l).length=l.length:=by unfold kt;rw [List.length_map]
def wrt (m:Int×Int) (now:Int):Int:=m.1 / 2 ^ (now - m.2).toNat
def mkT (m:Int×Int):T:=.tup [.int m.1,.int m.2]
end As
open PySem
namespace Wm
end Wm
set_option maxRecDepth 100000
seal T2.QE T2.QT T2.QW T2.QA T2.QS T2.QSs T2.QG T2.QGs T2.QI T2.QTs T2.QO L2.PE L2.PT L2.PA L2.PS L2.PSs L2.PG L2.PGs L2.PI L2.PTs L2.PO L2.PW
namespace My
open PySem L2 T2
set_option hygiene false
local macro_rules
 | `(tactic|nofun)=>`(tactic|exact ⟨rfl,rfl,rfl,by decide +kernel,rfl,by decide +kernel,by decide +kernel⟩)
local macro_rules
 | `(tactic|subst_eqs)=>`(tactic|simp only [Option.isSome_none,Option.isSome_some,Bool.true_xor,Bool.false_xor,Bool.not_false,Bool.not_true])
local macro_rules
 | `(tactic|and_intros)=>`(tactic|simp only [List.set_cons_zero,List.set_cons_succ])
local macro_rules
 |`(tactic| ac_nf)=>`(tactic| simp only [b7,List.map_cons,List.map_nil,List.length_cons,List.length_nil,List.replicate,List.cons_append,List.nil_append,Nat.zero_add,Nat.reduceAdd,Nat.reduceSub])
local macro_rules
 |`(tactic| ac_rfl)=>`(tactic| (first|(with_reducible assumption)|with_reducible exact aK|exact (aO (by assumption)).trans (by assumption)|exact (aO (by assumption)).trans aK|exact (aO (Ne.symm (by assumption))).trans aK|exact (aO (Ne.symm (by assumption))).trans (by assumption)))
local macro_rules
 |`(tactic| infer_instance)=>`(tactic| (first|omega|(with_reducible assumption)|((with_reducible apply Int.emod_nonneg);omega)|((with_reducible apply Int.emod_lt_of_pos);omega)|(simp only [Int.reduceToNat,Int.reducePow];omega)|(simp only [PySem.Str.length_append];omega)|(simp only [List.length_range,List.length_map];omega)))
local macro_rules
 |`(tactic| contradiction)=>`(tactic| (first|(simp only [PySem.sizeLine_eq,PySem.Str.length_append,Tm.y9,Tm.jU,Tm.fP];omega)|(rw [PySem.sizeLine_eq];omega)|(rw [PySem.sizeLine_eq];decide)))
local macro_rules
 |`(tactic| bv_omega)=>`(tactic| (repeat (first
   |(with_reducible first|apply Dq|apply A8|apply Ba|apply Ds|apply Du|apply Dv|apply Ff|apply yO|apply Bb|apply Dy|apply i_C|apply i_2|apply i_B|apply Fi|apply yP|apply Dz|apply Fj|apply DA|apply Bc|apply Be|apply DB|apply Bf|apply DC|apply DD|apply Bg|apply Bi|apply Fk|apply Fl|apply DE|apply Fm|apply Fn|apply Fo|apply Bj|apply Bk|apply Fp|apply DF|apply Fq|apply DG|apply Bl|apply DK|apply DL|apply DM|apply DN|apply DO|apply D8|apply sB|apply DT|apply Br|apply Bs|apply Bt|apply xf|apply DY|apply DZ|apply D6|apply ifT|apply ifF|apply Ft|apply Fu)
   |((with_reducible apply Ci);(infer_instance;intro z))
   |((with_reducible apply EG);(skip))
   |((with_reducible apply Cj);(ac_rfl;(with_reducible assumption);intro z o' hzw hbx))
   |((with_reducible apply Fy);(skip))
   |((with_reducible apply jh);(rfl;first|exact T.ss))
   |((with_reducible apply zN);(infer_instance;infer_instance;(with_reducible assumption);intro r o' hr0 hr1 hbx))
   |((with_reducible apply Ck);(infer_instance;infer_instance;ac_rfl;(with_reducible assumption);intro r o' hr0 hr1 hbx))
   |((with_reducible apply Cl);(infer_instance))
   |((with_reducible apply zO);(infer_instance))
   |((with_reducible apply Cn);(infer_instance))
   |((with_reducible apply xQ);(skip))
   |((with_reducible apply Er);(ac_rfl))
   |((with_reducible apply FA);(ac_rfl))
   |((with_reducible apply xq);(ac_rfl;(simp only [List.length_cons,List.length_nil];decide)))
   |((with_reducible apply zd);(ac_rfl;rfl;rfl))
   |((with_reducible apply qM);(ac_rfl;rfl;(simp only [List.length_cons,List.length_nil];decide)))
   |((with_reducible apply El);(ac_rfl;rfl;rfl))
   |((with_reducible apply BI);(ac_rfl;rfl;rfl))
   |((with_reducible apply Em);(skip))
   |((with_reducible apply Fz);(skip))
   |((with_reducible apply BL);(skip))
   |((with_reducible apply Eo);(skip))
   |((with_reducible apply En);(skip))
   |((with_reducible apply zc);(skip))
   |((with_reducible apply BJ);(skip))
   |((with_reducible apply Ek);(skip))
   |((with_reducible apply BH);(skip))
   |((with_reducible apply Eu);(skip))
   |((with_reducible apply ED);(skip))
   |((with_reducible apply zr);(skip))
   |((with_reducible apply zw);(skip))
   |((with_reducible apply BT);(skip))
   |((with_reducible apply tX);(skip))
   |((with_reducible apply qT);(skip))
   |((with_reducible apply EE);(skip))
   |((with_reducible apply BG);(skip))
   |((with_reducible apply i_V);(rfl))
   |((with_reducible apply Dx);(((try and_intros);rfl)))
   |((with_reducible apply Fh);(rfl))
   |((with_reducible apply sy);(rfl))
   |((with_reducible apply DP);(rfl))
   |((with_reducible apply DQ);(ac_rfl;rfl))
   |((with_reducible apply yQ);(rfl;(simp only [List.length_cons,List.length_nil];decide);((try and_intros);rfl)))
   |((with_reducible apply Bp);(ac_rfl;rfl;(simp only [List.length_cons,List.length_nil];decide);((try and_intros);rfl)))
   |((with_reducible apply DI);(infer_instance))
   |((with_reducible apply DH);(infer_instance;infer_instance))
   |((with_reducible apply Bn);(first|exact .inl ⟨by first|omega|decide,by first|omega|decide⟩|exact .inr ⟨by first|omega|decide,by first|omega|decide⟩))
   |((with_reducible apply DJ);(infer_instance))
   |((with_reducible apply Bm);(contradiction))
   |((with_reducible apply DS);(contradiction))
   |((with_reducible apply Bq);(contradiction))
   |((with_reducible apply yX);(contradiction))
   |((with_reducible apply yV);(decide;infer_instance))
   |((with_reducible apply D9);(infer_instance;infer_instance))
   |((with_reducible apply Bw);(ac_rfl))
   |((with_reducible apply yY);(ac_rfl))
   |((with_reducible apply Bo);(ac_rfl;infer_instance;infer_instance;intro z hz ez))
   |((with_reducible apply Bu);(contradiction;infer_instance;infer_instance;intro d hd ed))
   |((with_reducible apply DU);(ac_rfl))
   |((with_reducible apply D0);(ac_rfl))
   |((with_reducible apply D7);(ac_rfl))
   |((with_reducible apply yU);(ac_rfl))
   |((with_reducible apply Fs (n:=0));((first|decide|(simp only [List.length_cons,List.length_nil];decide)))))))
set_option hygiene true
open Rk S6 As
structure Zs where
 (N T A E B1 B2 B3 B4 B5:Addr)
abbrev vv0:List Str:=["self","word"]
abbrev vv1:List Str:=["_law_box_here","_law_many"]
abbrev vv2:List Str:=["_law_wood","_law_standing","_law_words","_law_box_here"]
abbrev vv3:List Str:=["self","beginning"]
abbrev vv4:List Str:=["self","word","count"]
abbrev vv5:List Str:=["_law_box_here"]
abbrev vv6:List Str:=["mark","era"]
abbrev vv7:List Str:=["self","word","times"]
abbrev vv8:List Str:=["_law_wood","_law_words","_law_thing"]
abbrev vv9:List Str:=["_law_wood","_law_way","_law_thing"]
abbrev hZ:List Str:=["self","beginning","many"]
abbrev fN:List Str:=["mark","era","times"]
abbrev h7:List Str:=["_law_script","_law_k"]
abbrev vv13:List Str:=["word","mark","self","beginning"]
abbrev vv14:List Str:=["word","mark","beginning"]
abbrev h8:List Str:=["self","times"]
abbrev ie:List Str:=["rated","many"]
structure Txt (K:PySem.W.Frag) (mg:Str->Option Value) (C:Addr) (Z:Zs):Prop where
 len:mg "len"=none
 range:mg "range"=none
 all:mg "all"=none
 max:mg "max"=none
 min:mg "min"=none
 sorted:mg "sorted"=none
 isinstance:mg "isinstance"=none
 str:mg "str"=none
 list:mg "list"=none
 int:mg "int"=none
 ValueError:mg "ValueError"=none
 ss:PySem.W.kitOne K (.type "str") (.type "str")=some true
 ns:PySem.W.kitOne K (.type "NoneType") (.type "str")=some false
 bs:PySem.W.kitOne K (.type "bool") (.type "str")=some false
 is:PySem.W.kitOne K (.type "int") (.type "str")=some false
 ls:PySem.W.kitOne K (.type "list") (.type "str")=some false
 ts:PySem.W.kitOne K (.type "tuple") (.type "str")=some false
 c_MOST_SIGNS:∃ tk,mg "MOST_SIGNS"=some (.int 24 tk)
 c_MOST_PARTS:∃ tk,mg "MOST_PARTS"=some (.int 4 tk)
 c_MOST_LETTERS:∃ tk,mg "MOST_LETTERS"=some (.int 12 tk)
 mg_Wood:mg "Wood"=some (.ref C)
 cl:Cls K C
 nm:bF K C "marks"
 nn:bF K C "now"
 mg_NoWord:mg "NoWord"=some (.ref Z.N)
 mg_Twice:mg "Twice"=some (.ref Z.T)
 mg_Absent:mg "Absent"=some (.ref Z.A)
 mg_AheadError:mg "AheadError"=some (.ref Z.E)
 mg_Beside:mg "Beside"=some (.ref Z.B1)
 mg_NoChoice:mg "NoChoice"=some (.ref Z.B2)
 mg_NoRow:mg "NoRow"=some (.ref Z.B3)
 mg_NoSign:mg "NoSign"=some (.ref Z.B4)
 mg_NoText:mg "NoText"=some (.ref Z.B5)
 x_NoWord:b8 K Z.N none=true
 k_NoWord:PySem.W.keepIn K (.ref Z.N)=true
 c_NoWord:dk K Z.N=true
 e_NoWord:PySem.W.exmOne K (.ref Z.N) (.ref Z.E)=some true
 x_Twice:b8 K Z.T none=true
 k_Twice:PySem.W.keepIn K (.ref Z.T)=true
 c_Twice:dk K Z.T=true
 e_Twice:PySem.W.exmOne K (.ref Z.T) (.ref Z.E)=some true
 x_Absent:b8 K Z.A none=true
 k_Absent:PySem.W.keepIn K (.ref Z.A)=true
 c_Absent:dk K Z.A=true
 e_Absent:PySem.W.exmOne K (.ref Z.A) (.ref Z.E)=some true
 knn:PySem.W.kitOne K (.ref Z.N) (.ref Z.N)=some true
 knt:PySem.W.kitOne K (.ref Z.N) (.ref Z.T)=some false
 kna:PySem.W.kitOne K (.ref Z.N) (.ref Z.A)=some false
 knb1:PySem.W.kitOne K (.ref Z.N) (.ref Z.B1)=some false
 knb2:PySem.W.kitOne K (.ref Z.N) (.ref Z.B2)=some false
 knb3:PySem.W.kitOne K (.ref Z.N) (.ref Z.B3)=some false
 knb4:PySem.W.kitOne K (.ref Z.N) (.ref Z.B4)=some false
 knb5:PySem.W.kitOne K (.ref Z.N) (.ref Z.B5)=some false
 ktn:PySem.W.kitOne K (.ref Z.T) (.ref Z.N)=some false
 ktt:PySem.W.kitOne K (.ref Z.T) (.ref Z.T)=some true
 kta:PySem.W.kitOne K (.ref Z.T) (.ref Z.A)=some false
 ktb1:PySem.W.kitOne K (.ref Z.T) (.ref Z.B1)=some false
 ktb2:PySem.W.kitOne K (.ref Z.T) (.ref Z.B2)=some false
 ktb3:PySem.W.kitOne K (.ref Z.T) (.ref Z.B3)=some false
 ktb4:PySem.W.kitOne K (.ref Z.T) (.ref Z.B4)=some false
 ktb5:PySem.W.kitOne K (.ref Z.T) (.ref Z.B5)=some false
 kan:PySem.W.kitOne K (.ref Z.A) (.ref Z.N)=some false
 kat:PySem.W.kitOne K (.ref Z.A) (.ref Z.T)=some false
 kaa:PySem.W.kitOne K (.ref Z.A) (.ref Z.A)=some true
 kab1:PySem.W.kitOne K (.ref Z.A) (.ref Z.B1)=some false
 kab2:PySem.W.kitOne K (.ref Z.A) (.ref Z.B2)=some false
 kab3:PySem.W.kitOne K (.ref Z.A) (.ref Z.B3)=some false
 kab4:PySem.W.kitOne K (.ref Z.A) (.ref Z.B4)=some false
 kab5:PySem.W.kitOne K (.ref Z.A) (.ref Z.B5)=some false
 vn:PySem.W.kitOne K (.ref Z.N) (.type "ValueError")=some true
 vt:PySem.W.kitOne K (.ref Z.T) (.type "ValueError")=some true
 va:PySem.W.kitOne K (.ref Z.A) (.type "ValueError")=some true
section
variable {P:Program}{w:World}{K:PySem.W.Frag}{mg:Str->Option Value}{base:Heap}{C:Addr}{Z:Zs}
theorem Txt.gm (T:Txt K mg C Z):∀ c,c=C->Cls K c/\bF K c "marks":=λc e=>by subst e;exact ⟨T.cl,T.nm⟩
theorem Txt.gn (T:Txt K mg C Z):∀ c,c=C->Cls K c/\bF K c "now":=λc e=>by subst e;exact ⟨T.cl,T.nn⟩
theorem Txt.gf (T:Txt K mg C Z){m:Str}{f:Addr}(h:Meth K C m f):∀ c,c=C->Cls K c/\Meth K c m f:=λc e=>by subst e;exact ⟨T.cl,h⟩
def GX (Z:Zs) (c:Addr):Prop:=c=Z.N\/c=Z.T\/c=Z.A
theorem Txt.gx (T:Txt K mg C Z):∀ c,GX Z c->XC K c:=λc e=>by
 rcases e with rfl|rfl|rfl
 ·exact .of T.c_NoWord
 ·exact .of T.c_Twice
 ·exact .of T.c_Absent
def aW (o:O):Prop:=∃ a b c d:Int,o=.lst [.int a,.int b,.int c,.int d]
def dc:WSp:=λts S Q=>∃ p m o,ts=[.ref p,.int m]/\0<m/\m<18446744073709551616/\S p=some o/\aW o/\∀ r o',0<=r->r<m->aW o'->Q (.int r) (put S p o')
theorem Ck {S:Sto}{Q:T->Sto->Prop}{p:Addr}{m:Int}{o:O}(h1:0<m) (h2:m<18446744073709551616) (e:S p=some o) (f:aW o) (h:∀ r o',0<=r->r<m->aW o'->Q (.int r) (put S p o')) :
  dc ([.ref p,.int m]++[]) S Q:=⟨p,m,o,rfl,h1,h2,e,f,h⟩
theorem zN {S:Sto}{Q:T->Sto->Prop}{p:Addr}{m:Int}{o:O}(h1:0<m) (h2:m<18446744073709551616) (f:aW o) (h:∀ r o',0<=r->r<m->aW o'->Q (.int r) (put S p o')) :
  dc ([.ref p,.int m]++[]) (put S p o) Q:=⟨p,m,o,rfl,h1,h2,aK,f,λr o' a b c=>by rw [dD];exact h r o' a b c⟩
theorem nA:FnScope ["_law_box_here","_law_many","_law_found"] vv1 (aj eC):=by nofun
theorem zP {f:Addr}{fd:FuncData}(F:Fun K "_law_take" "_law_take" eC f fd):FnOk P w K mg base CX0 1 f fd vv1 (lSp K dc):=by
 refine bg F nA (λts S Q h=>?_) λcdv A outer s H E hr=>?_
 ·obtain ⟨p,m,o,rfl,_⟩:=h;rfl
 have nd:=nA.nd
 refine ⟨_,((am (dR (λh g=>dH h g) (aB (aV false) (aU rfl (aa 0) ag (λ_ _=>rfl)) ag) (dL (aa 0) ag (gr 2) (λh1 h2 h3=>dG h1 h2 h3)))
   (am (aI (gS (rS (aC (aX rfl hr.units) (aU rfl (aa 0) ag (λ_ _=>rfl)) ag (aH _)) (qk (w4 dW dW (je ag) (aU rfl (aa 0) ag (λ_ _=>rfl)) ag))))
    (am (dR (λh g=>dH h g) (aU rfl (aa 0) ag (λ_ _=>rfl)) (dL (aa 0) ag (gr 0) (λh1 h2 h3=>dG h1 h2 h3)))
   (al (dR (λh g=>dH h g) ag (dL (aa 0) ag (gr 1) (λh1 h2 h3=>dG h1 h2 h3)))))
    aJ)
   (am (aI (aC (aX rfl hr.units) (aU rfl (aa 0) ag (λ_ _=>rfl)) ag (aH _))
    (am (aG (i:=2) nd rfl (Or.inl rfl) (aB fD (aU rfl (aa 0) ag (λ_ _=>rfl)) (aa 1)))
   (am (dR (λh g=>dH h g) (aB lN (aU rfl (aa 0) ag (λ_ _=>rfl)) (aa 1)) (dL (aa 0) ag (gr 0) (λh1 h2 h3=>dG h1 h2 h3)))
   (al (aE (aa 2)))))
    aJ)
   (am (dR (λh g=>dH h g) (aB fD (aB (aV false) (aB (aV false) (aB (lP false) (aB fD (aU rfl (aa 0) ag (λ_ _=>rfl)) ag) ag) (aB (lP false) ag (aU rfl (aa 0) ag (λ_ _=>rfl)))) ag) ag) (dL (aa 0) ag (gr 0) (λh1 h2 h3=>dG h1 h2 h3)))
   (al (aE (aB fD (aB lN (aB fD (aB (lP false) (aU rfl (aa 0) ag (λ_ _=>rfl)) ag) ag) ag) (aa 1))))))))),λts S Q h=>?_⟩
 obtain ⟨p,m,o,rfl,h1,h2,hp,⟨a,b,c,d,rfl⟩,hq⟩:=h
 ac_nf
 refine cH (λσ' S'=>σ'=[some (.ref p),some (.int m),none]/\S'=put S p (.lst [.int a,.int b,.int (c+1),.int d])) ?_ ?_
 ·intro X hX
  bv_omega
  exact hX _ _ ⟨rfl,rfl⟩
 rintro σ' S' ⟨rfl,rfl⟩
 refine cH (λσ' S'=>σ'=[some (.ref p),some (.int m),none]/\∃ o',aW o'/\S'=put S p o') ?_ ?_
 ·intro X hX
  (bv_omega;repeat' ((with_reducible refine ifB ?_ ?_)<;>(intro hb;(try simp only [Bool.false_xor,Bool.true_xor,Bool.not_eq_true',Bool.not_eq_false',Bool.not_eq_true,Bool.not_eq_false,Bool.not_not,decide_eq_true_eq,decide_eq_false_iff_not,Int.not_lt,Int.not_le,Bool.not_true,Bool.not_false] at hb);bv_omega)))
  all_goals exact hX _ _ ⟨rfl,_,⟨_,_,_,_,rfl⟩,rfl⟩
 ·rintro σ' S' ⟨rfl,o',⟨a,b,c,d,rfl⟩,rfl⟩
  (bv_omega;repeat' ((with_reducible refine ifB ?_ ?_)<;>(intro hb;(try simp only [Bool.false_xor,Bool.true_xor,Bool.not_eq_true',Bool.not_eq_false',Bool.not_eq_true,Bool.not_eq_false,Bool.not_not,decide_eq_true_eq,decide_eq_false_iff_not,Int.not_lt,Int.not_le,Bool.not_true,Bool.not_false] at hb);bv_omega)))
  all_goals exact .mk (hq _ _ (Int.emod_nonneg _ (by omega)) (Int.emod_lt_of_pos _ h1) ⟨_,_,_,_,rfl⟩)
def jc:WSp:=λts S Q=>∃ c:Int,ts=[.int c]/\∀ p o,S p=none->aW o->Q (.ref p) (put S p o)
theorem sN {S:Sto}{Q:T->Sto->Prop}{c:Int}(h:∀ p o,S p=none->aW o->Q (.ref p) (put S p o)):jc ([.int c]++[]) S Q:=⟨c,rfl,h⟩
theorem nR:FnScope ["_law_cell"] ["_law_cell"] (aj eK):=by nofun
theorem Co {f:Addr}{fd:FuncData}(F:Fun K "_law_box" "_law_box" eK f fd):FnOk P w K mg base CX0 1 f fd ["_law_cell"] (lSp K jc):=by
 refine bg F nR (λts S Q h=>?_) λcdv A outer s H E hr=>?_
 ·obtain ⟨c,rfl,_⟩:=h;rfl
 have nd:=nR.nd
 refine ⟨_,((al (aE (iX (ae (aB lN (aa 0) ag) (ae (aB fD (aa 0) ag) (ae ag (ae (aa 0) af (ac rfl)) (ac rfl)) (ac rfl)) (ac rfl)))))),λts S Q h=>?_⟩
 obtain ⟨c,rfl,hq⟩:=h
 ac_nf
 bv_omega
 exact λp hp=>.mk (hq p _ hp ⟨_,_,_,_,rfl⟩)
def iU:WSp:=λts S Q=>∃ (ns:List Int) (k:Int),ts=[.scr ns,.int k]/\0<=k/\∀ z:Int,Q (.int z) S
theorem Ci {S:Sto}{Q:T->Sto->Prop}{ns:List Int}{k:Int}(h0:0<=k) (h:∀ z:Int,Q (.int z) S):iU ([.scr ns,.int k]++[]) S Q:=⟨ns,k,rfl,h0,h⟩
theorem mL:FnScope h7 h7 (aj d0):=by nofun
theorem zQ {f:Addr}{fd:FuncData}(F:Fun K "_law_cell_at" "_law_cell_at" d0 f fd) (T:Txt K mg C Z):FnOk P w K mg base CX0 1 f fd h7 (lSp K iU):=by
 refine bg F mL (λts S Q h=>?_) λcdv A outer s H E hr=>?_
 ·obtain ⟨ns,k,rfl,_⟩:=h;rfl
 have nd:=mL.nd
 refine ⟨_,((am (aI (aC mw (aa 1) (aP (cc rfl) (by rfl) T.len PySem.boot_len (ae (aa 0) af (ac rfl))) (aH _))
    (al (aE (aU rfl (aa 0) (aa 1) (λ_ _=>rfl))))
    aJ)
   (al (aE ag)))),λts S Q h=>?_⟩
 obtain ⟨ns,k,rfl,h0,hq⟩:=h
 ac_nf
 (bv_omega;repeat' ((with_reducible refine ifB ?_ ?_)<;>(intro hb;(try simp only [Bool.false_xor,Bool.true_xor,Bool.not_eq_true',Bool.not_eq_false',Bool.not_eq_true,Bool.not_eq_false,Bool.not_not,decide_eq_true_eq,decide_eq_false_iff_not,Int.not_lt,Int.not_le,Bool.not_true,Bool.not_false] at hb);bv_omega)))
 ·refine DV h0 hb λz _ _=>?_
  bv_omega
  exact .mk (hq _)
 ·exact .mk (hq _)
def kj:WSp:=λts S Q=>∃ c:Nat,ts=[.str ⟨#[c]⟩]/\Q (.bl (Sc.isL c)) S
theorem xQ {S:Sto}{Q:T->Sto->Prop}{c:Nat}(h:Q (.bl (Sc.isL c)) S):kj ([.str ⟨#[c]⟩]++[]) S Q:=⟨c,rfl,h⟩
theorem m5:FnScope ["sign"] ["sign"] (aj d5):=by nofun
theorem v7 {f:Addr}{fd:FuncData}(F:Fun K "is_letter" "is_letter" d5 f fd):FnOk P w K mg base CX0 1 f fd ["sign"] (lSp K kj):=by
 refine bg F m5 (λts S Q h=>?_) λcdv A outer s H E hr=>?_
 ·obtain ⟨c,rfl,_⟩:=h;rfl
 have nd:=m5.nd
 refine ⟨_,((al (aE (pB dW dW aN (aa 0) aN)))),λts S Q h=>?_⟩
 obtain ⟨c,rfl,hq⟩:=h
 rw [<- Wm.Cd] at hq
 ac_nf
 bv_omega
 refine ifB (λhb=>?_) λhb=>?_
 ·bv_omega
  rw [hb,Bool.true_and] at hq
  exact .mk hq
 ·rw [hb,Bool.false_and] at hq
  exact .mk hq
def lj:WSp:=λts S Q=>∃ z:Str,ts=[.str z]/\z.length<=1000/\Q (.bl (Sc.isP (Tm.tl z))) S
theorem Cn {S:Sto}{Q:T->Sto->Prop}{z:Str}(h0:z.length<=1000) (h:Q (.bl (Sc.isP (Tm.tl z))) S):lj ([.str z]++[]) S Q:=⟨z,rfl,h0,h⟩
theorem nS:FnScope ["text"] ["text"] (aj eI):=by nofun
theorem zR {f f1:Addr}{fd fd1:FuncData}(F:Fun K "is_part" "is_part" eI f fd) (T:Txt K mg C Z) (G_is_letter:FnOk P w K mg base CX0 1 f1 fd1 ["sign"] (lSp K kj)) (D_is_letter:Df K mg "is_letter" f1 fd1 ["sign"]) :
  FnOk P w K mg base CX0 2 f fd ["text"] (lSp K lj):=by
 refine bg F nS (λts S Q h=>?_) λcdv A outer s H E hr=>?_
 ·obtain ⟨c,rfl,_⟩:=h;rfl
 have nd:=nS.nd
 refine ⟨_,((al (aE (qm (pB dW dW ag (aP (cc rfl) (by rfl) T.len PySem.boot_len (ae (aa 0) af (ac rfl))) (k9 (n:=12) (by rfl) T.c_MOST_LETTERS)) (rV (aP (sv rfl rfl) (by rfl) T.all PyProof.Rows.boot_all (ae (df false ["sign"] 1 [] rfl (kZ (aa 0)) (λ_ _ _ _=>(bq (i:=0) (show List.Nodup (["sign"]:List Str) from by decide +kernel) rfl (Or.inl rfl))) (λ_ _ _ _=>eT) (λ_ _ _ _=>(ay G_is_letter D_is_letter hr.m (by rfl) (ae (aa 0) af (ac rfl))))) af (ac rfl)))))))),λts S Q h=>?_⟩
 obtain ⟨z,rfl,hz,hq⟩:=h
 have e:Sc.isP (Tm.tl z)=(decide (1<=(z.length:Int))&&decide ((z.length:Int)<=12)&&(Tm.tl z).all Sc.isL):=by
  unfold Sc.isP
  rw [Tm.len]
  congr 1
  congr 1
  ·rw [Bool.eq_iff_iff];simp only [decide_eq_true_eq];omega
  ·rw [Bool.eq_iff_iff];simp only [decide_eq_true_eq];omega
 rw [e] at hq
 ac_nf
 bv_omega
 refine ifB (λhb=>?_) λhb=>?_
 ·rw [hb,Bool.true_and] at hq
  bv_omega
  refine ifB (λhb=>?_) λhb=>?_
  ·rw [hb,Bool.true_and] at hq
   bv_omega
   refine eM (ls:=Tm.tl z) (λc=>T2.T.str ⟨#[c]⟩) (λc=>some (.bl (Sc.isL c))) [] ?_ ?_ (λx hx u acc N hacc hN=>?_) ?_
   ·trivial
   ·rw [Tm.len,sizeLine_eq];omega
   ·bv_omega
    exact ⟨hacc,hN _⟩
   ·bv_omega
    refine qC (bs:=(Tm.tl z).map Sc.isL) (by rw [<- Wm.all_map,List.map_map];rw [Wm.gb];rfl) ?_
    rw [List.all_map]
    exact .mk hq
  ·rw [hb,Bool.false_and] at hq
   exact .mk hq
 ·rw [hb,Bool.false_and,Bool.false_and] at hq
  bv_omega
  exact .mk hq
def jq (t:T2.T):Prop:=t=.non\/(∃ b,t=.bl b)\/(∃ i,t=.int i)\/(∃ l,t=.lst l)\/∃ l,t=.tup l
def eP:WSp:=λts S Q=>∃ t,ts=[t]/\((∃ z:Str,t=.str z/\z.length<=1000/\Q (.bl (Wm.Wd z)) S)\/jq t/\Q (.bl false) S)
theorem km {t:T2.T}{S:Sto}(T:Txt K mg C Z) (h:jq t):∃ v,tyT S t=some v/\PySem.W.kitOne K v (.type "str")=some false:=by
 rcases h with rfl|⟨b,rfl⟩|⟨i,rfl⟩|⟨l,rfl⟩|⟨l,rfl⟩
 ·exact ⟨_,rfl,T.ns⟩
 ·exact ⟨_,rfl,T.bs⟩
 ·exact ⟨_,rfl,T.is⟩
 ·exact ⟨_,rfl,T.ls⟩
 ·exact ⟨_,rfl,T.ts⟩
theorem nU:FnScope ["thing","parts"] ["thing"] (aj eJ):=by nofun
theorem v9 {f f1:Addr}{fd fd1:FuncData}(F:Fun K "is_word" "is_word" eJ f fd) (T:Txt K mg C Z) (G_is_part:FnOk P w K mg base CX0 2 f1 fd1 ["text"] (lSp K lj)) (D_is_part:Df K mg "is_part" f1 fd1 ["text"]) :
  FnOk P w K mg base CX0 3 f fd ["thing"] (lSp K eP):=by
 refine bg F nU (λts S Q h=>?_) λcdv A outer s H E hr=>?_
 ·obtain ⟨c,rfl,_⟩:=h;rfl
 have nd:=nU.nd
 refine ⟨_,((am (aI (gS (jx (dJ (cj (aP (lQ rfl) (by rfl) T.isinstance PyProof.Rows.boot_isinstance (ae (aa 0) (ae (jB (n:="str") (by rfl) T.str PyProof.Rows.boot_str) af (ac rfl)) (ac rfl))))) (lJ (aC mB (aP (cc rfl) (by rfl) T.len PySem.boot_len (ae (aa 0) af (ac rfl))) (k9 (n:=24) (by rfl) T.c_MOST_SIGNS) (aH _)))))
    (al (aE cI))
    aJ)
   (am (aG (i:=1) nd rfl (Or.inl rfl) (bo rfl PySem.F.plainAttrs_str PySem.F.slot_str_split PySem.F.type_str_split (pJ false) (aa 0) (ae aN af (ac rfl)) (λh1 h2 h3=>bj PySem.F.plainAttrs_str PySem.F.slot_str_split PySem.F.type_str_split h2 h1 h3)))
   (al (aE (qm (dQ dW (aP (cc rfl) (by rfl) T.len PySem.boot_len (ae (aa 1) af (ac rfl))) (k9 (n:=4) (by rfl) T.c_MOST_PARTS) (aH _)) (rV (aP (sv rfl rfl) (by rfl) T.all PyProof.Rows.boot_all (ae (df false ["part"] 1 [] rfl (eS rfl (aa 1)) (λ_ _ _ _=>(bq (i:=0) (show List.Nodup (["part"]:List Str) from by decide +kernel) rfl (Or.inl rfl))) (λ_ _ _ _=>eT) (λ_ _ _ _=>(ay G_is_part D_is_part hr.m (by rfl) (ae (aa 0) af (ac rfl))))) af (ac rfl)))))))))),λts S Q h=>?_⟩
 obtain ⟨t,rfl,h⟩:=h
 ac_nf
 rcases h with ⟨z,rfl,hz,hq⟩|⟨hn,hq⟩
 ·unfold Wm.Wd at hq
  bv_omega
  refine ifB (λhb=>?_) λhb=>?_
  ·bv_omega
   have hb:=of_decide_eq_true hb
   rw [decide_eq_false (by omega),Bool.false_and] at hq
   exact .mk hq
  ·have hb:=of_decide_eq_false hb
   rw [decide_eq_true (by omega),Bool.true_and,Wm.nQ] at hq
   have hsl:=PyProof.Rows.split_le z " "
   bv_omega
   refine ifB (λhb=>?_) λhb=>?_
   ·have hb:=of_decide_eq_true hb
    rw [decide_eq_true (by omega),Bool.true_and] at hq
    bv_omega
    refine eM (ls:=Txt.split z " ") T2.T.str (λp=>some (.bl (Sc.isP (Tm.tl p)))) [] ?_ ?_ (λx hx u acc N hacc hN=>?_) ?_
    ·trivial
    ·rw [sizeLine_eq];omega
    ·have hxl:=Tm.ow hx
     bv_omega
     exact ⟨hacc,hN _⟩
    ·bv_omega
     refine qC (bs:=(Txt.split z " ").map λp=>Sc.isP (Tm.tl p)) (by rw [<- Wm.all_map,List.map_map];rw [Wm.gb];rfl) ?_
     rw [List.all_map]
     exact .mk hq
   ·have hb:=of_decide_eq_false hb
    rw [decide_eq_false (by omega),Bool.false_and] at hq
    exact .mk hq
 ·obtain ⟨v,hv1,hv2⟩:=km (S:=S) T hn
  bv_omega
  refine jh hv1 hv2 ?_
  bv_omega
  exact .mk hq
def dC:WSp:=λts S Q=>∃ (m:Int×Int) (era:Int),ts=[mkT m,.int era]/\m.2<=era/\Q (.int (wrt m era)) S
theorem zO {S:Sto}{Q:T->Sto->Prop}{m:Int×Int}{era:Int}(h0:m.2<=era) (h:Q (.int (wrt m era)) S):dC ([mkT m,.int era]++[]) S Q:=⟨m,era,rfl,h0,h⟩
theorem nB:FnScope vv6 vv6 (aj eg):=by nofun
theorem xR {f:Addr}{fd:FuncData}(F:Fun K "worth_at" "worth_at" eg f fd):FnOk P w K mg base CX0 1 f fd vv6 (lSp K dC):=by
 refine bg F nB (λts S Q h=>?_) λcdv A outer s H E hr=>?_
 ·obtain ⟨m,era,rfl,_⟩:=h;rfl
 have nd:=nB.nd
 refine ⟨_,((al (aE (aB Dk (aU rfl (aa 0) ag (λ_ _=>rfl)) (aB Dj (aa 1) (aU rfl (aa 0) ag (λ_ _=>rfl))))))),λts S Q h=>?_⟩
 obtain ⟨m,era,rfl,h0,hq⟩:=h
 ac_nf
 unfold mkT
 bv_omega
 exact .mk hq
def iV:WSp:=λts S Q=>∃ (m:Int×Int) (era n:Int),ts=[mkT m,.int era,.int n]/\m.2<=era/\Q (mkT (wrt m era+n,era)) S
theorem Cl {S:Sto}{Q:T->Sto->Prop}{m:Int×Int}{era n:Int}(h0:m.2<=era) (h:Q (mkT (wrt m era+n,era)) S):iV ([mkT m,.int era,.int n]++[]) S Q:=⟨m,era,n,rfl,h0,h⟩
theorem m6:FnScope fN fN (aj d6):=by nofun
theorem zS {f f1:Addr}{fd fd1:FuncData}(F:Fun K "used_mark" "used_mark" d6 f fd) (G_worth_at:FnOk P w K mg base CX0 1 f1 fd1 vv6 (lSp K dC)) (D_worth_at:Df K mg "worth_at" f1 fd1 vv6):FnOk P w K mg base CX0 2 f fd fN (lSp K iV):=by
 refine bg F m6 (λts S Q h=>?_) λcdv A outer s H E hr=>?_
 ·obtain ⟨m,era,n,rfl,_⟩:=h;rfl
 have nd:=m6.nd
 refine ⟨_,((al (aE (gG (ae (aB (aV false) (ay G_worth_at D_worth_at hr.m (by rfl) (ae (aa 0) (ae (aa 1) af (ac rfl)) (ac rfl))) (aa 2)) (ae (aa 1) af (ac rfl)) (ac rfl)))))),λts S Q h=>?_⟩
 obtain ⟨m,era,n,rfl,h0,hq⟩:=h
 ac_nf
 bv_omega
 exact .mk hq
abbrev Ms:=List (Str×Int×Int)
structure Wo (C:Addr) (S:Sto) (p d:Addr) (n:Int) (ms:Ms):Prop where
 ins:S p=some (.ins C [("marks",.ref d),("now",.int n)])
 dct:S d=some (.dK (kt mkT ms))
theorem Wo.ne {S:Sto}{p d:Addr}{n:Int}{ms:Ms}(h:Wo C S p d n ms):p≠d:=λe=>by
 have:=h.ins
 rw [e,h.dct] at this;cases this
theorem Wo.other {S:Sto}{p d a:Addr}{n:Int}{ms:Ms}{o:O}(h:Wo C S p d n ms) (h1:a≠p) (h2:a≠d):Wo C (T2.put S a o) p d n ms:=⟨(aO (Ne.symm h1)).trans h.ins,(aO (Ne.symm h2)).trans h.dct⟩
def rj (C:Addr):WSp:=λts S Q=>∃ p,ts=[.ref p]/\S p=some (.ins C [])/\∀ d,S d=none->Q .non (put (put S d (.dK [])) p (.ins C [("marks",.ref d),("now",.int 0)]))
theorem m7:FnScope ["self"] ["self"] (aj cN):=by nofun
theorem zT {f:Addr}{fd:FuncData}(F:FunD K "__init__" "Wood.__init__" cN f fd) (T:Txt K mg C Z):FnOk P w K mg base CX0 1 f fd ["self"] (lSp K (rj C)):=by
 refine bW F m7 (λts S Q h=>?_) λcdv A outer s H E hr=>?_
 ·obtain ⟨p,rfl,_⟩:=h;rfl
 have nd:=m7.nd
 refine ⟨_,((am (qt rfl T.gm (aa 0) BE)
   (al (qt rfl T.gn (aa 0) ag)))),λts S Q h=>?_⟩
 obtain ⟨p,rfl,hp,hq⟩:=h
 ac_nf
 bv_omega
 intro d hd
 have hne:p≠d:=λe=>by rw [e,hd] at hp;cases hp
 bv_omega
 refine qM aK rfl (Nat.le_of_ble_eq_true rfl) ?_
 rw [dD]
 exact .mk (hq d hd)
def gy (C:Addr):WSp:=λts S Q=>∃ p d n ms z m,ts=[.ref p,.str z]/\Wo C S p d n ms/\look ms z=some m/\Q (mkT m) S
theorem ll {S:Sto}{Q:T->Sto->Prop}{p d:Addr}{n:Int}{ms:Ms}{z:Str}{m:Int×Int}(h1:Wo C S p d n ms) (h2:look ms z=some m) (h:Q (mkT m) S):gy C ([.ref p,.str z]++[]) S Q:=⟨p,d,n,ms,z,m,rfl,h1,h2,h⟩
theorem ii:FnScope vv0 vv0 (aj cy):=by nofun
theorem zU {f:Addr}{fd:FuncData}(F:FunD K "mark_of" "Wood.mark_of" cy f fd) (T:Txt K mg C Z):FnOk P w K mg base CX0 1 f fd vv0 (lSp K (gy C)):=by
 refine bW F ii (λts S Q h=>?_) λcdv A outer s H E hr=>?_
 ·obtain ⟨p,d,n,ms,z,m,rfl,_⟩:=h;rfl
 have nd:=ii.nd
 refine ⟨_,((am (aI (aC (oQ w rfl) (aa 1) (bw rfl T.gm (aa 0)) (by with_unfolding_all rfl))
    (al iM)
    aJ)
   (al (aE (Eg w rfl (bw rfl T.gm (aa 0)) (aa 1) (λ_ _=>rfl)))))),λts S Q h=>?_⟩
 obtain ⟨p,d,n,ms,z,m,rfl,⟨hw,hd⟩,hm,hq⟩:=h
 have hv:bx (kt mkT ms) (Sum.inr z)=some (mkT m):=by rw [dN,hm];rfl
 ac_nf
 bv_omega
 refine gL hd rfl ?_
 rw [hv]
 subst_eqs
 bv_omega
 refine Ep hd rfl hv ?_
 exact .mk hq
def l9 (C:Addr):WSp:=λts S Q=>∃ p d n ms z c,ts=[.ref p,.str z,.int c]/\Wo C S p d n ms/\ms.length<=200/\Wm.Wd z=true/\look ms z=none/\Q .non (put S d (.dK (kt mkT (ms++[(z,c,n)]))))
theorem iq:FnScope vv4 vv4 (aj cC):=by nofun
theorem Cq {f f1:Addr}{fd fd1:FuncData}(F:FunD K "put" "Wood.put" cC f fd) (T:Txt K mg C Z) (G_is_word:FnOk P w K mg base CX0 3 f1 fd1 ["thing"] (lSp K eP)) (D_is_word:Df K mg "is_word" f1 fd1 ["thing"]):FnOk P w K mg base CX0 4 f fd vv4 (lSp K (l9 C)):=by
 refine bW F iq (λts S Q h=>?_) λcdv A outer s H E hr=>?_
 ·obtain ⟨p,d,n,ms,z,m,rfl,_⟩:=h;rfl
 have nd:=iq.nd
 refine ⟨_,((am (aI (dJ (cj (ay G_is_word D_is_word hr.m (by rfl) (ae (aa 1) af (ac rfl)))))
    (al iM)
    aJ)
   (am (aI (aC (l6 w rfl) (aa 1) (bw rfl T.gm (aa 0)) (by with_unfolding_all rfl))
    (al iM)
    aJ)
   (al (dR (λh g=>dH h g) (gG (ae (aa 2) (ae (bw rfl T.gn (aa 0)) af (ac rfl)) (ac rfl))) (dL (bw rfl T.gm (aa 0)) (aa 1) (qL (rO hr)) (λh1 h2 h3=>dG h1 h2 h3))))))),λts S Q h=>?_⟩
 obtain ⟨p,d,n,ms,z,c,rfl,⟨hw,hd⟩,hl,hz,hm,hq⟩:=h
 have hv:bx (kt mkT ms) (Sum.inr z)=none:=by rw [dN,hm];rfl
 have hzl:=Wm.dM hz
 ac_nf
 bv_omega
 refine ⟨_,rfl,.inl ⟨z,rfl,by omega,?_⟩⟩
 rw [hz]
 bv_omega
 refine gL hd rfl ?_
 rw [hv]
 subst_eqs
 bv_omega
 refine qN hd rfl (by rw [rh,sizeLine_eq];omega) ?_
 rw [show (T2.T.tup [.int c,.int n])=mkT (c,n) from rfl,re,Ch _ (b6.mp hm)]
 exact .mk hq
def sO (C:Addr):WSp:=λts S Q=>∃ p d n ms z c m,ts=[.ref p,.str z,.int c]/\Wo C S p d n ms/\ms.length<=200/\look ms z=some m/\m.2<=n/\Q .non (put S d (.dK (kt mkT (pu ms z (wrt m n+c,n)))))
theorem ir:FnScope vv7 vv7 (aj bR):=by nofun
theorem Cr {f f1 f2:Addr}{fd fd1 fd2:FuncData}(F:FunD K "use" "Wood.use" bR f fd) (T:Txt K mg C Z) (G_used_mark:FnOk P w K mg base CX0 2 f1 fd1 fN (lSp K iV)) (D_used_mark:Df K mg "used_mark" f1 fd1 fN)
  (G_Wood_mark_of:FnOk P w K mg base CX0 1 f2 fd2 vv0 (lSp K (gy C))) (M_Wood_mark_of:Meth K C "mark_of" f2) (B_Wood_mark_of:aq K fd2 vv0 []):FnOk P w K mg base CX0 3 f fd vv7 (lSp K (sO C)):=by
 refine bW F ir (λts S Q h=>?_) λcdv A outer s H E hr=>?_
 ·obtain ⟨p,d,n,ms,z,c,m,rfl,_⟩:=h;rfl
 have nd:=ir.nd
 refine ⟨_,((al (dR (λh g=>dH h g) (ay G_used_mark D_used_mark hr.m (by rfl) (ae (br (T.gf M_Wood_mark_of) G_Wood_mark_of B_Wood_mark_of hr.m (aa 0) (ae (aa 1) af (ac rfl))) (ae (bw rfl T.gn (aa 0)) (ae (aa 2) af (ac rfl)) (ac rfl)) (ac rfl))) (dL (bw rfl T.gm (aa 0)) (aa 1) (qL (rO hr)) (λh1 h2 h3=>dG h1 h2 h3))))),λts S Q h=>?_⟩
 obtain ⟨p,d,n,ms,z,c,m,rfl,⟨hw,hd⟩,hl,hm,hn,hq⟩:=h
 ac_nf
 bv_omega
 refine ll ⟨hw,hd⟩ hm ?_
 bv_omega
 refine qN hd rfl (by rw [rh,sizeLine_eq];omega) ?_
 rw [re]
 exact .mk hq
def o7 (C:Addr):WSp:=λts S Q=>∃ p d n ms z m,ts=[.ref p,.str z]/\Wo C S p d n ms/\look ms z=some m/\Q .non (put S d (.dK (kt mkT (dr ms z))))
theorem io:FnScope vv0 vv0 (aj cz):=by nofun
theorem wf {f f2:Addr}{fd fd2:FuncData}(F:FunD K "strike" "Wood.strike" cz f fd) (T:Txt K mg C Z)
  (G_Wood_mark_of:FnOk P w K mg base CX0 1 f2 fd2 vv0 (lSp K (gy C))) (M_Wood_mark_of:Meth K C "mark_of" f2) (B_Wood_mark_of:aq K fd2 vv0 []):FnOk P w K mg base CX0 2 f fd vv0 (lSp K (o7 C)):=by
 refine bW F io (λts S Q h=>?_) λcdv A outer s H E hr=>?_
 ·obtain ⟨p,d,n,ms,z,m,rfl,_⟩:=h;rfl
 have nd:=io.nd
 refine ⟨_,((am (a9 (br (T.gf M_Wood_mark_of) G_Wood_mark_of B_Wood_mark_of hr.m (aa 0) (ae (aa 1) af (ac rfl))))
   (al (a9 (bo rfl PySem.F.plainAttrs_dict PySem.F.slot_dict_pop PySem.F.type_dict_pop BD (bw rfl T.gm (aa 0)) (ae (aa 1) af (ac rfl)) (λh1 h2 h3=>bj PySem.F.plainAttrs_dict PySem.F.slot_dict_pop PySem.F.type_dict_pop h2 h1 h3)))))),λts S Q h=>?_⟩
 obtain ⟨p,d,n,ms,z,m,rfl,⟨hw,hd⟩,hm,hq⟩:=h
 have hv:bx (kt mkT ms) (Sum.inr z)=some (mkT m):=by rw [dN,hm];rfl
 ac_nf
 bv_omega
 refine ll ⟨hw,hd⟩ hm ?_
 bv_omega
 refine BM hd rfl hv ?_
 rw [zL]
 exact .mk hq
def rm (C:Addr):WSp:=λts S Q=>∃ p d n ms c,ts=[.ref p,.int c]/\Wo C S p d n ms/\Q .non (put S p (.ins C [("marks",.ref d),("now",.int (n+c))]))
theorem m8:FnScope h8 h8 (aj cO):=by nofun
theorem zV {f:Addr}{fd:FuncData}(F:FunD K "fade" "Wood.fade" cO f fd) (T:Txt K mg C Z):FnOk P w K mg base CX0 1 f fd h8 (lSp K (rm C)):=by
 refine bW F m8 (λts S Q h=>?_) λcdv A outer s H E hr=>?_
 ·obtain ⟨p,d,n,ms,c,rfl,_⟩:=h;rfl
 have nd:=m8.nd
 refine ⟨_,((al (vJ rfl T.gn (aa 0) (aa 1)))),λts S Q h=>?_⟩
 obtain ⟨p,d,n,ms,c,rfl,⟨hw,hd⟩,hq⟩:=h
 ac_nf
 bv_omega
 exact .mk hq
theorem eQ {S:Sto}{a:Addr}{o:O}(h:S a=some o):put S a o=S:=by
 funext b
 by_cases e:b=a
 ·subst e;rw [aK,h]
 ·rw [aO e]
theorem nV {α:Type}{grd:Sto->Prop}{g:WG}{tt:WT}{te:WE}{Q:List T2.T->Sto->Prop}(f:α->T2.T) (φ:α->Option T2.T) (cs:StT){ls:List α}{S:Sto}(hg:grd S) (hz:ls.length<=sizeLine)
  (step:∀ a∈ls,∀ (u v:Option T2.T) (acc:List T2.T) (N:List T2.T->StT->Sto->Prop),acc.length<sizeLine->(∀ u' v',N (acc++(φ a).toList) (u'::v'::cs) S) ->
   g (f a) (u::v::cs) S λσ2 S2=>tt σ2 S2 λb S3=>if b=true then te σ2 S3 λy S4=>acc.length<sizeLine/\N (acc++[y]) σ2 S4 else N acc σ2 S3)
  (done:Q (ls.filterMap φ) S):cU grd g tt te Q (ls.map f) [] (none::none::cs) S:=by
 refine jT (λitems acc σ' S'=>∃ pre suf u v,ls=pre++suf/\items=suf.map f/\acc=pre.filterMap φ/\σ'=u::v::cs/\S'=S) ⟨[],ls,none,none,rfl,rfl,rfl,rfl,rfl⟩ ?_ ?_
 ·rintro t ts acc σ' S' N ⟨pre,suf,u,v,e,e2,rfl,rfl,rfl⟩ hN
  cases suf with
  |nil=>cases e2
  |cons a r =>
   simp only [List.map_cons,List.cons.injEq] at e2
   obtain ⟨rfl,rfl⟩:=e2
   refine ⟨hg,step a (by rw [e];simp) u v _ N ?_ λu' v'=>hN _ _ _ ⟨pre++[a],r,u',v',by rw [e];simp,rfl,?_,rfl,rfl⟩⟩
   ·have h1:=List.length_filterMap_le φ pre
    have h2:ls.length=pre.length+(r.length+1):=by rw [e];simp
    omega
   ·rw [List.filterMap_append];cases h:φ a<;>simp [h]
 ·rintro acc σ' S' ⟨pre,suf,u,v,e,e2,rfl,rfl,rfl⟩
  have:suf=[]:=by cases suf with|nil=>rfl|cons _ _=>cases e2
  subst this
  rw [List.append_nil] at e
  subst e
  exact ⟨hg,done⟩
def bp (ms:Ms) (b:Str):Ms:=ms.filter λa=>PySem.Txt.startswith a.1 b
def rtd (ms:Ms) (n:Int) (b:Str):List Rt:=(bp ms b).map λa=>(a.1,wrt a.2 n)
theorem Cs {ms:Ms}{n:Int}{b:Str}(h:(ms.map (·.1)).Nodup):(rtd ms n b).Nodup:=by
 refine xP ?_
 unfold rtd bp
 rw [List.map_map]
 exact (List.Sublist.map _ (List.filter_sublist)).nodup h
theorem zW (ms:Ms) (n:Int) (b:Str):(rtd ms n b).length<=ms.length:=by
 unfold rtd bp
 rw [List.length_map];exact List.length_filter_le _ _
def kQ (C:Addr):WSp:=λts S Q=>∃ p d n ms b,ts=[.ref p,.str b]/\Wo C S p d n ms/\ms.length<=200/\(∀ a∈ms,a.2.2<=n)/\Q (.lst ((rtd ms n b).map rt)) S
theorem mS:FnScope vv3 vv3 (aj cL):=by nofun
theorem xS {f f1:Addr}{fd fd1:FuncData}(F:FunD K "begun" "Wood.begun" cL f fd) (T:Txt K mg C Z) (G_worth_at:FnOk P w K mg base CX0 1 f1 fd1 vv6 (lSp K dC)) (D_worth_at:Df K mg "worth_at" f1 fd1 vv6):FnOk P w K mg base CX0 2 f fd vv3 (lSp K (kQ C)):=by
 refine bW F mS (λts S Q h=>?_) λcdv A outer s H E hr=>?_
 ·obtain ⟨p,d,n,ms,b,rfl,_⟩:=h;rfl
 have nd:=mS.nd
 refine ⟨_,((al (aE (Eh w rfl (df false vv13 2 [0,1] rfl (pP w rfl rfl (bw rfl T.gm (aa 0))) (λ_ _ _ _=>(qp (λh=>pz (n:=2) rfl rfl h) (iC (bq (i:=0) (show List.Nodup (vv13:List Str) from by decide +kernel) rfl (Or.inl rfl)) (iC (bq (i:=1) (show List.Nodup (vv13:List Str) from by decide +kernel) rfl (Or.inl rfl)) pC (λh1 h2=>iA h1 h2)) (λh1 h2=>iA h1 h2)))) (λ_ _ _ _=>(kE (cj (bo rfl PySem.F.plainAttrs_str PySem.F.slot_str_startswith PySem.F.type_str_startswith oO (aa 0) (ae (aa 3) af (ac rfl)) (λh1 h2 h3=>bj PySem.F.plainAttrs_str PySem.F.slot_str_startswith PySem.F.type_str_startswith h2 h1 h3))))) (λ_ _ _ _=>(gG (ae (aa 0) (ae (ay G_worth_at D_worth_at hr.m (by rfl) (ae (aa 1) (ae (bw rfl T.gn (aa 2)) af (ac rfl)) (ac rfl))) af (ac rfl)) (ac rfl))))))))),λts S Q h=>?_⟩
 obtain ⟨p,d,n,ms,b,rfl,W,hl,hn,hq⟩:=h
 have hw:=W.ins
 have hd:=W.dct
 have hpd:=W.ne
 ac_nf
 bv_omega
 intro od kvs
 rw [show (kt mkT ms).map gK=ms.map (λa=>T2.T.tup [.str a.1,mkT a.2]) by unfold kt;rw [List.map_map];rfl]
 refine nV (λa:Str×Int×Int=>T2.T.tup [.str a.1,mkT a.2]) (λa=>if PySem.Txt.startswith a.1 b=true then some (rt (a.1,wrt a.2 n)) else none) [some (.ref p),some (.str b)] aK (by rw [sizeLine_eq];omega) (λa ha u v acc N hacc hN=>?_) ?_
 ·have hn1:=hn a ha
  bv_omega
  refine ifB (λhb=>?_) λhb=>?_
  ·bv_omega
   rw [if_pos hb] at hN
   exact ⟨hacc,hN _ _⟩
  ·rw [hb] at hN
   have:=hN (some (.str a.1)) (some (mkT a.2))
   rw [if_neg (by decide),Option.toList_none,List.append_nil] at this
   exact this
 rw [show (ms.filterMap λa=>if PySem.Txt.startswith a.1 b=true then some (rt (a.1,wrt a.2 n)) else none)=(rtd ms n b).map rt by
  unfold rtd bp
  clear hd hl hn hq W
  induction ms with
  |nil=>rfl
  |cons a l ih =>
   rw [List.filterMap_cons,List.filter_cons]
   by_cases e:PySem.Txt.startswith a.1 b=true
   ·rw [if_pos e,if_pos e];simp only [List.map_cons,ih]
   ·rw [if_neg e,if_neg e];exact ih]
 bv_omega
 refine tU aK ?_
 rw [dD,eQ hd]
 exact .mk hq
def rp:WSp:=λts S Q=>∃ a:Rt,ts=[rt a]/\Q (tre (ky a)) S
theorem nC:FnScope ["pair"] ["pair"] (aj d9):=by nofun
theorem zX {f:Addr}{fd:FuncData}(F:Fun K "rank_key" "rank_key" d9 f fd):FnOk P w K mg base CX0 1 f fd ["pair"] (lSp K rp):=by
 refine bg F nC (λts S Q h=>?_) λcdv A outer s H E hr=>?_
 ·obtain ⟨a,rfl,_⟩:=h;rfl
 have nd:=nC.nd
 refine ⟨_,((al (aE (gG (ae (je (aU rfl (aa 0) ag (λ_ _=>rfl))) (ae (aU rfl (aa 0) ag (λ_ _=>rfl)) af (ac rfl)) (ac rfl)))))),λts S Q h=>?_⟩
 obtain ⟨a,rfl,hq⟩:=h
 rw [Cf] at hq
 ac_nf
 unfold rt
 bv_omega
 exact .mk hq
def rq:WSp:=λts S Q=>∃ (x:T2.T) (l:List Rt) (m:Int),ts=[x,.int m]/\aD S x=some (l.map rt)/\l.Nodup/\0<=m/\Q (.lst (((bst l).take m.toNat).map rt)) S
theorem nW:FnScope ie ie (aj eG):=by nofun
theorem zY {f f1:Addr}{fd fd1:FuncData}(F:Fun K "best_of" "best_of" eG f fd) (T:Txt K mg C Z) (G_rank_key:FnOk P w K mg base CX0 1 f1 fd1 ["pair"] (lSp K rp)) (D_rank_key:Df K mg "rank_key" f1 fd1 ["pair"]):FnOk P w K mg base CX0 4 f fd ie (lSp K rq):=by
 refine bg F nW (λts S Q h=>?_) λcdv A outer s H E hr=>?_
 ·obtain ⟨x,l,m,rfl,_⟩:=h;rfl
 have nd:=nW.nd
 refine ⟨_,((al (aE (bV false rfl (zl false rfl G_rank_key D_rank_key hr.m (by rfl) T.sorted (by rfl) (ae (aa 0) af (ac rfl))) bT (bU (aa 1)))))),λts S Q h=>?_⟩
 obtain ⟨x,l,m,rfl,hv,hn,hm,hq⟩:=h
 ac_nf
 bv_omega
 refine zm kyT (ky ("",0)) hv rfl (by decide) (λa ha=>⟨rfl,rfl,λS' Q' q=>⟨a,rfl,q⟩⟩) λl' p hs=>?_
 rw [v6 hn p hs]
 bv_omega
 rw [y1 hm]
 exact .mk hq
def rA (C:Addr):WSp:=λts S Q=>∃ p d n ms b m,ts=[.ref p,.str b,.int m]/\Wo C S p d n ms/\ms.length<=200/\(∀ a∈ms,a.2.2<=n)/\(ms.map (·.1)).Nodup/\0<=m/\Q (.lst (((bst (rtd ms n b)).take m.toNat).map rt)) S
theorem m9:FnScope hZ hZ (aj cP):=by nofun
theorem zZ {f f1 f2:Addr}{fd fd1 fd2:FuncData}(F:FunD K "told" "Wood.told" cP f fd) (T:Txt K mg C Z)
  (G_Wood_begun:FnOk P w K mg base CX0 2 f1 fd1 vv3 (lSp K (kQ C))) (M_Wood_begun:Meth K C "begun" f1) (B_Wood_begun:aq K fd1 vv3 [])
  (G_best_of:FnOk P w K mg base CX0 4 f2 fd2 ie (lSp K rq)) (D_best_of:Df K mg "best_of" f2 fd2 ie):FnOk P w K mg base CX0 5 f fd hZ (lSp K (rA C)):=by
 refine bW F m9 (λts S Q h=>?_) λcdv A outer s H E hr=>?_
 ·obtain ⟨p,d,n,ms,b,m,rfl,_⟩:=h;rfl
 have nd:=m9.nd
 refine ⟨_,((al (aE (ay G_best_of D_best_of hr.m (by rfl) (ae (br (T.gf M_Wood_begun) G_Wood_begun B_Wood_begun hr.m (aa 0) (ae (aa 1) af (ac rfl))) (ae (aa 2) af (ac rfl)) (ac rfl)))))),λts S Q h=>?_⟩
 obtain ⟨p,d,n,ms,b,m,rfl,W,hl,hn,hnd,hm,hq⟩:=h
 have hw:=W.ins
 ac_nf
 bv_omega
 refine ⟨p,d,n,ms,b,rfl,W,by omega,hn,?_⟩
 bv_omega
 have hlen:=zW ms n b
 refine ⟨_,rtd ms n b,m,rfl,rfl,Cs hnd,hm,?_⟩
 exact .mk hq
def sP (C:Addr):WSp:=λts S Q=>∃ p d n,ts=[.ref p]/\S p=some (.ins C [("marks",.ref d),("now",.int n)])/\Q (.int n) S
theorem nD:FnScope ["self"] ["self"] (aj cQ):=by nofun
theorem Ct {f:Addr}{fd:FuncData}(F:FunD K "era" "Wood.era" cQ f fd) (T:Txt K mg C Z):FnOk P w K mg base CX0 1 f fd ["self"] (lSp K (sP C)):=by
 refine bW F nD (λts S Q h=>?_) λcdv A outer s H E hr=>?_
 ·obtain ⟨p,d,n,rfl,_⟩:=h;rfl
 have nd:=nD.nd
 refine ⟨_,((al (aE (bw rfl T.gn (aa 0))))),λts S Q h=>?_⟩
 obtain ⟨p,d,n,rfl,hw,hq⟩:=h
 ac_nf
 bv_omega
 exact .mk hq
def kyW (a:Rt):Ky:=.cons (.s a.1) (.cons (.i a.2) .nil)
def unW:T2.T->Ky
 |.tup [.str z,.int i]=>.cons (.s z) (.cons (.i i) .nil)
 |_=>.nil
def jD (l:List Rt):Prop:=(l.map (·.1)).Pairwise λx y=>Ky.lt (.s y) (.s x)=false
theorem o8 (ms:Ms) (n:Int):rtd ms n ""=ms.map λa=>(a.1,wrt a.2 n):=by
 unfold rtd bp
 rw [List.filter_eq_self.mpr λa _=>?_]
 rw [Tm.uv]
 refine decide_eq_true ?_
 have e:=Tm.fT a.1 0
 have:Tm.tl (PySem.Txt.slice a.1 none (some 0))=Tm.tl (Str.ofString ""):=by
  rw [show (some (0:Int))=some ((0:Nat):Int) from rfl,e];rfl
 cases h:PySem.Txt.slice a.1 none (some (((Str.ofString "").length:Nat):Int)) with
 |mk cps =>
  have h2:PySem.Txt.slice a.1 none (some 0)=⟨cps⟩:=h
  rw [h2] at this
  show (⟨cps⟩:Str)=⟨#[]⟩
  congr 1
  exact Array.toList_inj.mp this
def ko (C:Addr):WSp:=λts S Q=>∃ p d n ms,ts=[.ref p]/\Wo C S p d n ms/\ms.length<=200/\(∀ a∈ms,a.2.2<=n)/\(ms.map (·.1)).Nodup/\(∀ a∈ms,Wm.Wd a.1=true)/\∀ l:List Rt,l.Perm (ms.map λa=>(a.1,wrt a.2 n))->jD l->Q (.lst (l.map rt)) S
theorem mT:FnScope ["self"] ["self"] (aj cM):=by nofun
theorem wg {f f2:Addr}{fd fd2:FuncData}(F:FunD K "words" "Wood.words" cM f fd) (T:Txt K mg C Z)
  (G_Wood_begun:FnOk P w K mg base CX0 2 f2 fd2 vv3 (lSp K (kQ C))) (M_Wood_begun:Meth K C "begun" f2) (B_Wood_begun:aq K fd2 vv3 []):FnOk P w K mg base CX0 4 f fd ["self"] (lSp K (ko C)):=by
 refine bW F mT (λts S Q h=>?_) λcdv A outer s H E hr=>?_
 ·obtain ⟨p,d,n,ms,rfl,_⟩:=h;rfl
 have nd:=mT.nd
 refine ⟨_,((al (aE (aP (pU false rfl hr.m) (by rfl) T.sorted PyProof.Rows.boot_sorted (ae (br (T.gf M_Wood_begun) G_Wood_begun B_Wood_begun hr.m (aa 0) (ae aN af (ac rfl))) af (ac rfl)))))),λts S Q h=>?_⟩
 obtain ⟨p,d,n,ms,rfl,W,hl,hn,hnd,hwd,hq⟩:=h
 have hw:=W.ins
 ac_nf
 bv_omega
 refine ⟨p,d,n,ms,_,rfl,W,by omega,hn,?_⟩
 rw [o8]
 bv_omega
 refine pV (ls:=ms.map λa=>(a.1,wrt a.2 n)) kyW unW (.cons (.s ⟨#[]⟩) (.cons (.i 0) .nil)) rfl (λa _=>rfl) rfl (Nat.le_of_ble_eq_true rfl) (λa ha=>⟨?_,rfl⟩) λl' hp hs=>?_
 ·obtain ⟨x,hx,rfl⟩:=List.mem_map.mp ha
  have:=Wm.jp (hwd x hx)
  simp [kyW,S6.Ky.ok,S6.Ky.ok.isRow,this]
 ·refine .mk (hq l' hp ?_)
  have hnd2:(l'.map (·.1)).Nodup:=(hp.map _).nodup_iff.mpr (by rw [List.map_map];exact hnd)
  unfold jD
  unfold List.Nodup at hnd2
  rw [List.pairwise_map] at hnd2 ⊢
  refine (hs.and hnd2).imp fun {x y} q=>?_
  have q1:Ky.lt (kyW y) (kyW x)=false:=q.1
  unfold kyW Ky.lt at q1
  rw [if_neg (λe=>q.2 (Ky.s.inj e).symm)] at q1
  exact q1
def gz:WSp:=λts S Q=>∃ p o,ts=[.ref p]/\S p=some o/\aW o/\∀ z o',Wm.Wd z=true->aW o'->Q (.str z) (put S p o')
theorem Cj {S:Sto}{Q:T->Sto->Prop}{p:Addr}{o:O}(e:S p=some o) (f:aW o) (h:∀ z o',Wm.Wd z=true->aW o'->Q (.str z) (put S p o')):gz ([.ref p]++[]) S Q:=⟨p,o,rfl,e,f,h⟩
theorem z3 {y:Str}(h:Sc.isP (Tm.tl y)=true):y.length<=12:=by
 unfold Sc.isP at h
 simp only [Bool.and_eq_true,decide_eq_true_eq] at h
 rw [<- Tm.len];omega
theorem nE:FnScope ["_law_box_here","_law_letters","_law_parts","_law_k","_law_size"] vv5 (aj eD):=by nofun
theorem z4 {f f1:Addr}{fd fd1:FuncData}(F:Fun K "_law_word" "_law_word" eD f fd) (T:Txt K mg C Z) (G__law_take:FnOk P w K mg base CX0 1 f1 fd1 vv1 (lSp K dc)) (D__law_take:Df K mg "_law_take" f1 fd1 vv1) :
  FnOk P w K mg base CX0 2 f fd vv5 (lSp K gz):=by
 refine bg F nE (λts S Q h=>?_) λcdv A outer s H E hr=>?_
 ·obtain ⟨p,o,rfl,_⟩:=h;rfl
 have nd:=nE.nd
 refine ⟨_,((am (aG (i:=1) nd rfl (Or.inr rfl) (aU rfl (bJ (ae aN (ae aN (ae aN af (ac rfl)) (ac rfl)) (ac rfl))) (ay G__law_take D__law_take hr.m (by rfl) (ae (aa 0) (ae ag af (ac rfl)) (ac rfl))) (λ_ _=>rfl)))
   (am (aG (i:=2) nd rfl (Or.inl rfl) (iX af))
   (am (fF PassesOwn.never rfl (iy (by rfl) T.range (aU rfl (bJ (ae ag (ae ag (ae ag (ae ag af (ac rfl)) (ac rfl)) (ac rfl)) (ac rfl))) (ay G__law_take D__law_take hr.m (by rfl) (ae (aa 0) (ae ag af (ac rfl)) (ac rfl))) (λ_ _=>rfl))) (bq (i:=3) nd rfl (Or.inl rfl))
    (am (aG (i:=4) nd rfl (Or.inl rfl) (aB (aV false) ag (ay G__law_take D__law_take hr.m (by rfl) (ae (aa 0) (ae (aU rfl (bJ (ae ag (ae ag (ae ag (ae ag af (ac rfl)) (ac rfl)) (ac rfl)) (ac rfl))) (ay G__law_take D__law_take hr.m (by rfl) (ae (aa 0) (ae ag af (ac rfl)) (ac rfl))) (λ_ _=>rfl)) af (ac rfl)) (ac rfl)))))
   (al (a9 (bo rfl PySem.F.plainAttrs_list PySem.F.slot_list_append PySem.F.type_list_append eN (aa 2) (ae (bo rfl PySem.F.plainAttrs_str PySem.F.slot_str_join PySem.F.type_str_join (k6 rfl) aN (ae (df false ["_law_j","_law_letters","_law_box_here"] 1 [1,0] rfl (iy (by rfl) T.range (aa 4)) (λ_ _ _ _=>(bq (i:=0) (show List.Nodup (["_law_j","_law_letters","_law_box_here"]:List Str) from by decide +kernel) rfl (Or.inl rfl))) (λ_ _ _ _=>eT) (λ_ _ _ _=>(aU rfl (aa 1) (ay G__law_take D__law_take hr.m (by rfl) (ae (aa 2) (ae (aP (cc rfl) (by rfl) T.len PySem.boot_len (ae (aa 1) af (ac rfl))) af (ac rfl)) (ac rfl))) (λ_ _=>rfl)))) af (ac rfl)) (λh1 h2 h3=>bj PySem.F.plainAttrs_str PySem.F.slot_str_join PySem.F.type_str_join h2 h1 h3)) af (ac rfl)) (λh1 h2 h3=>bj PySem.F.plainAttrs_list PySem.F.slot_list_append PySem.F.type_list_append h2 h1 h3))))))
   (al (aE (bo rfl PySem.F.plainAttrs_str PySem.F.slot_str_strip PySem.F.type_str_strip yN (bV false rfl (bo rfl PySem.F.plainAttrs_str PySem.F.slot_str_join PySem.F.type_str_join (k6 rfl) aN (ae (aa 2) af (ac rfl)) (λh1 h2 h3=>bj PySem.F.plainAttrs_str PySem.F.slot_str_join PySem.F.type_str_join h2 h1 h3)) bT (bU ag)) (ae aN af (ac rfl)) (λh1 h2 h3=>bj PySem.F.plainAttrs_str PySem.F.slot_str_strip PySem.F.type_str_strip h2 h1 h3)))))))),λts S Q h=>?_⟩
 obtain ⟨p,o,rfl,hp,hf,hq⟩:=h
 ac_nf
 bv_omega
 refine fG (λt=>∃ z:Str,t=.str z/\1<=z.length/\z.length<=26/\(Tm.tl z).all Sc.isL=true) hr0 ?_ ?_ ?_
 ·simpa using hr1
 ·intro t ht
  simp only [List.mem_cons,List.not_mem_nil,or_false] at ht
  rcases ht with rfl|rfl|rfl<;>exact ⟨_,rfl,by decide +kernel,by decide +kernel,by decide +kernel⟩
 rintro _ ⟨le,rfl,hle1,hle2,hle3⟩
 bv_omega
 intro l hl0
 obtain ⟨hlp,hl1⟩:=xg hl0
 rw [oP (Ne.symm hlp)]
 bv_omega
 refine fG (λt=>∃ z:Int,t=.int z/\1<=z/\z<=4) hr0 ?_ ?_ ?_
 ·simpa using hr1
 ·simp
 rintro _ ⟨m,rfl,hm1,hm2⟩
 bv_omega
 refine jM (λk σ' S'=>∃ (zs:List Str) (o2:O) (u v:Option T2.T),zs.length=k/\(∀ y∈zs,Sc.isP (Tm.tl y)=true)/\σ'=[some (.ref p),some (.str le),some (.ref l),u,v]/\S'=put (put S l (.lst (zs.map T2.T.str))) p o2/\aW o2)
  ⟨[],_,none,none,rfl,by simp,rfl,rfl,hbx⟩ ?_ ?_
 ·rintro k σ' S' N hk ⟨zs,o2,u,v,hzk,hzs,rfl,rfl,hb2⟩ hN
  refine ⟨trivial,?_⟩
  bv_omega
  refine fG (λt=>∃ z:Int,t=.int z/\1<=z/\z<=12) hr0 ?_ ?_ ?_
  ·simpa using hr1
  ·simp
  rintro _ ⟨n,rfl,hn1,hn2⟩
  bv_omega
  generalize hr2:r=r2 at hr0 hr1 ⊢
  refine jT (λitems acc σ' S'=>∃ (ys:List Str) (u:Option T2.T) (o4:O),acc=ys.map T2.T.str/\(∀ y∈ys,∃ c,y=⟨#[c]⟩/\Sc.isL c=true)/\ys.length+items.length=(1+r2).toNat/\σ'=[u,some (.str le),some (.ref p)]/\S'=put (put S l (.lst (zs.map T2.T.str))) p o4/\aW o4)
   ⟨[],none,_,rfl,by simp,by simp [cE],rfl,rfl,by assumption⟩ ?_ ?_
  ·rintro t ts acc σ' S' N2 ⟨ys,u,o4,rfl,hys,hl,rfl,rfl,hb4⟩ hN2
   simp only [List.length_cons] at hl
   refine ⟨trivial,?_⟩
   bv_omega
   refine ⟨by rw [List.length_map,sizeLine_eq];omega,hN2 _ _ _ ⟨ys++[⟨#[d]⟩],_,_,by simp,?_,by simp;omega,rfl,rfl,by assumption⟩⟩
   intro y hy
   rcases List.mem_append.mp hy with h|h
   ·exact hys y h
   ·exact ⟨d,List.mem_singleton.mp h,List.all_eq_true.mp hle3 d hd⟩
  ·rintro acc σ' S' ⟨ys,u,o4,rfl,hys,hl,rfl,rfl,hb4⟩
   have hl2:ys.length=(1+r2).toNat:=by simpa using hl
   have hy1:∀ y∈ys,y.length<=1:=λy hy=>by obtain ⟨c,rfl,_⟩:=hys y hy;exact Nat.le_refl _
   refine ⟨trivial,?_⟩
   bv_omega
   refine pM (Tm.j8 ys) (Tm.k8 (b:=1) hy1 (by rw [Tm.fP];omega)) ?_
   have hj:=Tm.kK "" (b:=1) ys hy1
   rw [Tm.fP] at hj
   bv_omega
   refine iF ((aO hlp).trans aK) (by rw [List.length_map,sizeLine_eq];omega) ?_
   rw [Bv hlp]
   refine hN _ _ ⟨zs++[Txt.join "" ys],_,_,_,by simp [hzk],?_,rfl,by simp,hb4⟩
   intro y hy
   rcases List.mem_append.mp hy with h|h
   ·exact hzs y h
   ·rw [List.mem_singleton.mp h];exact Wm.iL hys (by omega) (by omega)
 ·rintro σ' S' ⟨zs,o2,u,v,hzk,hzs,rfl,rfl,hb2⟩
  refine ⟨trivial,?_⟩
  have hzs2:∀ y∈zs,y.length<=12:=λy hy=>z3 (hzs y hy)
  bv_omega
  refine yW ((aO hlp).trans aK) (Tm.j8 zs) (Tm.k8 (b:=12) hzs2 (by rw [Tm.jU];omega)) ?_
  have hj:=Tm.kK " " zs hzs2
  rw [Tm.jU] at hj
  have hzl:zs.length<=4:=by omega
  have hjl:(PySem.Txt.join " " zs).length<=60:=by omega
  bv_omega
  have h24:=Tm.nw (PySem.Txt.join " " zs) (k:=24) (by omega)
  bv_omega
  refine .le (.put2 (.put hl1)) (hq _ _ ?_ hb2)
  exact Wm.Ce (k:=24) (Wm.zJ hzs (by intro e;rw [e] at hzk;simp at hzk;omega) hzl) (Tm.fT _ 24) (by omega) (by omega)
def LB (z:Str):Prop:=∀ c∈Tm.tl z,c=32\/Sc.isL c=true
theorem LB.of {z:Str}(h:Wm.Wd z=true):LB z:=Wm.o5 h
theorem sQ {α β:Type}(p:α->Bool) (f:α->β):∀ l:List α,(l.filterMap λa=>if p a=true then some (f a) else none)=(l.filter p).map f
 |[]=>rfl
 |a::l=>by
  have ih:=sQ p f l
  rw [List.filterMap_cons,List.filter_cons]
  by_cases e:p a=true
  ·rw [if_pos e,if_pos e];simp only [List.map_cons,ih]
  ·rw [if_neg e,if_neg e];exact ih
def p6:WSp:=λts S Q=>∃ (l:List (Int×Int)) (era:Int),ts=[.lst (l.map mkT),.int era]/\l.length<=1000/\(∀ m∈l,m.2<=era)/\(l=[]->Q .non S)/\(l≠[]->∀ i,i∈l.map (wrt · era)->(∀ j∈l.map (wrt · era),j<=i)->Q (.int i) S)
theorem mM:FnScope ["marks","era"] ["marks","era"] (aj dZ):=by nofun
theorem xT {f f1:Addr}{fd fd1:FuncData}(F:Fun K "greatest_at" "greatest_at" dZ f fd) (T:Txt K mg C Z) (G_worth_at:FnOk P w K mg base CX0 1 f1 fd1 vv6 (lSp K dC)) (D_worth_at:Df K mg "worth_at" f1 fd1 vv6):FnOk P w K mg base CX0 2 f fd ["marks","era"] (lSp K p6):=by
 refine bg F mM (λts S Q h=>?_) λcdv A outer s H E hr=>?_
 ·obtain ⟨l,era,rfl,_⟩:=h;rfl
 have nd:=mM.nd
 refine ⟨_,((al (aE (Ej (BF rfl rfl) (by rfl) T.max PyProof.Rows.boot_max (ae (df false vv6 1 [1] rfl (eS rfl (aa 0)) (λ_ _ _ _=>(bq (i:=0) (show List.Nodup (vv6:List Str) from by decide +kernel) rfl (Or.inl rfl))) (λ_ _ _ _=>eT) (λ_ _ _ _=>(ay G_worth_at D_worth_at hr.m (by rfl) (ae (aa 0) (ae (aa 1) af (ac rfl)) (ac rfl))))) af (ac rfl)) rQ)))),λts S Q h=>?_⟩
 obtain ⟨l,era,rfl,hl,h0,hq0,hq1⟩:=h
 ac_nf
 bv_omega
 refine eM mkT (λm=>some (.int (wrt m era))) [some (.int era)] trivial (by rw [sizeLine_eq];omega) (λm hm u acc N hacc hN=>?_) ?_
 ·have:=h0 m hm
  bv_omega
  exact ⟨hacc,hN _⟩
 rw [show (l.filterMap λm=>some (T2.T.int (wrt m era)))=(l.map (wrt · era)).map T2.T.int by rw [Wm.gb,List.map_map];rfl]
 bv_omega
 refine BK rfl (λh=>?_) λh m h1 h2=>?_
 ·exact .mk (hq0 (List.map_eq_nil_iff.mp h))
 ·exact .mk (hq1 (λe=>h (by rw [e];rfl)) m h1 h2)
def md (C:Addr):WSp:=λts S Q=>∃ p d n ms b,ts=[.ref p,.str b]/\Wo C S p d n ms/\ms.length<=200/\(∀ a∈ms,a.2.2<=n)/\(bp ms b=[]->Q .non S)/\(bp ms b≠[]->∀ i,i∈(bp ms b).map (λa=>wrt a.2 n)->(∀ j∈(bp ms b).map (λa=>wrt a.2 n),j<=i)->Q (.int i) S)
theorem mO:FnScope ["self","beginning","marks"] vv3 (aj cK):=by nofun
theorem Cu {f f1:Addr}{fd fd1:FuncData}(F:FunD K "top_of" "Wood.top_of" cK f fd) (T:Txt K mg C Z) (G_greatest_at:FnOk P w K mg base CX0 2 f1 fd1 ["marks","era"] (lSp K p6)) (D_greatest_at:Df K mg "greatest_at" f1 fd1 ["marks","era"]):FnOk P w K mg base CX0 3 f fd vv3 (lSp K (md C)):=by
 refine bW F mO (λts S Q h=>?_) λcdv A outer s H E hr=>?_
 ·obtain ⟨p,d,n,ms,b,rfl,_⟩:=h;rfl
 have nd:=mO.nd
 refine ⟨_,((am (Ei w rfl (vM false (i:=2) vv14 2 [1] rfl nd rfl (Or.inl rfl) (pP w rfl rfl (bw rfl T.gm (aa 0))) (λ_ _ _ _=>(qp (λh=>pz (n:=2) rfl rfl h) (iC (bq (i:=0) (show List.Nodup (vv14:List Str) from by decide +kernel) rfl (Or.inl rfl)) (iC (bq (i:=1) (show List.Nodup (vv14:List Str) from by decide +kernel) rfl (Or.inl rfl)) pC (λh1 h2=>iA h1 h2)) (λh1 h2=>iA h1 h2)))) (λ_ _ _ _=>(kE (cj (bo rfl PySem.F.plainAttrs_str PySem.F.slot_str_startswith PySem.F.type_str_startswith oO (aa 0) (ae (aa 2) af (ac rfl)) (λh1 h2 h3=>bj PySem.F.plainAttrs_str PySem.F.slot_str_startswith PySem.F.type_str_startswith h2 h1 h3))))) (λ_ _ _ _=>(aa 1))))
   (al (aE (ay G_greatest_at D_greatest_at hr.m (by rfl) (ae (aa 2) (ae (bw rfl T.gn (aa 0)) af (ac rfl)) (ac rfl))))))),λts S Q h=>?_⟩
 obtain ⟨p,d,n,ms,b,rfl,⟨hw,hd⟩,hl,hn,hq0,hq1⟩:=h
 ac_nf
 bv_omega
 intro od kvs
 rw [show (kt mkT ms).map gK=ms.map (λa=>T2.T.tup [.str a.1,mkT a.2]) by unfold kt;rw [List.map_map];rfl]
 refine nV (λa:Str×Int×Int=>T2.T.tup [.str a.1,mkT a.2]) (λa=>if PySem.Txt.startswith a.1 b=true then some (mkT a.2) else none) [some (.str b)] aK (by rw [sizeLine_eq];omega) (λa ha u v acc N hacc hN=>?_) ?_
 ·bv_omega
  refine ifB (λhb=>?_) λhb=>?_
  ·bv_omega
   rw [if_pos hb] at hN
   exact ⟨hacc,hN _ _⟩
  ·rw [hb] at hN
   have:=hN (some (.str a.1)) (some (mkT a.2))
   rw [if_neg (by decide),Option.toList_none,List.append_nil] at this
   exact this
 rw [show (ms.filterMap λa=>if PySem.Txt.startswith a.1 b=true then some (mkT a.2) else none)=((bp ms b).map (·.2)).map mkT by
  unfold bp
  clear hd hl hn hq0 hq1
  induction ms with
  |nil=>rfl
  |cons a l ih =>
   rw [List.filterMap_cons,List.filter_cons]
   by_cases e:PySem.Txt.startswith a.1 b=true
   ·rw [if_pos e,if_pos e];simp only [List.map_cons,ih]
   ·rw [if_neg e,if_neg e];exact ih]
 bv_omega
 refine tU aK ?_
 rw [dD,eQ hd]
 bv_omega
 have hsub:∀ a∈bp ms b,a∈ms:=λa ha=>(List.mem_filter.mp ha).1
 refine ⟨(bp ms b).map (·.2),n,rfl,?_,?_,?_,?_⟩
 ·rw [List.length_map]
  have:=List.length_filter_le (λa:Str×Int×Int=>PySem.Txt.startswith a.1 b) ms
  unfold bp;omega
 ·intro m hm
  obtain ⟨a,ha,rfl⟩:=List.mem_map.mp hm
  exact hn a (hsub a ha)
 ·intro e
  exact .mk (hq0 (List.map_eq_nil_iff.mp e))
 ·intro e i h1 h2
  rw [List.map_map] at h1 h2
  exact .mk (hq1 (λq=>e (by rw [q];rfl)) i h1 h2)
def sR (C:Addr):WSp:=λts S Q=>∃ p d n ms z,ts=[.ref p,.str z]/\Wo C S p d n ms/\Q (.bl (look ms z).isSome) S
theorem nF:FnScope vv0 vv0 (aj cR):=by nofun
theorem Cv {f:Addr}{fd:FuncData}(F:FunD K "has" "Wood.has" cR f fd) (T:Txt K mg C Z):FnOk P w K mg base CX0 1 f fd vv0 (lSp K (sR C)):=by
 refine bW F nF (λts S Q h=>?_) λcdv A outer s H E hr=>?_
 ·obtain ⟨p,d,n,ms,z,rfl,_⟩:=h;rfl
 have nd:=nF.nd
 refine ⟨_,((al (aE (dQ (l6 w rfl) (aa 1) (bw rfl T.gm (aa 0)) (by with_unfolding_all rfl))))),λts S Q h=>?_⟩
 obtain ⟨p,d,n,ms,z,rfl,⟨hw,hd⟩,hq⟩:=h
 ac_nf
 bv_omega
 refine gL hd rfl ?_
 rw [dN,Option.isSome_map,Bool.false_xor]
 exact .mk hq
def sS (C:Addr):WSp:=λts S Q=>∃ p d n ms z m,ts=[.ref p,.str z]/\Wo C S p d n ms/\look ms z=some m/\m.2<=n/\Q (.int (wrt m n)) S
theorem ig:FnScope vv0 vv0 (aj cx):=by nofun
theorem Cw {f f1 f2:Addr}{fd fd1 fd2:FuncData}(F:FunD K "worth_of" "Wood.worth_of" cx f fd) (T:Txt K mg C Z) (G_worth_at:FnOk P w K mg base CX0 1 f1 fd1 vv6 (lSp K dC)) (D_worth_at:Df K mg "worth_at" f1 fd1 vv6)
  (G_Wood_mark_of:FnOk P w K mg base CX0 1 f2 fd2 vv0 (lSp K (gy C))) (M_Wood_mark_of:Meth K C "mark_of" f2) (B_Wood_mark_of:aq K fd2 vv0 []):FnOk P w K mg base CX0 2 f fd vv0 (lSp K (sS C)):=by
 refine bW F ig (λts S Q h=>?_) λcdv A outer s H E hr=>?_
 ·obtain ⟨p,d,n,ms,z,m,rfl,_⟩:=h;rfl
 have nd:=ig.nd
 refine ⟨_,((al (aE (ay G_worth_at D_worth_at hr.m (by rfl) (ae (br (T.gf M_Wood_mark_of) G_Wood_mark_of B_Wood_mark_of hr.m (aa 0) (ae (aa 1) af (ac rfl))) (ae (bw rfl T.gn (aa 0)) af (ac rfl)) (ac rfl)))))),λts S Q h=>?_⟩
 obtain ⟨p,d,n,ms,z,m,rfl,⟨hw,hd⟩,hm,hn,hq⟩:=h
 ac_nf
 bv_omega
 refine ll ⟨hw,hd⟩ hm ?_
 bv_omega
 exact .mk hq
def Bad (t:T2.T):Prop:=(∃ z:Str,t=.str z/\z.length<=1000/\PyData.strOk z=true/\Wm.Wd z=false)\/jq t/\∃ d,(∀ S,bC S t=some d)/\Tng d
theorem Bad.isw {S:Sto}{Q:T2.T->Sto->Prop}{t:T2.T}(h:Bad t) (q:Q (.bl false) S):eP ([t]++[]) S Q:=by
 rcases h with ⟨z,rfl,hz,_,hw⟩|⟨h,_⟩
 ·exact ⟨_,rfl,.inl ⟨z,rfl,hz,by rw [hw];exact q⟩⟩
 ·exact ⟨_,rfl,.inr ⟨h,q⟩⟩
theorem kR {z:Str}(hz:z.length<=1000) (ho:PyData.strOk z=true):Tng (.str z):=by
 refine ⟨rfl,rfl,by simp [PyData.depth],?_⟩
 have:=StrLaws.reprText_len z λc hc=>by
  unfold PyData.strOk at ho
  rw [Array.all_eq_true_iff_forall_mem] at ho
  have:=of_decide_eq_true (ho c (by simpa using hc))
  omega
 show (reprText z).length<=10002
 omega
theorem Bad.fr {S:Sto}{t:T2.T}(h:Bad t):∃ d,bC S t=some d/\Tng d:=by
 rcases h with ⟨z,rfl,hz,ho,_⟩|⟨_,d,hd,ht⟩
 ·exact ⟨_,rfl,kR hz ho⟩
 ·exact ⟨d,hd S,ht⟩
def iS (C XA:Addr):cu:=λts S R=>∃ p d n ms z,ts=[.ref p,.str z]/\Wo C S p d n ms/\look ms z=none/\z.length<=1000/\PyData.strOk z=true/\R XA S
theorem z5 {f:Addr}{fd:FuncData}(F:FunD K "mark_of" "Wood.mark_of" cy f fd) (T:Txt K mg C Z):FnOk P w K mg base (CX1 P w) 1 f fd vv0 (bD K (iS C Z.A)):=by
 refine fZ F ii (λts S Q h=>?_) λcdv A outer s H E hr=>?_
 ·obtain ⟨p,d,n,ms,z,rfl,_⟩:=h;rfl
 have nd:=ii.nd
 refine ⟨_,((bb (di (aC (oQ w rfl) (aa 1) (bw rfl T.gm (aa 0)) (by with_unfolding_all rfl)) (bb (kg T.x_Absent T.k_Absent rfl (by rfl) T.mg_Absent (ae (l7 rfl hr.gd hr.units (aa 1)) af (ac rfl))))
    c9))),λts S Q h=>?_⟩
 obtain ⟨p,d,n,ms,z,rfl,⟨hw,hd⟩,hm,hz,hzo,hq⟩:=h
 have hv:bx (kt mkT ms) (Sum.inr z)=none:=by rw [dN,hm];rfl
 ac_nf
 bv_omega
 refine gL hd rfl ?_
 rw [hv]
 subst_eqs
 bv_omega
 refine ⟨⟨_,rfl,kR hz hzo⟩,λe=>?_⟩
 bv_omega
 exact ⟨Nat.le_of_ble_eq_true rfl,.mk hq⟩
def rB (C XN XT:Addr):cu:=λts S R=>∃ p d n ms t c,ts=[.ref p,t,.int c]/\Wo C S p d n ms/\(Bad t/\R XN S\/∃ z m,t=.str z/\z.length<=1000/\PyData.strOk z=true/\Wm.Wd z=true/\look ms z=some m/\R XT S)
theorem Cy {f f1:Addr}{fd fd1:FuncData}(F:FunD K "put" "Wood.put" cC f fd) (T:Txt K mg C Z) (G_is_word:FnOk P w K mg base CX0 3 f1 fd1 ["thing"] (lSp K eP)) (D_is_word:Df K mg "is_word" f1 fd1 ["thing"]):FnOk P w K mg base (CX1 P w) 4 f fd vv4 (bD K (rB C Z.N Z.T)):=by
 refine fZ F iq (λts S Q h=>?_) λcdv A outer s H E hr=>?_
 ·obtain ⟨p,d,n,ms,t,c,rfl,_⟩:=h;rfl
 have nd:=iq.nd
 refine ⟨_,((gw (bb (di (dJ (cj (ay G_is_word D_is_word hr.m (by rfl) (ae (aa 1) af (ac rfl))))) (bb (kg T.x_NoWord T.k_NoWord rfl (by rfl) T.mg_NoWord (ae (l7 rfl hr.gd hr.units (aa 1)) af (ac rfl))))
    c9))
   (fU (aI (dJ (cj (ay G_is_word D_is_word hr.m (by rfl) (ae (aa 1) af (ac rfl)))))
    (al iM)
    aJ)
   (bb (di (aC (l6 w rfl) (aa 1) (bw rfl T.gm (aa 0)) (by with_unfolding_all rfl)) (bb (kg T.x_Twice T.k_Twice rfl (by rfl) T.mg_Twice (ae (l7 rfl hr.gd hr.units (aa 1)) af (ac rfl))))
    c9))))),λts S Q h=>?_⟩
 obtain ⟨p,d,n,ms,t,c,rfl,⟨hw,hd⟩,h⟩:=h
 ac_nf
 rcases h with ⟨hm,hq⟩|⟨z,m,rfl,hz,hzo,hm,hl,hq⟩
 ·refine fJ (tX ?_)
  bv_omega
  refine hm.isw ?_
  bv_omega
  refine ⟨hm.fr,λe=>?_⟩
  bv_omega
  exact ⟨Nat.le_of_ble_eq_true rfl,.mk hq⟩
 ·have hv:bx (kt mkT ms) (Sum.inr z)=some (mkT m):=by rw [dN,hl];rfl
  refine ck (qT ?_)
  bv_omega
  refine ⟨_,rfl,.inl ⟨z,rfl,hz,?_⟩⟩
  rw [hm]
  bv_omega
  refine gL hd rfl ?_
  rw [hv]
  subst_eqs
  bv_omega
  refine ⟨⟨_,rfl,kR hz hzo⟩,λe=>?_⟩
  bv_omega
  exact ⟨Nat.le_of_ble_eq_true rfl,.mk hq⟩
def rD (C XA:Addr):cu:=λts S R=>∃ p d n ms z c,ts=[.ref p,.str z,.int c]/\Wo C S p d n ms/\look ms z=none/\z.length<=1000/\PyData.strOk z=true/\R XA S
theorem Cz {f f1 f2:Addr}{fd fd1 fd2:FuncData}(F:FunD K "use" "Wood.use" bR f fd) (T:Txt K mg C Z) (D_used_mark:Df K mg "used_mark" f1 fd1 fN)
  (R_Wood_mark_of:FnOk P w K mg base (CX1 P w) 1 f2 fd2 vv0 (bD K (iS C Z.A))) (M_Wood_mark_of:Meth K C "mark_of" f2) (B_Wood_mark_of:aq K fd2 vv0 []):FnOk P w K mg base (CX1 P w) 3 f fd vv7 (bD K (rD C Z.A)):=by
 refine fZ F ir (λts S Q h=>?_) λcdv A outer s H E hr=>?_
 ·obtain ⟨p,d,n,ms,z,c,rfl,_⟩:=h;rfl
 have nd:=ir.nd
 refine ⟨_,((bb (BZ (o0 D_used_mark (by rfl) (oZ (dF (T.gf M_Wood_mark_of) R_Wood_mark_of B_Wood_mark_of hr.m (aa 0) (ae (aa 1) af (ac rfl)))))))),λts S Q h=>?_⟩
 obtain ⟨p,d,n,ms,z,c,rfl,W,hm,hz,hzo,hq⟩:=h
 have hw:=W.ins
 ac_nf
 bv_omega
 exact ⟨p,d,n,ms,z,rfl,W,hm,hz,hzo,.mk hq⟩
def iz (C XA:Addr):cu:=λts S R=>∃ p d n ms z,ts=[.ref p,.str z]/\Wo C S p d n ms/\look ms z=none/\z.length<=1000/\PyData.strOk z=true/\R XA S
theorem wj {f f2:Addr}{fd fd2:FuncData}(F:FunD K "strike" "Wood.strike" cz f fd) (T:Txt K mg C Z)
  (R_Wood_mark_of:FnOk P w K mg base (CX1 P w) 1 f2 fd2 vv0 (bD K (iS C Z.A))) (M_Wood_mark_of:Meth K C "mark_of" f2) (B_Wood_mark_of:aq K fd2 vv0 []):FnOk P w K mg base (CX1 P w) 3 f fd vv0 (bD K (iz C Z.A)):=by
 refine fZ F io (λts S Q h=>?_) λcdv A outer s H E hr=>?_
 ·obtain ⟨p,d,n,ms,z,rfl,_⟩:=h;rfl
 have nd:=io.nd
 refine ⟨_,((bb (eW (dF (T.gf M_Wood_mark_of) R_Wood_mark_of B_Wood_mark_of hr.m (aa 0) (ae (aa 1) af (ac rfl)))))),λts S Q h=>?_⟩
 obtain ⟨p,d,n,ms,z,rfl,W,hm,hz,hzo,hq⟩:=h
 have hw:=W.ins
 ac_nf
 bv_omega
 exact ⟨p,d,n,ms,z,rfl,W,hm,hz,hzo,.mk hq⟩
theorem CA {f f1 f2:Addr}{fd fd1 fd2:FuncData}(F:FunD K "worth_of" "Wood.worth_of" cx f fd) (T:Txt K mg C Z) (D_worth_at:Df K mg "worth_at" f1 fd1 vv6)
  (R_Wood_mark_of:FnOk P w K mg base (CX1 P w) 1 f2 fd2 vv0 (bD K (iS C Z.A))) (M_Wood_mark_of:Meth K C "mark_of" f2) (B_Wood_mark_of:aq K fd2 vv0 []):FnOk P w K mg base (CX1 P w) 3 f fd vv0 (bD K (iz C Z.A)):=by
 refine fZ F ig (λts S Q h=>?_) λcdv A outer s H E hr=>?_
 ·obtain ⟨p,d,n,ms,z,rfl,_⟩:=h;rfl
 have nd:=ig.nd
 refine ⟨_,((bb (BR (o0 D_worth_at (by rfl) (oZ (dF (T.gf M_Wood_mark_of) R_Wood_mark_of B_Wood_mark_of hr.m (aa 0) (ae (aa 1) af (ac rfl)))))))),λts S Q h=>?_⟩
 obtain ⟨p,d,n,ms,z,rfl,W,hm,hz,hzo,hq⟩:=h
 have hw:=W.ins
 ac_nf
 bv_omega
 exact ⟨p,d,n,ms,z,rfl,W,hm,hz,hzo,.mk hq⟩
theorem CB (bs:List Bool):((bs.map T2.T.bl).any λy=>eqF y (.bl false))=!bs.all id:=by
 induction bs with
 |nil=>rfl
 |cons b bs ih=>rw [List.map_cons,List.any_cons,ih,List.all_cons,Bool.not_and];cases b<;>rfl
theorem z6 (bs:List Bool):(bs.map T2.T.bl).all bG=true:=by rw [List.all_map];exact List.all_eq_true.mpr λ_ _=>rfl
theorem mP:FnScope ["_law_thing","_law_parts","_law_part"] ["_law_thing"] (aj d4):=by nofun
theorem u5 {f:Addr}{fd:FuncData}(F:Fun K "_law_is_word" "_law_is_word" d4 f fd) (T:Txt K mg C Z) :
  FnOk P w K mg base CX0 1 f fd ["_law_thing"] (lSp K eP):=by
 refine bg F mP (λts S Q h=>?_) λcdv A outer s H E hr=>?_
 ·obtain ⟨c,rfl,_⟩:=h;rfl
 have nd:=mP.nd
 refine ⟨_,((am (aI (gS (jx (dJ (cj (aP (lQ rfl) (by rfl) T.isinstance PyProof.Rows.boot_isinstance (ae (aa 0) (ae (jB (n:="str") (by rfl) T.str PyProof.Rows.boot_str) af (ac rfl)) (ac rfl))))) (lJ (aC mB (aP (cc rfl) (by rfl) T.len PySem.boot_len (ae (aa 0) af (ac rfl))) ag (aH _)))))
    (al (aE cI))
    aJ)
   (am (aG (i:=1) nd rfl (Or.inl rfl) (bo rfl PySem.F.plainAttrs_str PySem.F.slot_str_split PySem.F.type_str_split (pJ false) (aa 0) (ae aN af (ac rfl)) (λh1 h2 h3=>bj PySem.F.plainAttrs_str PySem.F.slot_str_split PySem.F.type_str_split h2 h1 h3)))
   (am (fF PassesOwn.never rfl (eS rfl (aa 1)) (bq (i:=2) nd rfl (Or.inl rfl))
    (al (aI (gS (jx (aC mw (aP (cc rfl) (by rfl) T.len PySem.boot_len (ae (aa 2) af (ac rfl))) ag (aH _)) (jx (aC mB (aP (cc rfl) (by rfl) T.len PySem.boot_len (ae (aa 2) af (ac rfl))) ag (aH _)) (lJ (aC (jz rfl) cI (df false ["_law_sign"] 1 [] rfl (kZ (aa 2)) (λ_ _ _ _=>(bq (i:=0) (show List.Nodup (["_law_sign"]:List Str) from by decide +kernel) rfl (Or.inl rfl))) (λ_ _ _ _=>eT) (λ_ _ _ _=>(dQ (jz rfl) (aa 0) aN (by with_unfolding_all rfl)))) (by with_unfolding_all rfl))))))
    (al (aE cI))
    aJ)))
   (al (aE (dQ mw (aP (cc rfl) (by rfl) T.len PySem.boot_len (ae (aa 1) af (ac rfl))) ag (aH _)))))))),λts S Q h=>?_⟩
 obtain ⟨t,rfl,h⟩:=h
 ac_nf
 rcases h with ⟨z,rfl,hz,hq⟩|⟨hn,hq⟩
 ·unfold Wm.Wd at hq
  bv_omega
  refine ifB (λhb=>?_) λhb=>?_
  ·bv_omega
   have hb:=of_decide_eq_true hb
   rw [decide_eq_false (by omega),Bool.false_and] at hq
   exact .mk hq
  ·have hb:=of_decide_eq_false hb
   rw [decide_eq_true (by omega),Bool.true_and,Wm.nQ] at hq
   have hsl:=PyProof.Rows.split_le z " "
   bv_omega
   refine kG (ls:=Txt.split z " ") (λls σ' S'=>∃ u,σ'=[some (.str z),some (.lst ((Txt.split z " ").map T2.T.str)),u]/\S'=S/\(∀ x∈ls,x.length<=1000)/\((Txt.split z " ").all λp=>Sc.isP (Tm.tl p))=ls.all λp=>Sc.isP (Tm.tl p)) ⟨_,rfl,rfl,λx hx=>?_,rfl⟩ ?_ ?_
   ·have hxl:=Tm.ow hx
    omega
   ·rintro x ls σ' S' N ⟨u,rfl,rfl,hl,he⟩ hN
    have hx:=hl x List.mem_cons_self
    refine ⟨trivial,?_⟩
    rw [List.all_cons] at he
    have no:Sc.isP (Tm.tl x)=false->Q (.bl false) S':=λe=>by
     rw [he,e,Bool.false_and,Bool.and_false] at hq
     exact hq
    unfold Sc.isP at no
    bv_omega
    refine ifB (λhb=>?_) λhb=>?_
    ·have hb:=of_decide_eq_true hb
     bv_omega
     exact .mk (no (by rw [Tm.len,decide_eq_false (by omega)];rfl))
    have h1:=of_decide_eq_false hb
    bv_omega
    refine ifB (λhb=>?_) λhb=>?_
    ·have hb:=of_decide_eq_true hb
     bv_omega
     exact .mk (no (by rw [Tm.len,decide_eq_false (p:=x.length<=12) (by omega),Bool.and_false];rfl))
    have h2:=of_decide_eq_false hb
    bv_omega
    refine eM (ls:=Tm.tl x) (λc=>T2.T.str ⟨#[c]⟩) (λc=>some (.bl (Sc.isL c))) [] ?_ ?_ (λc hc u acc N hacc hN=>?_) ?_
    ·trivial
    ·rw [Tm.len,sizeLine_eq];omega
    ·bv_omega
     refine qD ?_
     rw [Bool.false_xor,Wm.Cc]
     bv_omega
     exact ⟨hacc,hN _⟩
    ·have e:(Tm.tl x).filterMap (λc=>some (T2.T.bl (Sc.isL c)))=((Tm.tl x).map Sc.isL).map T2.T.bl:=by rw [List.map_map,Wm.gb];rfl
     rw [e]
     bv_omega
     refine DW rfl (z6 _) ?_
     rw [CB,Bool.false_xor,List.all_map,show (id ∘ Sc.isL)=Sc.isL from rfl]
     bv_omega
     refine ifB (λhb=>?_) λhb=>?_
     ·bv_omega
      exact .mk (no (by rw [show (Tm.tl x).all Sc.isL=false by simpa using hb,Bool.and_false]))
     ·bv_omega
      refine hN _ _ ⟨_,rfl,rfl,λy hy=>hl y (List.mem_cons_of_mem _ hy),?_⟩
      rw [he]
      unfold Sc.isP
      rw [show (Tm.tl x).all Sc.isL=true by simpa using hb,Tm.len,decide_eq_true (by omega),decide_eq_true (p:=x.length<=12) (by omega)]
      rfl
   ·rintro σ' S' ⟨u,rfl,rfl,hl,he⟩
    refine ⟨trivial,?_⟩
    rw [he,List.all_nil,Bool.and_true] at hq
    bv_omega
    rw [show decide (((Txt.split z " ").length:Int)<5)=decide ((Txt.split z " ").length<=4) by rw [Bool.eq_iff_iff];simp only [decide_eq_true_eq];omega]
    exact .mk hq
 ·obtain ⟨v,hv1,hv2⟩:=km (S:=S) T hn
  bv_omega
  refine jh hv1 hv2 ?_
  bv_omega
  exact .mk hq
def Sg (z:Str):Prop:=∀ c∈Tm.tl z,c<1000
theorem Sg.lb {z:Str}(h:LB z):Sg z:=λc hc=>by
 rcases h c hc with e|e
 ·omega
 ·simp only [Sc.isL,Bool.and_eq_true,decide_eq_true_eq] at e;omega
theorem Sg.app {x y:Str}(h1:Sg x) (h2:Sg y):Sg (x++y):=λc hc=>by
 rw [Tm.i4] at hc
 rcases List.mem_append.mp hc with h|h
 ·exact h1 c h
 ·exact h2 c h
theorem Sg.slice {x:Str}{lo hi:Option Int}(h:Sg x):Sg (PySem.Txt.slice x lo hi):=λc hc=>by
 rw [Tm.j7] at hc
 exact h c (List.mem_of_mem_drop (List.mem_of_mem_take hc))
theorem jr {z:Str}(h:Sg z):PyData.strOk z=true:=by
 unfold PyData.strOk
 rw [Array.all_eq_true_iff_forall_mem]
 intro c hc
 have:=h c (by simpa [Tm.tl] using hc)
 rw [decide_eq_true_eq]
 omega
theorem me (x:Str) (lo hi:Option Int):(PySem.Txt.slice x lo hi).length<=x.length:=by
 rw [<- Tm.len,Tm.j7,<- Tm.len x,List.length_take,List.length_drop]
 omega
theorem bX (x y:Str):(x++y).length=x.length+y.length:=by rw [<- Tm.len,Tm.i4,List.length_append,Tm.len,Tm.len]
theorem up1:∀ c<128,(c=32\/Sc.isL c=true)->(Unicode.upperOf c).length=1/\(Unicode.upperOf c).all (λd=>decide (d<1000))=true:=by decide +kernel
theorem up2 {c:Nat}(h:c=32\/Sc.isL c=true):(Unicode.upperOf c).length=1/\∀ d∈Unicode.upperOf c,d<1000:=by
 have l:c<128:=by
  rcases h with e|e
  ·omega
  ·simp only [Sc.isL,Bool.and_eq_true,decide_eq_true_eq] at e;omega
 obtain ⟨h1,h2⟩:=up1 c l h
 exact ⟨h1,λd hd=>of_decide_eq_true (List.all_eq_true.mp h2 d hd)⟩
theorem sT (z:Str):Tm.tl (Txt.upper z)=(Tm.tl z).flatMap Unicode.upperOf:=by
 unfold Tm.tl Txt.upper placed
 simp [Array.toList_flatten,List.flatMap]
 rw [show List.mapIdx (λi c=>(Unicode.upperOf c).toArray) z.cps.toList=z.cps.toList.map λc=>(Unicode.upperOf c).toArray by apply List.ext_getElem<;>simp,List.map_map]
 rfl
theorem EH {z:Str}(h:LB z):Sg (Txt.upper z):=λc hc=>by
 rw [sT,List.mem_flatMap] at hc
 obtain ⟨a,ha,hc⟩:=hc
 exact (up2 (h a ha)).2 c hc
theorem rE:∀ l:List Nat,(∀ c∈l,c=32\/Sc.isL c=true)->(l.flatMap Unicode.upperOf).length=l.length
 |[],_=>rfl
 |c::l,h=>by rw [List.flatMap_cons,List.length_append,rE l λd hd=>h d (List.mem_cons_of_mem _ hd),(up2 (h c List.mem_cons_self)).1,List.length_cons];omega
theorem rF {z:Str}(h:LB z):(Txt.upper z).length=z.length:=by
 rw [<- Tm.len,sT,rE _ h,Tm.len]
def Thg (t:T2.T):Prop:=(∃ z:Str,t=.str z/\z.length<=1000/\PyData.strOk z=true)\/jq t/\∃ d,(∀ S,bC S t=some d)/\Tng d
theorem Thg.s {z:Str}(h:z.length<=1000) (h2:Sg z):Thg (.str z):=.inl ⟨z,rfl,h,jr h2⟩
theorem p7 {z:Str}(h:z.length<=100) (ho:PyData.strOk z=true):(reprText z).length<=1002:=by
 have:=StrLaws.reprText_len z λc hc=>by
  unfold PyData.strOk at ho
  rw [Array.all_eq_true_iff_forall_mem] at ho
  have:=of_decide_eq_true (ho c (by simpa using hc))
  omega
 omega
theorem CC {z:Str}(h:z.length<=100) (ho:PyData.strOk z=true):Tng (.list [.str z]):=by
 refine ⟨rfl,rfl,by simp [PyData.depth,PyData.depthAll],?_⟩
 have:=p7 h ho
 show (PySem.listText [reprText z]).length<=10002
 show ((("[":Str)++("":Str))++reprText z++("]":Str)).length<=10002
 simp only [bX]
 have a1:("[":Str).length=1:=by decide +kernel
 have a2:("]":Str).length=1:=by decide +kernel
 have a3:("":Str).length=0:=by decide +kernel
 omega
theorem CD {z:Str}(h:z.length<=100) (ho:PyData.strOk z=true):Tng (.tuple [.str z]):=by
 refine ⟨rfl,rfl,by simp [PyData.depth,PyData.depthAll],?_⟩
 have:=p7 h ho
 show (PySem.tupleText [reprText z]).length<=10002
 show (("(":Str)++reprText z++(",)":Str)).length<=10002
 simp only [bX]
 have a1:("(":Str).length=1:=by decide +kernel
 have a2:(",)":Str).length=2:=by decide +kernel
 omega
def o9:WSp:=λts S Q=>∃ p o,ts=[.ref p]/\S p=some o/\aW o/\∀ t o',Thg t->aW o'->Q t (put S p o')
theorem mQ:FnScope ["_law_box_here","_law_word_here","_law_at","_law_some"] vv5 (aj d3):=by nofun
theorem wm {f f1 f2:Addr}{fd fd1 fd2:FuncData}(F:Fun K "_law_no_word" "_law_no_word" d3 f fd) (T:Txt K mg C Z) (G__law_take:FnOk P w K mg base CX0 1 f1 fd1 vv1 (lSp K dc)) (D__law_take:Df K mg "_law_take" f1 fd1 vv1)
  (G__law_word:FnOk P w K mg base CX0 2 f2 fd2 vv5 (lSp K gz)) (D__law_word:Df K mg "_law_word" f2 fd2 vv5) :
  FnOk P w K mg base CX0 3 f fd vv5 (lSp K o9):=by
 refine bg F mQ (λts S Q h=>?_) λcdv A outer s H E hr=>?_
 ·obtain ⟨p,o,rfl,_⟩:=h;rfl
 have nd:=mQ.nd
 refine ⟨_,((am (aG (i:=1) nd rfl (Or.inl rfl) (ay G__law_word D__law_word hr.m (by rfl) (ae (aa 0) af (ac rfl))))
   (am (aG (i:=2) nd rfl (Or.inl rfl) (ay G__law_take D__law_take hr.m (by rfl) (ae (aa 0) (ae (aB (aV false) (aP (cc rfl) (by rfl) T.len PySem.boot_len (ae (aa 1) af (ac rfl))) ag) af (ac rfl)) (ac rfl))))
   (am (aG (i:=3) nd rfl (Or.inl rfl) (bJ (ae aN (ae aN (ae (aB (aV false) (aB (aV false) (bV false rfl (aa 1) bT (bU (aa 2))) aN) (bV false rfl (aa 1) (bU (aa 2)) bT)) (ae (aB (aV false) (aB (aV false) (bV false rfl (aa 1) bT (bU (aa 2))) aN) (bV false rfl (aa 1) (bU (aa 2)) bT)) (ae (aB (aV false) (aa 1) aN) (ae (aB (aV false) aN (aa 1)) (ae (aB (aV false) (aa 1) aN) af (ac rfl)) (ac rfl)) (ac rfl)) (ac rfl)) (ac rfl)) (ac rfl)) (ac rfl))))
   (am (aG (i:=3) nd rfl (Or.inl rfl) (aB (aV false) (aa 3) (bJ (ae aN (ae aN (ae aN (ae (aB (aV false) (aB (aV false) (bV false rfl (aa 1) bT (bU (aa 2))) aN) (bV false rfl (aa 1) (bU (aa 2)) bT)) af (ac rfl)) (ac rfl)) (ac rfl)) (ac rfl)))))
   (al (aE (aU rfl (aB (aV false) (aa 3) (bJ (ae rQ (ae cI (ae ag (ae ag (ae (bJ (ae (aa 1) af (ac rfl))) (ae (gG (ae (aa 1) af (ac rfl))) (ae (bJ af) (ae (Eb rfl PySem.F.plainAttrs_str PySem.F.slot_str_upper PySem.F.type_str_upper zE (aa 1) (λh1 h2=>qg PySem.F.plainAttrs_str PySem.F.slot_str_upper PySem.F.type_str_upper h2 h1)) af (ac rfl)) (ac rfl)) (ac rfl)) (ac rfl)) (ac rfl)) (ac rfl)) (ac rfl)) (ac rfl)))) (ay G__law_take D__law_take hr.m (by rfl) (ae (aa 0) (ae ag af (ac rfl)) (ac rfl))) (λ_ _=>rfl))))))))),λts S Q h=>?_⟩
 obtain ⟨p,o,rfl,ho,hb,hq⟩:=h
 ac_nf
 bv_omega
 have hz:=Wm.dM hzw
 bv_omega
 have s1:=me z none (some r)
 have s2:=me z (some r) none
 have cA:(Str.ofString "A").length=1:=by decide +kernel
 have c7:(Str.ofString "7").length=1:=by decide +kernel
 have cm:(Str.ofString "-").length=1:=by decide +kernel
 have cb:(Str.ofString "  b").length=3:=by decide +kernel
 have c1:(Str.ofString " ").length=1:=by decide +kernel
 bv_omega
 refine fh rfl rfl (by simp only [List.length_cons,List.length_nil];rw [sizeLine_eq];decide) ?_
 bv_omega
 refine ⟨z,rfl,rfl,by rw [rF (LB.of hzw),sizeLine_eq];omega,?_⟩
 bv_omega
 refine fh rfl rfl (by simp only [List.cons_append,List.nil_append,List.length_cons,List.length_nil];rw [sizeLine_eq];decide) ?_
 bv_omega
 refine fG Thg hr0 (by simp only [List.cons_append,List.nil_append,List.length_cons,List.length_nil];omega) (λt ht=>?_) λt ht=>?_
 ·have lb:=LB.of hzw
  have sg:=Sg.lb lb
  have cs:∀ x:Str,(Tm.tl x).all (λc=>decide (c<1000))=true->Sg x:=λx h c hc=>of_decide_eq_true (List.all_eq_true.mp h c hc)
  have sA:=cs (Str.ofString "A") (by decide +kernel)
  have s7:=cs (Str.ofString "7") (by decide +kernel)
  have sm:=cs (Str.ofString "-") (by decide +kernel)
  have sb:=cs (Str.ofString "  b") (by decide +kernel)
  have s0:=cs (Str.ofString " ") (by decide +kernel)
  have hu:=rF lb
  have ng:∀ d,(PyData.canLay0 d=true)->True:=λ_ _=>trivial
  simp only [List.cons_append,List.nil_append,List.mem_cons,List.not_mem_nil,or_false] at ht
  rcases ht with rfl|rfl|rfl|rfl|rfl|rfl|rfl|rfl|rfl|rfl|rfl|rfl|rfl|rfl|rfl|rfl|rfl|rfl|rfl
  ·exact .s (by decide +kernel) (cs _ (by decide +kernel))
  ·exact .s (by decide +kernel) s0
  ·exact .s (by rw [bX,bX];omega) ((sg.slice.app sA).app sg.slice)
  ·exact .s (by rw [bX,bX];omega) ((sg.slice.app s7).app sg.slice)
  ·exact .s (by rw [bX];omega) (sg.app sb)
  ·exact .s (by rw [bX];omega) (s0.app sg)
  ·exact .s (by rw [bX];omega) (sg.app s0)
  ·exact .s (by decide +kernel) (cs _ (by decide +kernel))
  ·exact .s (by decide +kernel) (cs _ (by decide +kernel))
  ·exact .s (by decide +kernel) (cs _ (by decide +kernel))
  ·exact .s (by rw [bX,bX];omega) ((sg.slice.app sm).app sg.slice)
  ·exact .inr ⟨.inl rfl,_,λS=>rfl,by decide +kernel,by decide +kernel,by decide +kernel,by decide +kernel⟩
  ·exact .inr ⟨.inr (.inl ⟨_,rfl⟩),_,λS=>rfl,by decide +kernel,by decide +kernel,by decide +kernel,by decide +kernel⟩
  ·exact .inr ⟨.inr (.inr (.inl ⟨_,rfl⟩)),_,λS=>rfl,by decide +kernel,by decide +kernel,by decide +kernel,by decide +kernel⟩
  ·exact .inr ⟨.inr (.inr (.inl ⟨_,rfl⟩)),_,λS=>rfl,by decide +kernel,by decide +kernel,by decide +kernel,by decide +kernel⟩
  ·exact .inr ⟨.inr (.inr (.inr (.inl ⟨_,rfl⟩))),_,λS=>rfl,CC (by omega) (jr sg)⟩
  ·exact .inr ⟨.inr (.inr (.inr (.inr ⟨_,rfl⟩))),_,λS=>rfl,CD (by omega) (jr sg)⟩
  ·exact .inr ⟨.inr (.inr (.inr (.inl ⟨_,rfl⟩))),_,λS=>rfl,by decide +kernel,by decide +kernel,by decide +kernel,by decide +kernel⟩
  ·exact .s (by omega) (EH lb)
 ·bv_omega
  exact .mk (hq _ _ ht hbx)
def p8 (Z:Zs):WSp:=λts S Q=>∃ a c,ts=[.ref a]/\S a=some (.exk c)/\((c=Z.N/\Q (.lst ([true,false,false,false,false,false,false,false].map T2.T.bl)) S)\/(c=Z.T/\Q (.lst ([false,true,false,false,false,false,false,false].map T2.T.bl)) S)\/(c=Z.A/\Q (.lst ([false,false,true,false,false,false,false,false].map T2.T.bl)) S))
theorem nh:FnScope ["_law_e","_law_kinds_here"] ["_law_e"] (aj d7):=by nofun
theorem xU {f:Addr}{fd:FuncData}(F:Fun K "_law_kinds" "_law_kinds" d7 f fd) (T:Txt K mg C Z):FnOkH P w K mg base CX0 1 f fd ["_law_e"] (lSp K (p8 Z)):=by
 refine zG F nh (λts S Q h=>?_) λcdv A outer s H E hr=>?_
 ·obtain ⟨a,c,rfl,_⟩:=h;rfl
 have nd:=nh.nd
 refine ⟨_,((am (aG (i:=1) nd rfl (Or.inl rfl) (bJ (ae (aP (cW rfl T.gx) (by rfl) T.isinstance PyProof.Rows.boot_isinstance (ae (aa 0) (ae (dj (by rfl) T.mg_NoWord) af (ac rfl)) (ac rfl))) (ae (aP (cW rfl T.gx) (by rfl) T.isinstance PyProof.Rows.boot_isinstance (ae (aa 0) (ae (dj (by rfl) T.mg_Twice) af (ac rfl)) (ac rfl))) (ae (aP (cW rfl T.gx) (by rfl) T.isinstance PyProof.Rows.boot_isinstance (ae (aa 0) (ae (dj (by rfl) T.mg_Absent) af (ac rfl)) (ac rfl))) (ae (aP (cW rfl T.gx) (by rfl) T.isinstance PyProof.Rows.boot_isinstance (ae (aa 0) (ae (dj (by rfl) T.mg_Beside) af (ac rfl)) (ac rfl))) af (ac rfl)) (ac rfl)) (ac rfl)) (ac rfl))))
   (am (aG (i:=1) nd rfl (Or.inl rfl) (aB (aV false) (aa 1) (bJ (ae (aP (cW rfl T.gx) (by rfl) T.isinstance PyProof.Rows.boot_isinstance (ae (aa 0) (ae (dj (by rfl) T.mg_NoChoice) af (ac rfl)) (ac rfl))) (ae (aP (cW rfl T.gx) (by rfl) T.isinstance PyProof.Rows.boot_isinstance (ae (aa 0) (ae (dj (by rfl) T.mg_NoRow) af (ac rfl)) (ac rfl))) (ae (aP (cW rfl T.gx) (by rfl) T.isinstance PyProof.Rows.boot_isinstance (ae (aa 0) (ae (dj (by rfl) T.mg_NoSign) af (ac rfl)) (ac rfl))) (ae (aP (cW rfl T.gx) (by rfl) T.isinstance PyProof.Rows.boot_isinstance (ae (aa 0) (ae (dj (by rfl) T.mg_NoText) af (ac rfl)) (ac rfl))) af (ac rfl)) (ac rfl)) (ac rfl)) (ac rfl)))))
   (al (aE (aa 1)))))),λts S Q h=>?_⟩
 obtain ⟨a,c,rfl,ha,h⟩:=h
 ac_nf
 rcases h with ⟨rfl,hq⟩|⟨rfl,hq⟩|⟨rfl,hq⟩
 ·bv_omega
  refine aQ ha (.inl rfl) rfl T.knn ?_
  bv_omega
  refine aQ ha (.inl rfl) rfl T.knt ?_
  bv_omega
  refine aQ ha (.inl rfl) rfl T.kna ?_
  bv_omega
  refine aQ ha (.inl rfl) rfl T.knb1 ?_
  bv_omega
  refine aQ ha (.inl rfl) rfl T.knb2 ?_
  bv_omega
  refine aQ ha (.inl rfl) rfl T.knb3 ?_
  bv_omega
  refine aQ ha (.inl rfl) rfl T.knb4 ?_
  bv_omega
  refine aQ ha (.inl rfl) rfl T.knb5 ?_
  bv_omega
  refine fh rfl rfl (by simp only [List.length_cons,List.length_nil];rw [sizeLine_eq];decide) ?_
  bv_omega
  exact .mk hq
 ·bv_omega
  refine aQ ha (.inr (.inl rfl)) rfl T.ktn ?_
  bv_omega
  refine aQ ha (.inr (.inl rfl)) rfl T.ktt ?_
  bv_omega
  refine aQ ha (.inr (.inl rfl)) rfl T.kta ?_
  bv_omega
  refine aQ ha (.inr (.inl rfl)) rfl T.ktb1 ?_
  bv_omega
  refine aQ ha (.inr (.inl rfl)) rfl T.ktb2 ?_
  bv_omega
  refine aQ ha (.inr (.inl rfl)) rfl T.ktb3 ?_
  bv_omega
  refine aQ ha (.inr (.inl rfl)) rfl T.ktb4 ?_
  bv_omega
  refine aQ ha (.inr (.inl rfl)) rfl T.ktb5 ?_
  bv_omega
  refine fh rfl rfl (by simp only [List.length_cons,List.length_nil];rw [sizeLine_eq];decide) ?_
  bv_omega
  exact .mk hq
 ·bv_omega
  refine aQ ha (.inr (.inr rfl)) rfl T.kan ?_
  bv_omega
  refine aQ ha (.inr (.inr rfl)) rfl T.kat ?_
  bv_omega
  refine aQ ha (.inr (.inr rfl)) rfl T.kaa ?_
  bv_omega
  refine aQ ha (.inr (.inr rfl)) rfl T.kab1 ?_
  bv_omega
  refine aQ ha (.inr (.inr rfl)) rfl T.kab2 ?_
  bv_omega
  refine aQ ha (.inr (.inr rfl)) rfl T.kab3 ?_
  bv_omega
  refine aQ ha (.inr (.inr rfl)) rfl T.kab4 ?_
  bv_omega
  refine aQ ha (.inr (.inr rfl)) rfl T.kab5 ?_
  bv_omega
  refine fh rfl rfl (by simp only [List.length_cons,List.length_nil];rw [sizeLine_eq];decide) ?_
  bv_omega
  exact .mk hq
theorem mf {i:Nat}{D:EndsT}{σ:StT}{S:Sto}(h:D.nx (σ.set i none) S):(asE i D).nx σ S:=h
theorem CF {wn:WS}{r:WR}{wh:WH}{D:EndsT}{σ:StT}{S:Sto}(M:Addr->StT->Sto->Prop) (h1:∀ X:WX,(∀ C σ S,M C σ S->X C σ S)->r σ S X) (h2:∀ C σ S,M C σ S->wh C D σ S):jC wn r wh D σ S:=.inr (h1 _ h2)
theorem ixn (l:List Bool) (j:Nat) (h:(l.take j).all (!·)=true):∀ i z,i<j->l[i]?=some z->z≠true:=λi z hi e q=>by
 subst q
 have:=List.all_eq_true.mp h true (List.mem_of_getElem? (i:=i) (by rw [List.getElem?_take,if_pos hi];exact e))
 cases this
def sd (w:Int) (t:T2.T) (n:Int) (ms:Ms):Int×Ms:=match t with
 |.str z=>if w=0 then (if Wm.Wd z=true then (match look ms z with|some _=>(1,ms)|none=>(9,ms++[(z,5,n)])) else (0,ms)) else
  match look ms z with
  |none=>(2,ms)
  |some m=>(9,if w=1 then pu ms z (wrt m n+1,n) else if w=2 then dr ms z else if w=3 then ms else pu ms z (wrt m n+3,n))
 |_=>(0,ms)
section
variable {n c:Int}{ms:Ms}{z:Str}{m:Int×Int}{t:T2.T}
theorem jE (h:Bad t):sd 0 t n ms=(0,ms):=by
 rcases h with ⟨z,rfl,_,_,h⟩|⟨h,_⟩
 ·simp only [sd,if_true,h,Bool.false_eq_true,if_false]
 ·rcases h with rfl|⟨b,rfl⟩|⟨i,rfl⟩|⟨l,rfl⟩|⟨l,rfl⟩<;>rfl
theorem jF (h:Wm.Wd z=true) (hm:look ms z=some m):sd 0 (.str z) n ms=(1,ms):=by simp only [sd,if_true,h,hm]
theorem jG (h:Wm.Wd z=true) (hm:look ms z=none):sd 0 (.str z) n ms=(9,ms++[(z,5,n)]):=by simp only [sd,if_true,h,hm]
theorem jH {w:Int}(h:w≠0) (hm:look ms z=none):sd w (.str z) n ms=(2,ms):=by simp only [sd,if_neg h,hm]
theorem t8 (hm:look ms z=some m):sd 1 (.str z) n ms=(9,pu ms z (wrt m n+1,n)):=by simp [sd,hm]
theorem t9 (hm:look ms z=some m):sd 2 (.str z) n ms=(9,dr ms z):=by simp [sd,hm]
theorem ua (hm:look ms z=some m):sd 3 (.str z) n ms=(9,ms):=by simp [sd,hm]
theorem ub (hm:look ms z=some m):sd 4 (.str z) n ms=(9,pu ms z (wrt m n+3,n)):=by simp [sd,hm]
end
def Tg (w:Int) (t:T2.T):Prop:=(∃ z:Str,t=.str z/\z.length<=1000/\PyData.strOk z=true)\/w=0/\Bad t
theorem w5 {w:Int}(h0:0<=w) (h1:w<5):w=0\/w=1\/w=2\/w=3\/w=4:=by omega
def rG (C:Addr):WSp:=λts S Q=>∃ p d n ms w t,ts=[.ref p,.int w,t]/\Wo C S p d n ms/\ms.length<=200/\(∀ a∈ms,a.2.2<=n)/\0<=w/\w<5/\Tg w t/\Q (.int (sd w t n ms).1) (put S d (.dK (kt mkT (sd w t n ms).2)))
theorem nG:FnScope ["_law_wood","_law_way","_law_thing","_law_said_here","_law_e","_law_kinds_here"] vv9 (aj eE):=by nofun
theorem z7 {f f1 f2 f3 f4 f5:Addr}{fd fd1 fd2 fd3 fd4 fd5:FuncData}{tk:Tok}(F:Fun K "_law_said" "_law_said" eE f fd) (T:Txt K mg C Z)
  (G_Wood_put:FnOk P w K mg base CX0 4 f1 fd1 vv4 (lSp K (l9 C))) (R_Wood_put:FnOk P w K mg base (CX1 P w) 4 f1 fd1 vv4 (bD K (rB C Z.N Z.T))) (M_Wood_put:Meth K C "put" f1) (B_Wood_put:aq K fd1 vv4 [])
  (G_Wood_use:FnOk P w K mg base CX0 3 f2 fd2 vv7 (lSp K (sO C))) (R_Wood_use:FnOk P w K mg base (CX1 P w) 3 f2 fd2 vv7 (bD K (rD C Z.A))) (M_Wood_use:Meth K C "use" f2) (B_Wood_use:aq K fd2 vv7 []) (B0_Wood_use:aq K fd2 vv7 [.int 1 tk])
  (G_Wood_strike:FnOk P w K mg base CX0 2 f3 fd3 vv0 (lSp K (o7 C))) (R_Wood_strike:FnOk P w K mg base (CX1 P w) 3 f3 fd3 vv0 (bD K (iz C Z.A))) (M_Wood_strike:Meth K C "strike" f3) (B_Wood_strike:aq K fd3 vv0 [])
  (G_Wood_worth_of:FnOk P w K mg base CX0 2 f4 fd4 vv0 (lSp K (sS C))) (R_Wood_worth_of:FnOk P w K mg base (CX1 P w) 3 f4 fd4 vv0 (bD K (iz C Z.A))) (M_Wood_worth_of:Meth K C "worth_of" f4) (B_Wood_worth_of:aq K fd4 vv0 [])
  (H__law_kinds:FnOkH P w K mg base CX0 1 f5 fd5 ["_law_e"] (lSp K (p8 Z))) (D__law_kinds:Df K mg "_law_kinds" f5 fd5 ["_law_e"]) :
  FnOk P w K mg base CX0 5 f fd vv9 (lSp K (rG C)):=by
 refine bg F nG (λts S Q h=>?_) λcdv A outer s H E hr=>?_
 ·obtain ⟨p,d,n,ms,w,t,rfl,_⟩:=h;rfl
 have nd:=nG.nd
 refine ⟨_,((am (aG (i:=3) nd rfl (Or.inl rfl) ag)
   (am (BW ⟨rfl,rfl⟩ (am (aI (aC (aX rfl hr.units) (aa 1) ag (aH _))
    (al (a9 (br (T.gf M_Wood_put) G_Wood_put B_Wood_put hr.m (aa 0) (ae (aa 2) (ae ag af (ac rfl)) (ac rfl)))))
    aJ)
   (am (aI (aC (aX rfl hr.units) (aa 1) ag (aH _))
    (al (a9 (pY (T.gf M_Wood_use) G_Wood_use B0_Wood_use hr.m (aa 0) (ae (aa 2) af (ac rfl)))))
    aJ)
   (am (aI (aC (aX rfl hr.units) (aa 1) ag (aH _))
    (al (a9 (br (T.gf M_Wood_strike) G_Wood_strike B_Wood_strike hr.m (aa 0) (ae (aa 2) af (ac rfl)))))
    aJ)
   (am (aI (aC (aX rfl hr.units) (aa 1) ag (aH _))
    (al (a9 (br (T.gf M_Wood_worth_of) G_Wood_worth_of B_Wood_worth_of hr.m (aa 0) (ae (aa 2) af (ac rfl)))))
    aJ)
   (al (aI (aC (aX rfl hr.units) (aa 1) ag (aH _))
    (al (a9 (br (T.gf M_Wood_use) G_Wood_use B_Wood_use hr.m (aa 0) (ae (aa 2) (ae ag af (ac rfl)) (ac rfl)))))
    aJ))))))
    (gw (bb (di (aC (aX rfl hr.units) (aa 1) ag (aH _)) (bb (eW (dF (T.gf M_Wood_put) R_Wood_put B_Wood_put hr.m (aa 0) (ae (aa 2) (ae ag af (ac rfl)) (ac rfl)))))
    c9))
   (fU (aI (aC (aX rfl hr.units) (aa 1) ag (aH _))
    (al (a9 (br (T.gf M_Wood_put) G_Wood_put B_Wood_put hr.m (aa 0) (ae (aa 2) (ae ag af (ac rfl)) (ac rfl)))))
    aJ)
   (gw (bb (di (aC (aX rfl hr.units) (aa 1) ag (aH _)) (bb (eW (xE (T.gf M_Wood_use) R_Wood_use B0_Wood_use hr.m (aa 0) (ae (aa 2) af (ac rfl)))))
    c9))
   (fU (aI (aC (aX rfl hr.units) (aa 1) ag (aH _))
    (al (a9 (pY (T.gf M_Wood_use) G_Wood_use B0_Wood_use hr.m (aa 0) (ae (aa 2) af (ac rfl)))))
    aJ)
   (gw (bb (di (aC (aX rfl hr.units) (aa 1) ag (aH _)) (bb (eW (dF (T.gf M_Wood_strike) R_Wood_strike B_Wood_strike hr.m (aa 0) (ae (aa 2) af (ac rfl)))))
    c9))
   (fU (aI (aC (aX rfl hr.units) (aa 1) ag (aH _))
    (al (a9 (br (T.gf M_Wood_strike) G_Wood_strike B_Wood_strike hr.m (aa 0) (ae (aa 2) af (ac rfl)))))
    aJ)
   (gw (bb (di (aC (aX rfl hr.units) (aa 1) ag (aH _)) (bb (eW (dF (T.gf M_Wood_worth_of) R_Wood_worth_of B_Wood_worth_of hr.m (aa 0) (ae (aa 2) af (ac rfl)))))
    c9))
   (fU (aI (aC (aX rfl hr.units) (aa 1) ag (aH _))
    (al (a9 (br (T.gf M_Wood_worth_of) G_Wood_worth_of B_Wood_worth_of hr.m (aa 0) (ae (aa 2) af (ac rfl)))))
    aJ)
   (bb (di (aC (aX rfl hr.units) (aa 1) ag (aH _)) (bb (eW (dF (T.gf M_Wood_use) R_Wood_use B_Wood_use hr.m (aa 0) (ae (aa 2) (ae ag af (ac rfl)) (ac rfl)))))
    c9))))))))))
    (EC (i:=4) rfl nd rfl rfl (by rfl) T.mg_AheadError (λ_=>(am (aG (i:=5) nd rfl (Or.inl rfl) (zH H__law_kinds D__law_kinds (hr.m.h.mark) (by rfl) (ae (aa 4) af (ac rfl))))
   (am (aG (i:=3) nd rfl (Or.inl rfl) ag)
   (al (aI (gS (rS (aC (aX rfl hr.units) (bo rfl PySem.F.plainAttrs_list PySem.F.slot_list_count PySem.F.type_list_count (xH rfl) (aa 5) (ae cI af (ac rfl)) (λh1 h2 h3=>bj PySem.F.plainAttrs_list PySem.F.slot_list_count PySem.F.type_list_count h2 h1 h3)) ag (aH _)) (qk (cj (aP (cW rfl T.gx) (by rfl) T.isinstance PyProof.Rows.boot_isinstance (ae (aa 4) (ae (jB (n:="ValueError") (by rfl) T.ValueError (by rfl)) af (ac rfl)) (ac rfl)))))))
    (al (aG (i:=3) nd rfl (Or.inl rfl) (bo rfl PySem.F.plainAttrs_list PySem.F.slot_list_index PySem.F.type_list_index (xI rfl) (aa 5) (ae cI af (ac rfl)) (λh1 h2 h3=>bj PySem.F.plainAttrs_list PySem.F.slot_list_index PySem.F.type_list_index h2 h1 h3))))
    aJ))))) (BV BS)))
   (al (aE (aa 3)))))),λts S Q h=>?_⟩
 obtain ⟨p,d,n,ms,w,t,rfl,W,hl,old,h0,h4,ht,hq⟩:=h
 have hp:=W.ins
 have same:put S d (.dK (kt mkT ms))=S:=eQ W.dct
 ac_nf
 bv_omega
 have hs:(∃ z,t=.str z/\z.length<=1000/\PyData.strOk z=true/\(w=0->Wm.Wd z=true))\/w=0/\Bad t:=by
  rcases ht with ⟨z,rfl,a,b⟩|h
  ·by_cases hw:w=0/\¬ Wm.Wd z=true
   ·exact .inr ⟨hw.1,.inl ⟨z,rfl,a,b,by simpa using hw.2⟩⟩
   ·exact .inl ⟨z,rfl,a,b,λq=>by by_cases h:Wm.Wd z=true;exact h;exact absurd ⟨q,h⟩ hw⟩
  ·exact .inr h
 rcases hs with ⟨z,rfl,hzl,hzo,hwd⟩|⟨rfl,hB⟩
 rotate_left
 ·rw [jE hB] at hq
  dsimp only at hq
  rw [same] at hq
  refine qU ?_
  refine fJ ?_
  bv_omega
  rw [Bool.false_xor,decide_eq_true rfl]
  bv_omega
  refine ⟨p,d,n,ms,t,5,rfl,W,.inl ⟨hB,?_⟩⟩
  refine li T.e_NoWord λa ha=>?_
  and_intros
  bv_omega
  refine ⟨a,_,rfl,aK,.inl ⟨rfl,?_⟩⟩
  bv_omega
  refine ⟨_,_,rfl,rfl,?_⟩
  bv_omega
  rw [Bool.false_xor,decide_eq_true (by decide)]
  bv_omega
  refine aQ aK (.inl rfl) rfl T.vn ?_
  bv_omega
  refine ⟨_,_,0,rfl,rfl,rfl,ixn _ _ rfl,?_⟩
  bv_omega
  refine mf ?_
  and_intros
  bv_omega
  exact .le (.put ha) hq
 cases hm:look ms z with
 |none =>
  by_cases hw0:w=0
  ·subst hw0
   rw [jG (hwd rfl) hm] at hq
   refine gv ?_
   bv_omega
   rw [Bool.false_xor,decide_eq_true rfl]
   bv_omega
   refine ⟨p,d,n,ms,z,5,rfl,W,hl,hwd rfl,hm,?_⟩
   bv_omega
   rw [Bool.false_xor,decide_eq_false (by decide)]
   bv_omega
   rw [Bool.false_xor,decide_eq_false (by decide)]
   bv_omega
   rw [Bool.false_xor,decide_eq_false (by decide)]
   bv_omega
   rw [Bool.false_xor,decide_eq_false (by decide)]
   bv_omega
   exact .mk hq
  ·rw [jH hw0 hm] at hq
   dsimp only at hq
   rw [same] at hq
   refine CF (λC σ' S'=>C=Z.A/\σ'=[some (.ref p),some (.int w),some (.str z),some (.int 9),none,none]/\S'=S) ?_ ?_
   ·intro X hX
    rcases w5 h0 h4 with rfl|rfl|rfl|rfl|rfl
    ·exact absurd rfl hw0
    ·refine ck ?_
     bv_omega
     rw [Bool.false_xor,decide_eq_false (by decide)]
     bv_omega
     refine fJ ?_
     bv_omega
     rw [Bool.false_xor,decide_eq_true rfl]
     bv_omega
     refine ⟨p,d,n,ms,z,1,rfl,W,hm,hzl,hzo,?_⟩
     exact hX _ _ _ ⟨rfl,rfl,rfl⟩
    ·refine ck ?_
     bv_omega
     rw [Bool.false_xor,decide_eq_false (by decide)]
     bv_omega
     refine ck ?_
     bv_omega
     rw [Bool.false_xor,decide_eq_false (by decide)]
     bv_omega
     refine fJ ?_
     bv_omega
     rw [Bool.false_xor,decide_eq_true rfl]
     bv_omega
     refine ⟨p,d,n,ms,z,rfl,W,hm,hzl,hzo,?_⟩
     exact hX _ _ _ ⟨rfl,rfl,rfl⟩
    ·refine ck ?_
     bv_omega
     rw [Bool.false_xor,decide_eq_false (by decide)]
     bv_omega
     refine ck ?_
     bv_omega
     rw [Bool.false_xor,decide_eq_false (by decide)]
     bv_omega
     refine ck ?_
     bv_omega
     rw [Bool.false_xor,decide_eq_false (by decide)]
     bv_omega
     refine fJ ?_
     bv_omega
     rw [Bool.false_xor,decide_eq_true rfl]
     bv_omega
     refine ⟨p,d,n,ms,z,rfl,W,hm,hzl,hzo,?_⟩
     exact hX _ _ _ ⟨rfl,rfl,rfl⟩
    ·refine ck ?_
     bv_omega
     rw [Bool.false_xor,decide_eq_false (by decide)]
     bv_omega
     refine ck ?_
     bv_omega
     rw [Bool.false_xor,decide_eq_false (by decide)]
     bv_omega
     refine ck ?_
     bv_omega
     rw [Bool.false_xor,decide_eq_false (by decide)]
     bv_omega
     refine ck ?_
     bv_omega
     rw [Bool.false_xor,decide_eq_false (by decide)]
     bv_omega
     bv_omega
     rw [Bool.false_xor,decide_eq_true rfl]
     bv_omega
     refine ⟨p,d,n,ms,z,3,rfl,W,hm,hzl,hzo,?_⟩
     exact hX _ _ _ ⟨rfl,rfl,rfl⟩
   ·rintro _ _ _ ⟨rfl,rfl,rfl⟩
    refine li T.e_Absent λa ha=>?_
    and_intros
    bv_omega
    refine ⟨a,_,rfl,aK,.inr (.inr ⟨rfl,?_⟩)⟩
    bv_omega
    refine ⟨_,_,rfl,rfl,?_⟩
    bv_omega
    rw [Bool.false_xor,decide_eq_true (by decide)]
    bv_omega
    refine aQ aK (.inr (.inr rfl)) rfl T.va ?_
    bv_omega
    refine ⟨_,_,2,rfl,rfl,rfl,ixn _ _ rfl,?_⟩
    bv_omega
    refine mf ?_
    and_intros
    bv_omega
    exact .le (.put ha) hq
 |some m =>
  have om:m.2<=n:=old _ (eO hm)
  rcases w5 h0 h4 with rfl|rfl|rfl|rfl|rfl
  ·rw [jF (hwd rfl) hm] at hq
   dsimp only at hq
   rw [same] at hq
   refine qU ?_
   refine fJ ?_
   bv_omega
   rw [Bool.false_xor,decide_eq_true rfl]
   bv_omega
   refine ⟨p,d,n,ms,_,5,rfl,W,.inr ⟨z,m,rfl,hzl,hzo,hwd rfl,hm,?_⟩⟩
   refine li T.e_Twice λa ha=>?_
   and_intros
   bv_omega
   refine ⟨a,_,rfl,aK,.inr (.inl ⟨rfl,?_⟩)⟩
   bv_omega
   refine ⟨_,_,rfl,rfl,?_⟩
   bv_omega
   rw [Bool.false_xor,decide_eq_true (by decide)]
   bv_omega
   refine aQ aK (.inr (.inl rfl)) rfl T.vt ?_
   bv_omega
   refine ⟨_,_,1,rfl,rfl,rfl,ixn _ _ rfl,?_⟩
   bv_omega
   refine mf ?_
   and_intros
   bv_omega
   exact .le (.put ha) hq
  ·rw [t8 hm] at hq
   refine gv ?_
   bv_omega
   rw [Bool.false_xor,decide_eq_false (by decide)]
   bv_omega
   rw [Bool.false_xor,decide_eq_true rfl]
   bv_omega
   refine ⟨p,d,n,ms,z,1,m,rfl,W,hl,hm,om,?_⟩
   bv_omega
   rw [Bool.false_xor,decide_eq_false (by decide)]
   bv_omega
   rw [Bool.false_xor,decide_eq_false (by decide)]
   bv_omega
   rw [Bool.false_xor,decide_eq_false (by decide)]
   bv_omega
   exact .mk hq
  ·rw [t9 hm] at hq
   refine gv ?_
   bv_omega
   rw [Bool.false_xor,decide_eq_false (by decide)]
   bv_omega
   rw [Bool.false_xor,decide_eq_false (by decide)]
   bv_omega
   rw [Bool.false_xor,decide_eq_true rfl]
   bv_omega
   refine ⟨p,d,n,ms,z,m,rfl,W,hm,?_⟩
   bv_omega
   rw [Bool.false_xor,decide_eq_false (by decide)]
   bv_omega
   rw [Bool.false_xor,decide_eq_false (by decide)]
   bv_omega
   exact .mk hq
  ·rw [ua hm] at hq
   dsimp only at hq
   rw [same] at hq
   refine gv ?_
   bv_omega
   rw [Bool.false_xor,decide_eq_false (by decide)]
   bv_omega
   rw [Bool.false_xor,decide_eq_false (by decide)]
   bv_omega
   rw [Bool.false_xor,decide_eq_false (by decide)]
   bv_omega
   rw [Bool.false_xor,decide_eq_true rfl]
   bv_omega
   refine ⟨p,d,n,ms,z,m,rfl,W,hm,om,?_⟩
   bv_omega
   rw [Bool.false_xor,decide_eq_false (by decide)]
   bv_omega
   exact .mk hq
  ·rw [ub hm] at hq
   refine gv ?_
   bv_omega
   rw [Bool.false_xor,decide_eq_false (by decide)]
   bv_omega
   rw [Bool.false_xor,decide_eq_false (by decide)]
   bv_omega
   rw [Bool.false_xor,decide_eq_false (by decide)]
   bv_omega
   rw [Bool.false_xor,decide_eq_false (by decide)]
   bv_omega
   rw [Bool.false_xor,decide_eq_true rfl]
   bv_omega
   refine ⟨p,d,n,ms,z,3,m,rfl,W,hl,hm,om,?_⟩
   bv_omega
   exact .mk hq
theorem gN {S:Sto}{a b:Addr}{o:O}(h:S a=some o) (h2:S b=none):a≠b:=λe=>by rw [e,h2] at h;cases h
structure At (S:Sto) (l:List (Addr×O)):Prop where
 nd:(l.map (·.1)).Nodup
 is:∀ x∈l,S x.1=some x.2
section
variable {S S' S0:Sto}{l l' l0 l1 l2 l3:List (Addr×O)}{a:Addr}{o o':O}
theorem At.get (h:At S l) (i:Nat) (e:l[i]?=some (a,o)):S a=some o:=h.is _ (List.mem_of_getElem? e)
theorem z8 {i:Nat}(e:l[i]?=some (a,o)):(l.set i (a,o')).map (·.1)=l.map (·.1):=by
 rw [List.map_set]
 refine List.ext_getElem? λj=>?_
 rw [List.getElem?_set]
 by_cases h:i=j
 ·subst h;rw [if_pos rfl,if_pos (by rw [List.length_map];exact (List.getElem?_eq_some_iff.mp e).1),List.getElem?_map,e];rfl
 ·rw [if_neg h]
theorem At.put (h:At S l) (i:Nat) (e:l[i]?=some (a,o)):At (T2.put S a o') (l.set i (a,o')):=by
 obtain ⟨hi,e2⟩:=List.getElem?_eq_some_iff.mp e
 refine ⟨z8 e ▸ h.nd,λx hx=>?_⟩
 obtain ⟨j,hj,ej⟩:=List.mem_iff_getElem.mp hx
 rw [List.length_set] at hj
 rw [List.getElem_set] at ej
 split at ej
 ·subst ej;exact aK
 ·rename_i hij
  have hne:x.1≠a:=λq=>by
   have h1:=(List.getElem_inj (i:=i) (j:=j) (h₀:=by rw [List.length_map];exact hi) (h₁:=by rw [List.length_map];exact hj) h.nd).mp (by rw [List.getElem_map,List.getElem_map,e2,ej,q])
   exact hij h1
  rw [aO hne]
  exact h.is x (by rw [<- ej];exact List.getElem_mem hj)
end
section
variable {C:Addr}{S S':Sto}{l l':List (Addr×O)}{a b p d:Addr}{o u:O}
theorem At.ne (h:At S l) (i j:Nat) (hij:i≠j) (ei:l[i]?=some (a,o)) (ej:l[j]?=some (b,u)):a≠b:=λq=>by
 obtain ⟨hi,e2⟩:=List.getElem?_eq_some_iff.mp ei
 obtain ⟨hj,e3⟩:=List.getElem?_eq_some_iff.mp ej
 exact hij ((List.getElem_inj (i:=i) (j:=j) (h₀:=by rw [List.length_map];exact hi) (h₁:=by rw [List.length_map];exact hj) h.nd).mp (by rw [List.getElem_map,List.getElem_map,e2,e3];exact q))
theorem At.pick (h:At S l) (is:List Nat) (hn:is.Nodup) (e:is.map (l[·]?)=l'.map some):At S l':=by
 induction is generalizing l' with
 |nil=>cases l' with
  |nil=>exact ⟨List.nodup_nil,λx hx=>nomatch hx⟩
  |cons _ _=>cases e
 |cons i is ih =>
  cases l' with
  |nil=>cases e
  |cons x r =>
   rw [List.map_cons,List.map_cons,List.cons.injEq] at e
   have q:=ih (List.nodup_cons.mp hn).2 e.2
   refine ⟨List.nodup_cons.mpr ⟨λhm=>?_,q.nd⟩,λz hz=>?_⟩
   ·obtain ⟨z,hz,hzx⟩:=List.mem_map.mp hm
    have hz2:some z∈is.map (l[·]?):=by rw [e.2];exact List.mem_map_of_mem hz
    obtain ⟨j,hj,ej⟩:=List.mem_map.mp hz2
    exact h.ne i j (λq=>(List.nodup_cons.mp hn).1 (by rw [q];exact hj)) (a:=x.1) (o:=x.2) (b:=z.1) (u:=z.2) e.1 ej hzx.symm
   ·rcases List.mem_cons.mp hz with rfl|hz
    ·exact h.is _ (List.mem_of_getElem? e.1)
    ·exact q.is z hz
theorem At.cons (h:At S l) (ha:S a=none):At (T2.put S a o) ((a,o)::l):=by
 refine ⟨List.nodup_cons.mpr ⟨λhm=>?_,h.nd⟩,λx hx=>?_⟩
 ·obtain ⟨x,hx,e⟩:=List.mem_map.mp hm
  exact gN (h.is x hx) ha e
 ·rcases List.mem_cons.mp hx with rfl|hx
  ·exact aK
  ·exact (aO (gN (h.is x hx) ha)).trans (h.is x hx)
theorem At.wood (hA:At S l) (h1:S p=none) (h2:T2.put S p (.ins C []) d=none):At (T2.put (T2.put (T2.put S p (.ins C [])) d (.dK [])) p o) ((d,.dK [])::(p,o)::l):=((hA.cons h1).cons h2).put 1 rfl
end
theorem kS {α:Type}(f:α->Str):∀ {l m:List α},((l.map f).Pairwise λx y=>Ky.lt (.s y) (.s x)=false)->((m.map f).Pairwise λx y=>Ky.lt (.s y) (.s x)=false)->(l.map f).Nodup->l.Perm m->l=m
 |[],m,_,_,_,p=>(List.perm_nil.mp p.symm).symm
 |a::l,[],_,_,_,p=>absurd p.length_eq (by simp)
 |a::l,b::m,h1,h2,hn,p=>by
  rw [List.map_cons] at h1 h2 hn
  obtain ⟨a1,a2⟩:=List.pairwise_cons.mp h1
  obtain ⟨b1,b2⟩:=List.pairwise_cons.mp h2
  obtain ⟨n1,n2⟩:=List.nodup_cons.mp hn
  have e:a=b:=by
   rcases List.mem_cons.mp (p.mem_iff.mp List.mem_cons_self:a∈b::m) with e|e
   ·exact e
   ·rcases List.mem_cons.mp (p.mem_iff.mpr List.mem_cons_self:b∈a::l) with q|q
    ·exact q.symm
    ·have x1:=a1 (f b) (List.mem_map_of_mem q)
     have x2:=b1 (f a) (List.mem_map_of_mem e)
     rcases Ky.tri (x:=.s (f a)) (y:=.s (f b)) rfl with z|z|z
     ·rw [x2] at z;cases z
     ·exact absurd (by rw [Ky.s.inj z];exact List.mem_map_of_mem q) n1
     ·rw [x1] at z;cases z
  subst e
  rw [kS f a2 b2 n2 (List.perm_cons a |>.mp p)]
def tp (ms:Ms) (n:Int) (b:Str):T2.T:=match ((bp ms b).map λa=>wrt a.2 n).max? with
 |none=>.non
 |some i=>.int i
theorem CG {ms:Ms}{n:Int}{b:Str}(h:bp ms b=[]):tp ms n b=.non:=by unfold tp;rw [h];rfl
theorem CH {ms:Ms}{n i:Int}{b:Str}(h1:i∈(bp ms b).map λa=>wrt a.2 n) (h2:∀ j∈(bp ms b).map λa=>wrt a.2 n,j<=i):tp ms n b=.int i:=by
 unfold tp
 rw [List.max?_eq_some_iff.mpr ⟨h1,h2⟩]
def sgn (c:Nat):Bool:=!(Builtin.Str.occurrences (Str.ofString " abcdefghijklmnopqrstuvwxyz") ⟨#[c]⟩ 0 (Str.ofString " abcdefghijklmnopqrstuvwxyz").length 1).isEmpty
def cln (z:Str):Str:=PySem.Txt.slice (PySem.Txt.join (Str.ofString "") (((Tm.tl z).filter sgn).map λc=>⟨#[c]⟩)) none (some 24)
def xt:T2.T->List Str
 |.str z=>[cln z]
 |_=>[]
def row (ms:Ms) (n:Int) (x:Str):List T2.T:=((List.range (x.length+1)).map λ(k:Nat)=>tp ms n (PySem.Txt.slice x none (some (k:Int))))++[.bl (look ms x).isSome]
def lk0 (l:List Rt) (n:Int) (ms:Ms):List T2.T:=[.int n,.lst (l.map rt),.lst (((bst (rtd ms n "")).take 1000).map rt)]
def lk (l:List Rt) (n:Int) (ms:Ms) (us:List Str) (t:T2.T):List T2.T:=lk0 l n ms++(us++xt t).flatMap (row ms n)
structure Wk (n:Int) (ms:Ms):Prop where
 old:∀ a∈ms,a.2.2<=n
 nd:(ms.map (·.1)).Nodup
 wd:∀ a∈ms,Wm.Wd a.1=true
def rH (C:Addr):WSp:=λts S Q=>∃ p d n ms b,ts=[.ref p,.str b]/\Wo C S p d n ms/\ms.length<=200/\(∀ a∈ms,a.2.2<=n)/\Q (tp ms n b) S
theorem EI {ts:List T2.T}{S:Sto}{Q:T2.T->Sto->Prop}(h:rH C ts S Q):md C ts S Q:=by
 obtain ⟨p,d,n,ms,b,rfl,W,hl,old,hq⟩:=h
 exact ⟨p,d,n,ms,b,rfl,W,hl,old,λe=>by rw [CG e] at hq;exact hq,λ_ i h1 h2=>by rw [CH h1 h2] at hq;exact hq⟩
def rJ (C:Addr):WSp:=λts S Q=>∃ p d n ms u us t,ts=[.ref p,.ref u,t]/\Wo C S p d n ms/\S u=some (.lst (us.map T2.T.str))/\ms.length<=200/\Wk n ms/\us.length<=20/\(∀ x∈us,x.length<=24)/\Thg t /\
 ∀ q l,S q=none->l.Perm (ms.map λa=>(a.1,wrt a.2 n))->jD l->Q (.ref q) (put S q (.lst (lk l n ms us t)))
theorem nH:FnScope ["_law_wood","_law_words","_law_thing","_law_told","_law_word_here","_law_size"] vv8 (aj eF):=by nofun
theorem z9 {f f1 f2 f3 f4 f5:Addr}{fd fd1 fd2 fd3 fd4 fd5:FuncData}(F:Fun K "_law_look" "_law_look" eF f fd) (T:Txt K mg C Z)
  (G_Wood_era:FnOk P w K mg base CX0 1 f1 fd1 ["self"] (lSp K (sP C))) (M_Wood_era:Meth K C "era" f1) (B_Wood_era:aq K fd1 ["self"] [])
  (G_Wood_words:FnOk P w K mg base CX0 4 f2 fd2 ["self"] (lSp K (ko C))) (M_Wood_words:Meth K C "words" f2) (B_Wood_words:aq K fd2 ["self"] [])
  (G_Wood_told:FnOk P w K mg base CX0 5 f3 fd3 hZ (lSp K (rA C))) (M_Wood_told:Meth K C "told" f3) (B_Wood_told:aq K fd3 hZ [])
  (G_Wood_top_of:FnOk P w K mg base CX0 3 f4 fd4 vv3 (lSp K (md C))) (M_Wood_top_of:Meth K C "top_of" f4) (B_Wood_top_of:aq K fd4 vv3 [])
  (G_Wood_has:FnOk P w K mg base CX0 1 f5 fd5 vv0 (lSp K (sR C))) (M_Wood_has:Meth K C "has" f5) (B_Wood_has:aq K fd5 vv0 []) :
  FnOk P w K mg base CX0 6 f fd vv8 (lSp K (rJ C)):=by
 replace G_Wood_top_of:=T2.FnOk.weak (v:=rH C) G_Wood_top_of λts S Q h=>EI h
 refine bg F nH (λts S Q h=>?_) λcdv A outer s H E hr=>?_
 ·obtain ⟨p,d,n,ms,u,us,t,rfl,_⟩:=h;rfl
 have nd:=nH.nd
 refine ⟨_,((am (aG (i:=3) nd rfl (Or.inl rfl) (iX (ae (kM (T.gf M_Wood_era) G_Wood_era B_Wood_era hr.m (aa 0)) (ae (kM (T.gf M_Wood_words) G_Wood_words B_Wood_words hr.m (aa 0)) (ae (br (T.gf M_Wood_told) G_Wood_told B_Wood_told hr.m (aa 0) (ae aN (ae ag af (ac rfl)) (ac rfl))) af (ac rfl)) (ac rfl)) (ac rfl))))
   (am (aI (cj (aP (lQ rfl) (by rfl) T.isinstance PyProof.Rows.boot_isinstance (ae (aa 2) (ae (jB (n:="str") (by rfl) T.str PyProof.Rows.boot_str) af (ac rfl)) (ac rfl))))
    (al (aG (i:=1) nd rfl (Or.inl rfl) (aB (aV false) (aa 1) (bJ (ae (bV false rfl (bo rfl PySem.F.plainAttrs_str PySem.F.slot_str_join PySem.F.type_str_join (k6 rfl) aN (ae (df false ["_law_sign"] 1 [] rfl (kZ (aa 2)) (λ_ _ _ _=>(bq (i:=0) (show List.Nodup (["_law_sign"]:List Str) from by decide +kernel) rfl (Or.inl rfl))) (λ_ _ _ _=>(kE (aC (jz rfl) (aa 0) aN (by with_unfolding_all rfl)))) (λ_ _ _ _=>(aa 0))) af (ac rfl)) (λh1 h2 h3=>bj PySem.F.plainAttrs_str PySem.F.slot_str_join PySem.F.type_str_join h2 h1 h3)) bT (bU ag)) af (ac rfl))))))
    aJ)
   (am (fF PassesOwn.never rfl (eS rfl (aa 1)) (bq (i:=4) nd rfl (Or.inl rfl))
    (am (fF PassesOwn.never rfl (iy (by rfl) T.range (aB (aV false) (aP (cc rfl) (by rfl) T.len PySem.boot_len (ae (aa 4) af (ac rfl))) ag)) (bq (i:=5) nd rfl (Or.inl rfl))
    (al (a9 (bo rfl PySem.F.plainAttrs_list PySem.F.slot_list_append PySem.F.type_list_append eN (aa 3) (ae (br (T.gf M_Wood_top_of) G_Wood_top_of B_Wood_top_of hr.m (aa 0) (ae (bV false rfl (aa 4) bT (bU (aa 5))) af (ac rfl))) af (ac rfl)) (λh1 h2 h3=>bj PySem.F.plainAttrs_list PySem.F.slot_list_append PySem.F.type_list_append h2 h1 h3)))))
   (al (a9 (bo rfl PySem.F.plainAttrs_list PySem.F.slot_list_append PySem.F.type_list_append eN (aa 3) (ae (br (T.gf M_Wood_has) G_Wood_has B_Wood_has hr.m (aa 0) (ae (aa 4) af (ac rfl))) af (ac rfl)) (λh1 h2 h3=>bj PySem.F.plainAttrs_list PySem.F.slot_list_append PySem.F.type_list_append h2 h1 h3))))))
   (al (aE (aa 3))))))),λts S Q h=>?_⟩
 obtain ⟨p,d,n,ms,u,us,t,rfl,W,hu,hl,k,hul,hux,ht,hq⟩:=h
 have hp:=W.ins
 ac_nf
 refine cH (λσ' S'=>∃ q l,S q=none/\l.Perm (ms.map λa=>(a.1,wrt a.2 n))/\jD l/\σ'=[some (.ref p),some (.ref u),some t,some (.ref q),none,none]/\S'=put S q (.lst (lk0 l n ms))) ?_ ?_
 ·intro X hX
  bv_omega
  refine ⟨p,d,n,rfl,hp,?_⟩
  bv_omega
  refine ⟨p,d,n,ms,rfl,W,hl,k.old,k.nd,k.wd,λl hlp hlr=>?_⟩
  bv_omega
  refine ⟨p,d,n,ms,_,1000,rfl,W,hl,k.old,k.nd,by omega,?_⟩
  bv_omega
  intro q hq0
  bv_omega
  exact hX _ _ ⟨q,l,hq0,hlp,hlr,rfl,rfl⟩
 rintro σ' S' ⟨q,l,hq0,hlp,hlr,rfl,rfl⟩
 have hq:=hq q l hq0 hlp hlr
 have hqp:q≠p:=(gN hp hq0).symm
 have hqd:q≠d:=(gN W.dct hq0).symm
 have hqu:q≠u:=(gN hu hq0).symm
 have Wq:∀ acc,Wo C (put S q (.lst acc)) p d n ms:=λacc=>W.other hqp hqd
 have uq:∀ acc,put S q (.lst acc) u=some (.lst (us.map T2.T.str)):=λacc=>(aO hqu.symm).trans hu
 refine cH (λσ' S'=>∃ x vs,vs=us++xt t/\(∀ y∈vs,y.length<=24)/\vs.length<=21/\(∀ acc,aD (put S q (.lst acc)) x=some (vs.map T2.T.str)/\fg x (vs.map T2.T.str) (put S q (.lst acc)))/\σ'=[some (.ref p),some x,some t,some (.ref q),none,none]/\S'=put S q (.lst (lk0 l n ms))) ?_ ?_
 ·intro X hX
  rcases ht with ⟨z,rfl,hz,_⟩|⟨hn,_⟩
  ·bv_omega
   refine eM (ls:=Tm.tl z) (λc=>T2.T.str ⟨#[c]⟩) (λc=>if sgn c=true then some (.str ⟨#[c]⟩) else none) [] ?_ ?_ (λc hc u acc N hacc hN=>?_) ?_
   ·trivial
   ·rw [Tm.len,sizeLine_eq];omega
   ·bv_omega
    refine qD ?_
    rw [Bool.false_xor]
    bv_omega
    refine ifB (λhb=>?_) λhb=>?_
    ·have hb:sgn c=true:=hb
     simp only [hb,if_true] at hN
     bv_omega
     exact ⟨hacc,hN _⟩
    ·have hb:sgn c=false:=hb
     simp only [hb,Bool.false_eq_true,if_false,Option.toList_none,List.append_nil] at hN
     exact hN _
   ·have e:((Tm.tl z).filterMap λc=>if sgn c=true then some (T2.T.str ⟨#[c]⟩) else none)=(((Tm.tl z).filter sgn).map λc=>(⟨#[c]⟩:Str)).map T2.T.str:=by rw [sQ,List.map_map];rfl
    rw [e]
    generalize hys:(((Tm.tl z).filter sgn).map λc=>(⟨#[c]⟩:Str))=ys
    have hy1:∀ y∈ys,y.length<=1:=λy hy=>by
     rw [<- hys] at hy
     obtain ⟨c,_,rfl⟩:=List.mem_map.mp hy
     exact Nat.le_refl _
    have hyn:ys.length<=1000:=by
     rw [<- hys,List.length_map]
     have:=List.length_filter_le sgn (Tm.tl z)
     rw [Tm.len] at this
     omega
    bv_omega
    refine pM (Tm.j8 ys) (Tm.k8 (b:=1) hy1 (by rw [Tm.fP];omega)) ?_
    have hj:=Tm.kK "" (b:=1) ys hy1
    rw [Tm.fP] at hj
    bv_omega
    have h24:=Tm.nw (PySem.Txt.join "" ys) (k:=24) (by omega)
    refine fh (ts:=us.map T2.T.str) (by delta b9;dsimp only;rw [uq]) rfl (by rw [List.length_map,sizeLine_eq];simp only [List.length_cons,List.length_nil];omega) ?_
    bv_omega
    refine hX _ _ ⟨.lst ((us++[cln z]).map T2.T.str),us++[cln z],rfl,λy hy=>?_,by rw [List.length_append];simp only [List.length_cons,List.length_nil];omega,λacc=>⟨rfl,trivial⟩,?_,rfl⟩
    ·rcases List.mem_append.mp hy with hy|hy
     ·exact hux y hy
     ·rw [List.mem_singleton.mp hy];unfold cln;rw [hys];exact h24
    ·rw [List.map_append];unfold cln;rw [hys];rfl
  ·obtain ⟨v,hv1,hv2⟩:=km (S:=put S q (.lst (lk0 l n ms))) T hn
   bv_omega
   refine jh hv1 hv2 ?_
   bv_omega
   refine hX _ _ ⟨.ref u,us,?_,hux,by omega,λacc=>⟨cD (uq acc),uq acc⟩,rfl,rfl⟩
   rcases hn with rfl|⟨b,rfl⟩|⟨i,rfl⟩|⟨l,rfl⟩|⟨l,rfl⟩<;>exact (List.append_nil _).symm
 rintro σ' S' ⟨x,vs,hvs,hvl,hvn,hx,rfl,rfl⟩
 bv_omega
 refine ⟨_,(hx _).1,?_⟩
 refine kG (f:=T2.T.str) (ls:=vs) (λls σ' S'=>∃ acc v4 v5,acc++ls.flatMap (row ms n)=lk l n ms us t/\acc.length+26 * ls.length<=1000/\(∀ y∈ls,y.length<=24)/\σ'=[some (.ref p),some x,some t,some (.ref q),v4,v5]/\S'=put S q (.lst acc)) ⟨lk0 l n ms,none,none,by unfold lk;rw [hvs],by simp only [lk0,List.length_cons,List.length_nil];omega,hvl,rfl,rfl⟩ ?_ ?_
 ·rintro y ls σ' S' N ⟨acc,v4,v5,ha,hlen,hyl,rfl,rfl⟩ hN
  refine ⟨(hx _).2,?_⟩
  have hy:=hyl y List.mem_cons_self
  rw [List.length_cons] at hlen
  bv_omega
  refine jM (λi σ' S'=>∃ v5,σ'=[some (.ref p),some x,some t,some (.ref q),some (.str y),v5]/\S'=put S q (.lst (acc++(List.range i).map λ(k:Nat)=>tp ms n (PySem.Txt.slice y none (some (k:Int)))))) ⟨_,rfl,by simp⟩ ?_ ?_
  ·rintro i σ' S' N2 hi ⟨v5,rfl,rfl⟩ hN2
   refine ⟨trivial,?_⟩
   have hp2:=(Wq (acc++(List.range i).map λ(k:Nat)=>tp ms n (PySem.Txt.slice y none (some (k:Int))))).ins
   bv_omega
   refine ⟨p,d,n,ms,_,rfl,Wq _,hl,k.old,?_⟩
   bv_omega
   refine oo (by rw [List.length_append,List.length_map,List.length_range,sizeLine_eq];omega) ?_
   bv_omega
   refine hN2 _ _ ⟨_,rfl,?_⟩
   rw [List.range_succ,List.map_append,List.append_assoc,Int.zero_add]
   rfl
  ·rintro σ' S' ⟨v5,rfl,rfl⟩
   refine ⟨trivial,?_⟩
   have hp2:=(Wq (acc++(List.range ((y.length:Int)+1).toNat).map λ(k:Nat)=>tp ms n (PySem.Txt.slice y none (some (k:Int))))).ins
   bv_omega
   refine ⟨p,d,n,ms,_,rfl,Wq _,?_⟩
   bv_omega
   refine oo (by rw [List.length_append,List.length_map,List.length_range,sizeLine_eq];omega) ?_
   bv_omega
   refine hN _ _ ⟨_,_,_,?_,?_,λz hz=>hyl z (List.mem_cons_of_mem _ hz),rfl,rfl⟩
   ·rw [<- ha,List.flatMap_cons,List.append_assoc,List.append_assoc,<- List.append_assoc _ [_] _];unfold row;rw [show ((y.length:Int)+1).toNat=y.length+1 by omega]
   ·simp only [List.length_append,List.length_map,List.length_range,List.length_cons,List.length_nil];omega
 ·rintro σ' S' ⟨acc,v4,v5,ha,_,_,rfl,rfl⟩
  refine ⟨(hx _).2,?_⟩
  rw [List.flatMap_nil,List.append_nil] at ha
  rw [<- ha] at hq
  bv_omega
  exact .mk hq
def Dt (k:Nat) (t:T2.T):Prop:=∃ d,cg t=some d/\d.canLay0=true/\d.depth<=k
theorem dts {k:Nat}:∀ {ts:List T2.T},(∀ t∈ts,Dt k t)->∃ D,bv ts=some D/\PyData.canLayAll0 D=true/\PyData.depthAll D<=k
 |[],_=>⟨[],rfl,rfl,Nat.zero_le _⟩
 |t::ts,h=>by
  obtain ⟨d,e,c,l⟩:=h t List.mem_cons_self
  obtain ⟨D,e2,c2,l2⟩:=dts λt ht=>h t (List.mem_cons_of_mem _ ht)
  exact ⟨d::D,kC e e2,by simp [PyData.canLayAll0,c,c2],by simp only [PyData.depthAll];omega⟩
theorem Dt.lst {k:Nat}{ts:List T2.T}(h:∀ t∈ts,Dt k t):Dt (k+1) (.lst ts):=by
 obtain ⟨D,e,c,l⟩:=dts h
 exact ⟨.list D,by rw [iD,e];rfl,by simp only [PyData.canLay0,c],by simp only [PyData.depth];omega⟩
theorem Dt.tup {k:Nat}{ts:List T2.T}(h:∀ t∈ts,Dt k t):Dt (k+1) (.tup ts):=by
 obtain ⟨D,e,c,l⟩:=dts h
 exact ⟨.tuple D,by rw [jZ,e];rfl,by simp only [PyData.canLay0,c],by simp only [PyData.depth];omega⟩
theorem Dt.up {k j:Nat}{t:T2.T}(h:Dt k t) (hj:k<=j):Dt j t:=by
 obtain ⟨d,e,c,l⟩:=h
 exact ⟨d,e,c,by omega⟩
theorem Dt.int (i:Int):Dt 0 (.int i):=⟨.int i,rfl,rfl,Nat.le_refl _⟩
theorem Dt.bl (b:Bool):Dt 0 (.bl b):=⟨.bool b,rfl,rfl,Nat.le_refl _⟩
theorem Dt.rts {l:List Rt}(h:∀ a∈l,PyData.strOk a.1=true):Dt 2 (.lst (l.map rt)):=by
 refine .lst λt ht=>?_
 obtain ⟨a,ha,rfl⟩:=List.mem_map.mp ht
 refine .tup λt ht=>?_
 rcases List.mem_cons.mp ht with rfl|ht
 ·exact ⟨.str a.1,rfl,h a ha,Nat.le_refl _⟩
 ·rw [List.mem_singleton.mp ht];exact .int _
theorem Dt.tp (ms:Ms) (n:Int) (b:Str):Dt 0 (tp ms n b):=by
 unfold My.tp
 split
 ·exact ⟨.none,rfl,rfl,Nat.le_refl _⟩
 ·exact .int _
theorem CI {l:List Rt}{n:Int}{ms:Ms}{us:List Str}{t:T2.T}(h:∀ a∈ms,Wm.Wd a.1=true) (hl:l.Perm (ms.map λa=>(a.1,wrt a.2 n))):∀ x∈lk l n ms us t,Dt 2 x:=λx hx=>by
 have ok:∀ a∈ms.map λa=>(a.1,wrt a.2 n),PyData.strOk a.1=true:=λa ha=>by
  obtain ⟨b,hb,rfl⟩:=List.mem_map.mp ha
  exact Wm.jp (h b hb)
 unfold lk lk0 at hx
 rcases List.mem_append.mp hx with hx|hx
 ·simp only [List.mem_cons,List.not_mem_nil,or_false] at hx
  rcases hx with rfl|rfl|rfl
  ·exact (Dt.int _).up (by omega)
  ·exact .rts λa ha=>ok a (hl.mem_iff.mp ha)
  ·refine .rts λa ha=>?_
   have:=(o6 _).mem_iff.mp (List.mem_of_mem_take ha)
   rw [o8] at this
   exact ok a this
 ·obtain ⟨y,_,hx⟩:=List.mem_flatMap.mp hx
  unfold row at hx
  rcases List.mem_append.mp hx with hx|hx
  ·obtain ⟨k,_,rfl⟩:=List.mem_map.mp hx
   exact (Dt.tp _ _ _).up (by omega)
  ·rw [List.mem_singleton.mp hx];exact (Dt.bl _).up (by omega)
theorem xV {S:Sto}{Q:T2.T->Sto->Prop}{a b:Addr}{ts:List T2.T}(ha:S a=some (.lst ts)) (hb:S b=some (.lst ts)) (h:∀ t∈ts,Dt 2 t) (q:Q (.bl true) S):gEq false (.ref a) (.ref b) S Q:=by
 obtain ⟨D,e,c,l⟩:=dts h
 have c0:(PyData.list D).canLay0=true:=by simp only [PyData.canLay0,c]
 refine ⟨.list D,.list D,by simp only [bC,ha,e,Option.map_some],by simp only [bC,hb,e,Option.map_some],c0,c0,?_,?_⟩
 ·simp only [PyData.depth];omega
 ·rw [PySem.SeqAt.eqv_refl _ c0];exact q
section
variable {n w c:Int}{ms:Ms}{z:Str}{m:Int×Int}{t:T2.T}
theorem Aa (h:(sd w t n ms).1≠9):(sd w t n ms).2=ms:=by
 cases t with
 |str z =>
  cases e:look ms z with
  |none =>
   by_cases hw:w=0
   ·subst hw
    by_cases hz:Wm.Wd z=true
    ·rw [jG hz e] at h;exact absurd rfl h
    ·simp [sd,hz]
   ·rw [jH hw e]
  |some m =>
   by_cases hw:w=0
   ·subst hw
    by_cases hz:Wm.Wd z=true
    ·rw [jF hz e]
    ·simp [sd,hz]
   ·exact absurd (by simp [sd,hw,e]) h
 |_=>rfl
theorem Wk.add (k:Wk n ms) (hz:Wm.Wd z=true) (hm:look ms z=none):Wk n (ms++[(z,c,n)]):=by
 refine ⟨λa ha=>?_,?_,λa ha=>?_⟩
 ·rcases List.mem_append.mp ha with ha|ha
  ·exact k.old a ha
  ·rw [List.mem_singleton.mp ha];exact Int.le_refl _
 ·rw [List.map_append]
  refine List.nodup_append.mpr ⟨k.nd,List.pairwise_singleton ..,λa ha b hb=>?_⟩
  have hb:b=z:=List.mem_singleton.mp hb
  rw [hb]
  exact λe=>b6.mp hm (e ▸ ha)
 ·rcases List.mem_append.mp ha with ha|ha
  ·exact k.wd a ha
  ·rw [List.mem_singleton.mp ha];exact hz
theorem Wk.dr (k:Wk n ms):Wk n (dr ms z):=by
 refine ⟨λa ha=>k.old a (List.mem_filter.mp ha).1,?_,λa ha=>k.wd a (List.mem_filter.mp ha).1⟩
 rw [p5]
 exact k.nd.filter _
theorem Wk.pu (k:Wk n ms) (hm:look ms z=some m):Wk n (pu ms z (c,n))/\(pu ms z (c,n)).map (·.1)=ms.map (·.1):=by
 have hz:z∈ms.map (·.1):=List.mem_map.mpr ⟨_,eO hm,rfl⟩
 have hk:=zM (c,n) hz
 refine ⟨⟨λa ha=>?_,hk ▸ k.nd,λa ha=>?_⟩,hk⟩
 ·rcases rg ha with h|h
  ·exact k.old a h
  ·rw [h];exact Int.le_refl _
 ·rcases rg ha with h|h
  ·exact k.wd a h
  ·rw [h];exact (k.wd (z,m) (eO hm) :)
theorem sd9 (k:Wk n ms) (h0:0<=w) (h1:w<5) (ht:Tg w t) (h:(sd w t n ms).1=9):∃ z,t=.str z/\((w=0/\Wm.Wd z=true/\look ms z=none/\(sd w t n ms).2=ms++[(z,5,n)]) \/
  (w=2/\z∈ms.map (·.1)/\(sd w t n ms).2=dr ms z)\/(w≠0/\w≠2/\Wk n (sd w t n ms).2/\(sd w t n ms).2.map (·.1)=ms.map (·.1))):=by
 rcases ht with ⟨z,rfl,_,_⟩|⟨rfl,hb⟩
 ·refine ⟨z,rfl,?_⟩
  cases e:look ms z with
  |none =>
   by_cases hw:w=0
   ·subst hw
    by_cases hz:Wm.Wd z=true
    ·exact .inl ⟨rfl,hz,rfl,by rw [jG hz e]⟩
    ·simp [sd,hz] at h
   ·rw [jH hw e] at h;cases h
  |some m =>
   have hz:z∈ms.map (·.1):=List.mem_map.mpr ⟨_,eO e,rfl⟩
   rcases w5 h0 h1 with rfl|rfl|rfl|rfl|rfl
   ·by_cases hz:Wm.Wd z=true
    ·rw [jF hz e] at h;cases h
    ·simp [sd,hz] at h
   ·rw [t8 e];exact .inr (.inr ⟨by decide,by decide,(k.pu e).1,(k.pu e).2⟩)
   ·rw [t9 e];exact .inr (.inl ⟨rfl,hz,rfl⟩)
   ·rw [ua e];exact .inr (.inr ⟨by decide,by decide,k,rfl⟩)
   ·rw [ub e];exact .inr (.inr ⟨by decide,by decide,(k.pu e).1,(k.pu e).2⟩)
 ·rw [jE hb] at h;cases h
theorem Ab {ks:List Str}(hn:ks.Nodup) (h:z∈ks):∃ as bs,ks=as++z::bs/\z∉as/\ks.filter (λy=>decide (y≠z))=as++bs:=by
 obtain ⟨as,bs,e⟩:=List.append_of_mem h
 rw [e] at hn
 obtain ⟨n1,n2,n3⟩:=List.nodup_append.mp hn
 have h1:z∉as:=λq=>n3 z q z List.mem_cons_self rfl
 have h2:z∉bs:=(List.nodup_cons.mp n2).1
 refine ⟨as,bs,e,h1,?_⟩
 rw [e,List.filter_append,List.filter_cons,if_neg (by simp)]
 have q1:as.filter (λy=>decide (y≠z))=as:=List.filter_eq_self.mpr λa ha=>decide_eq_true λ(q:a=z)=>h1 (by rw [<- q];exact ha)
 have q2:bs.filter (λy=>decide (y≠z))=bs:=List.filter_eq_self.mpr λa ha=>decide_eq_true λ(q:a=z)=>h2 (by rw [<- q];exact ha)
 rw [q1,q2]
end
def fs (ms:Ms):List T2.T:=(ms.map (·.1)).map T2.T.str
abbrev pl (C p d s u b:Addr) (n:Int) (ms:Ms) (us:List Str) (o:O):List (Addr×O):=[(p,.ins C [("marks",.ref d),("now",.int n)]),(d,.dK (kt mkT ms)),(s,.lst ((ms.map (·.1)).map T2.T.str)),(u,.lst (us.map T2.T.str)),(b,o)]
def p9 (C:Addr):WSp:=λts S Q=>∃ p d s u b n ms us o,ts=[.ref p,.ref s,.ref u,.ref b]/\At S (pl C p d s u b n ms us o)/\aW o/\ms.length<=150/\Wk n ms/\us.length<=14/\(∀ x∈us,Wm.Wd x=true) /\
 ∀ S' ms' us' o',At S' (pl C p d s u b n ms' us' o')->Wk n ms'->ms'.length<=ms.length+1->us'.length<=us.length+1->(∀ x∈us',Wm.Wd x=true)->Q (.bl true) S'
theorem ni:FnScope ["_law_wood","_law_standing","_law_words","_law_box_here","_law_way","_law_near","_law_word_here","_law_due","_law_before"] vv2 (aj d8):=by nofun
theorem xW {f f1 f2 f3 f4 f5 f6:Addr}{fd fd1 fd2 fd3 fd4 fd5 fd6:FuncData}(F:Fun K "_law_asked" "_law_asked" d8 f fd) (T:Txt K mg C Z)
  (G__law_take:FnOk P w K mg base CX0 1 f1 fd1 vv1 (lSp K dc)) (D__law_take:Df K mg "_law_take" f1 fd1 vv1)
  (G__law_word:FnOk P w K mg base CX0 2 f2 fd2 vv5 (lSp K gz)) (D__law_word:Df K mg "_law_word" f2 fd2 vv5)
  (G__law_no_word:FnOk P w K mg base CX0 3 f3 fd3 vv5 (lSp K o9)) (D__law_no_word:Df K mg "_law_no_word" f3 fd3 vv5)
  (G__law_is_word:FnOk P w K mg base CX0 1 f4 fd4 ["_law_thing"] (lSp K eP)) (D__law_is_word:Df K mg "_law_is_word" f4 fd4 ["_law_thing"])
  (G__law_look:FnOk P w K mg base CX0 6 f5 fd5 vv8 (lSp K (rJ C))) (D__law_look:Df K mg "_law_look" f5 fd5 vv8)
  (G__law_said:FnOk P w K mg base CX0 5 f6 fd6 vv9 (lSp K (rG C))) (D__law_said:Df K mg "_law_said" f6 fd6 vv9) :
  FnOk P w K mg base CX0 7 f fd vv2 (lSp K (p9 C)):=by
 refine bg F ni (λts S Q h=>?_) λcdv A outer s0 H E hr=>?_
 ·obtain ⟨p,d,s,u,b,n,ms,us,o,rfl,_⟩:=h;rfl
 have nd:=ni.nd
 refine ⟨_,((am (aG (i:=4) nd rfl (Or.inl rfl) (ay G__law_take D__law_take hr.m (by rfl) (ae (aa 3) (ae ag af (ac rfl)) (ac rfl))))
   (am (aG (i:=5) nd rfl (Or.inl rfl) aN)
   (am (aI (xu rfl (aa 2))
    (al (aG (i:=5) nd rfl (Or.inl rfl) (aU rfl (aa 2) (ay G__law_take D__law_take hr.m (by rfl) (ae (aa 3) (ae (aP (cc rfl) (by rfl) T.len PySem.boot_len (ae (aa 2) af (ac rfl))) af (ac rfl)) (ac rfl))) (λ_ _=>rfl))))
    aJ)
   (am (aG (i:=6) nd rfl (Or.inl rfl) (aU rfl (bJ (ae (ay G__law_word D__law_word hr.m (by rfl) (ae (aa 3) af (ac rfl))) (ae (aa 5) (ae (aa 5) (ae (aB (aV false) (aa 5) aN) (ae (bV false rfl (aa 5) bT (bU (je ag))) (ae (aB (aV false) (aa 5) aN) af (ac rfl)) (ac rfl)) (ac rfl)) (ac rfl)) (ac rfl)) (ac rfl))) (ay G__law_take D__law_take hr.m (by rfl) (ae (aa 3) (ae ag af (ac rfl)) (ac rfl))) (λ_ _=>rfl)))
   (am (aG (i:=7) nd rfl (Or.inl rfl) (aU rfl (bJ (ae ag (ae ag af (ac rfl)) (ac rfl))) (sH Dn (by rfl) T.int PyProof.Rows.boot_int (ae (dQ (pE rfl) (aa 6) (aa 1) (by with_unfolding_all rfl)) af (ac rfl))) (λ_ _=>rfl)))
   (am (aI (aC (aX rfl hr.units) (aa 4) ag (aH _))
    (am (aG (i:=6) nd rfl (Or.inl rfl) (aU rfl (bJ (ae (aa 6) (ae (aa 5) (ae (ay G__law_no_word D__law_no_word hr.m (by rfl) (ae (aa 3) af (ac rfl))) af (ac rfl)) (ac rfl)) (ac rfl))) (ay G__law_take D__law_take hr.m (by rfl) (ae (aa 3) (ae ag af (ac rfl)) (ac rfl))) (λ_ _=>rfl)))
   (am (aG (i:=7) nd rfl (Or.inl rfl) ag)
   (al (aI (dJ (cj (ay G__law_is_word D__law_is_word hr.m (by rfl) (ae (aa 6) af (ac rfl)))))
    (al (aG (i:=7) nd rfl (Or.inl rfl) ag))
    (al (aI (aC (jz rfl) (aa 6) (aa 1) (by with_unfolding_all rfl))
    (al (aG (i:=7) nd rfl (Or.inl rfl) ag))
    aJ))))))
    aJ)
   (am (aG (i:=8) nd rfl (Or.inl rfl) (ay G__law_look D__law_look hr.m (by rfl) (ae (aa 0) (ae (aa 2) (ae (aa 6) af (ac rfl)) (ac rfl)) (ac rfl))))
   (am (aI (aC (tM rfl hr.units) (ay G__law_said D__law_said hr.m (by rfl) (ae (aa 0) (ae (aa 4) (ae (aa 6) af (ac rfl)) (ac rfl)) (ac rfl))) (aa 7) (aH _))
    (al (aE cI))
    aJ)
   (am (aI (aC (tM rfl hr.units) (aa 7) ag (aH _))
    (al (aE (dQ (aX rfl hr.units) (ay G__law_look D__law_look hr.m (by rfl) (ae (aa 0) (ae (aa 2) (ae (aa 6) af (ac rfl)) (ac rfl)) (ac rfl))) (aa 8) (aH _))))
    aJ)
   (am (aI (aC (aX rfl hr.units) (aa 4) ag (aH _))
    (am (a9 (bo rfl PySem.F.plainAttrs_list PySem.F.slot_list_append PySem.F.type_list_append eN (aa 1) (ae (aa 6) af (ac rfl)) (λh1 h2 h3=>bj PySem.F.plainAttrs_list PySem.F.slot_list_append PySem.F.type_list_append h2 h1 h3)))
   (al (a9 (bo rfl PySem.F.plainAttrs_list PySem.F.slot_list_append PySem.F.type_list_append eN (aa 2) (ae (aa 6) af (ac rfl)) (λh1 h2 h3=>bj PySem.F.plainAttrs_list PySem.F.slot_list_append PySem.F.type_list_append h2 h1 h3)))))
    aJ)
   (am (aI (aC (aX rfl hr.units) (aa 4) ag (aH _))
    (al (a9 (bo rfl PySem.F.plainAttrs_list PySem.F.slot_list_remove PySem.F.type_list_remove xK (aa 1) (ae (aa 6) af (ac rfl)) (λh1 h2 h3=>bj PySem.F.plainAttrs_list PySem.F.slot_list_remove PySem.F.type_list_remove h2 h1 h3))))
    aJ)
   (al (aE cI)))))))))))))),λts S Q h=>?_⟩
 obtain ⟨p,d,s,u,b,n,ms,us,o,rfl,hA,hbx,hl,k,hul,hus,hq⟩:=h
 ac_nf
 refine cH (λσ' S'=>∃ r o1,0<=r/\r<5/\aW o1/\σ'=[some (.ref p),some (.ref s),some (.ref u),some (.ref b),some (.int r),none,none,none,none]/\S'=put S b o1) ?_ ?_
 ·intro X hX
  have hb:S b=some o:=hA.get 4 rfl
  bv_omega
  exact hX _ _ ⟨r,o',hr0,hr1,hbx,rfl,rfl⟩
 rintro σ' S' ⟨wy,o1,w0,w1,hb1,rfl,rfl⟩
 replace hA:At (put S b o1) (pl C p d s u b n ms us o1):=hA.put 4 rfl
 generalize put S b o1=S at hA ⊢
 refine cH (λσ' S'=>σ'=[some (.ref p),some (.ref s),some (.ref u),some (.ref b),some (.int wy),some (.str (Str.ofString "a")),none,none,none]/\S'=S) ?_ ?_
 ·intro X hX
  bv_omega
  exact hX _ _ ⟨rfl,rfl⟩
 rintro σ' S' ⟨rfl,rfl⟩
 refine cH (λσ' S2=>∃ nr o2,Wm.Wd nr=true/\aW o2/\σ'=[some (.ref p),some (.ref s),some (.ref u),some (.ref b),some (.int wy),some (.str nr),none,none,none]/\S2=put S' b o2) ?_ ?_
 ·intro X hX
  have hb:S' b=some o1:=hA.get 4 rfl
  have hu:S' u=some (.lst (us.map T2.T.str)):=hA.get 3 rfl
  have hub:u≠b:=hA.ne 3 4 (by decide) rfl rfl
  bv_omega
  refine ifB (λhc=>?_) λhc=>?_
  ·have hne:0<us.length:=by cases us with|nil=>simp at hc|cons _ _=>simp
   bv_omega
   exact hX _ _ ⟨z,o',hus z hz,hbx,rfl,rfl⟩
  ·bv_omega
   exact hX _ _ ⟨_,o1,by decide +kernel,hb1,rfl,(eQ hb).symm⟩
 rintro σ' S2 ⟨nr,o2,hnr,hb2,rfl,rfl⟩
 replace hA:At (put S' b o2) (pl C p d s u b n ms us o2):=hA.put 4 rfl
 generalize put S' b o2=S at hA ⊢
 refine cH (λσ' S2=>∃ z o3,z.length<=25/\Sg z/\aW o3/\σ'=[some (.ref p),some (.ref s),some (.ref u),some (.ref b),some (.int wy),some (.str nr),some (.str z),none,none]/\S2=put S b o3) ?_ ?_
 ·intro X hX
  have hb:S b=some o2:=hA.get 4 rfl
  have hn:=Wm.dM hnr
  have c1:(Str.ofString "q").length=1:=by decide +kernel
  have c2:(Str.ofString "A").length=1:=by decide +kernel
  bv_omega
  refine fG (λt=>∃ z:Str,t=.str z/\z.length<=25/\Sg z) hr0 (by simp only [List.length_cons,List.length_nil];omega) (λt ht=>?_) ?_
  ·have hz:=Wm.dM hzw
   have sz:=Sg.lb (LB.of hzw)
   have sn:=Sg.lb (LB.of hnr)
   have cs:∀ x:Str,(Tm.tl x).all (λc=>decide (c<1000))=true->Sg x:=λx h c hc=>of_decide_eq_true (List.all_eq_true.mp h c hc)
   simp only [List.mem_cons,List.not_mem_nil,or_false] at ht
   rcases ht with rfl|rfl|rfl|rfl|rfl|rfl
   ·exact ⟨_,rfl,by omega,sz⟩
   ·exact ⟨_,rfl,by omega,sn⟩
   ·exact ⟨_,rfl,by omega,sn⟩
   ·exact ⟨_,rfl,by rw [bX];omega,sn.app (cs _ (by decide +kernel))⟩
   ·exact ⟨_,rfl,by have:=me nr none (some (-1));omega,sn.slice⟩
   ·exact ⟨_,rfl,by rw [bX];omega,sn.app (cs _ (by decide +kernel))⟩
  ·rintro _ ⟨z,rfl,hz,hs⟩
   bv_omega
   exact hX _ _ ⟨z,_,hz,hs,hbx,rfl,rfl⟩
 rintro σ' S2 ⟨z,o3,hzl,hzs,hb3,rfl,rfl⟩
 replace hA:At (put S b o3) (pl C p d s u b n ms us o3):=hA.put 4 rfl
 generalize put S b o3=S at hA ⊢
 refine cH (λσ' S2=>σ'=[some (.ref p),some (.ref s),some (.ref u),some (.ref b),some (.int wy),some (.str nr),some (.str z),some (.int (if z∈ms.map (·.1) then 9 else 2)),none]/\S2=S) ?_ ?_
 ·intro X hX
  have hs:S s=some (.lst ((ms.map (·.1)).map T2.T.str)):=hA.get 2 rfl
  bv_omega
  by_cases hz:z∈ms.map (·.1)
  ·rw [if_pos hz] at hX
   rw [decide_eq_true hz]
   bv_omega
   exact hX _ _ ⟨rfl,rfl⟩
  ·rw [if_neg hz] at hX
   rw [decide_eq_false hz]
   bv_omega
   exact hX _ _ ⟨rfl,rfl⟩
 rintro σ' S2 ⟨rfl,rfl⟩
 refine cH (λσ' S3=>∃ t o4,aW o4/\Thg t/\Tg wy t/\σ'=[some (.ref p),some (.ref s),some (.ref u),some (.ref b),some (.int wy),some (.str nr),some t,some (.int (sd wy t n ms).1),none]/\S3=put S2 b o4) ?_ ?_
 ·intro X hX
  have hb:S2 b=some o3:=hA.get 4 rfl
  have hs:S2 s=some (.lst ((ms.map (·.1)).map T2.T.str)):=hA.get 2 rfl
  have hsb:s≠b:=hA.ne 2 4 (by decide) rfl rfl
  have hzt:Thg (.str z):=.s (by omega) hzs
  bv_omega
  refine ifB (λhc=>?_) λhc=>?_
  ·obtain rfl:wy=0:=by simpa using hc
   bv_omega
   refine ⟨b,o3,rfl,hb,hb3,λt0 o4 ht0 hb4=>?_⟩
   bv_omega
   refine fG Thg hr0 (by simp only [List.length_cons,List.length_nil];omega) (λt ht=>?_) λt ht=>?_
   ·simp only [List.mem_cons,List.not_mem_nil,or_false] at ht
    rcases ht with rfl|rfl|rfl
    ·exact hzt
    ·exact .s (by have:=Wm.dM hnr;omega) (Sg.lb (LB.of hnr))
    ·exact ht0
   bv_omega
   rcases ht with ⟨y,rfl,hy,ho⟩|⟨hn,D,hD,hT⟩
   ·have th:Thg (.str y):=.inl ⟨y,rfl,hy,ho⟩
    refine ⟨_,rfl,.inl ⟨y,rfl,hy,?_⟩⟩
    by_cases hw:Wm.Wd y=true
    ·rw [hw]
     bv_omega
     cases e:look ms y with
     |none =>
      rw [Bool.false_xor,decide_eq_false (b6.mp e)]
      bv_omega
      exact hX _ _ ⟨.str y,_,hbx,th,.inl ⟨y,rfl,hy,ho⟩,by rw [jG hw e],rfl⟩
     |some m =>
      rw [Bool.false_xor,decide_eq_true (List.mem_map.mpr ⟨_,eO e,rfl⟩)]
      bv_omega
      exact hX _ _ ⟨.str y,_,hbx,th,.inl ⟨y,rfl,hy,ho⟩,by rw [jF hw e],rfl⟩
    ·have hw:Wm.Wd y=false:=by simpa using hw
     rw [hw]
     bv_omega
     exact hX _ _ ⟨.str y,_,hbx,th,.inl ⟨y,rfl,hy,ho⟩,by rw [jE (.inl ⟨y,rfl,hy,ho,hw⟩)],rfl⟩
   ·refine ⟨_,rfl,.inr ⟨hn,?_⟩⟩
    bv_omega
    exact hX _ _ ⟨t,_,hbx,.inr ⟨hn,D,hD,hT⟩,.inr ⟨rfl,.inr ⟨hn,D,hD,hT⟩⟩,by rw [jE (.inr ⟨hn,D,hD,hT⟩)],rfl⟩
  ·have hw:wy≠0:=by simpa using hc
   bv_omega
   refine hX _ _ ⟨.str z,o3,hb3,hzt,.inl ⟨z,rfl,by omega,jr hzs⟩,?_,(eQ hb).symm⟩
   cases e:look ms z with
   |none=>rw [jH hw e,if_neg (b6.mp e)]
   |some m =>
    rw [if_pos (List.mem_map.mpr ⟨_,eO e,rfl⟩)]
    simp [sd,hw,e]
 rintro σ' S3 ⟨t,o4,hb4,ht,hTg,rfl,rfl⟩
 replace hA:At (put S2 b o4) (pl C p d s u b n ms us o4):=hA.put 4 rfl
 generalize put S2 b o4=S at hA ⊢
 have W:Wo C S p d n ms:=⟨hA.get 0 rfl,hA.get 1 rfl⟩
 bv_omega
 refine ⟨p,d,n,ms,u,us,t,rfl,W,hA.get 3 rfl,by omega,k,by omega,λx hx=>(Wm.dM (hus x hx)).2,ht,λq l hq0 hlp hlr=>?_⟩
 have hA1:At (put S q (.lst (lk l n ms us t))) ((q,.lst (lk l n ms us t))::pl C p d s u b n ms us o4):=hA.cons hq0
 generalize put S q (.lst (lk l n ms us t))=S1 at hA1 ⊢
 have W1:Wo C S1 p d n ms:=⟨hA1.get 1 rfl,hA1.get 2 rfl⟩
 bv_omega
 refine ⟨p,d,n,ms,wy,t,rfl,W1,by omega,k.old,w0,w1,hTg,?_⟩
 bv_omega
 rw [Bool.true_xor,decide_eq_true rfl,Bool.not_true]
 bv_omega
 refine ifB (λhc=>?_) λhc=>?_
 ·have h9:(sd wy t n ms).1≠9:=by simpa using hc
  rw [Aa h9,eQ W1.dct]
  bv_omega
  refine ⟨p,d,n,ms,u,us,t,rfl,W1,hA1.get 4 rfl,by omega,k,by omega,λx hx=>(Wm.dM (hus x hx)).2,ht,λq2 l2 hq2 hlp2 hlr2=>?_⟩
  obtain rfl:l2=l:=kS (λa:Rt=>a.1) hlr2 hlr ((hlp2.map (·.1)).nodup_iff.mpr (by rw [List.map_map];exact k.nd)) (hlp2.trans hlp.symm)
  have hA2:=hA1.cons (o:=.lst (lk l2 n ms us t)) hq2
  bv_omega
  refine xV aK (hA2.get 1 rfl) (CI k.wd hlp) ?_
  bv_omega
  exact .mk (hq _ ms us o4 (hA2.pick [2,3,4,5,6] (by decide) rfl) k (by omega) (by omega) hus)
 ·have h9:(sd wy t n ms).1=9:=by simpa using hc
  obtain ⟨z,rfl,hcase⟩:=sd9 k w0 w1 hTg h9
  have hA2:At (put S1 d (.dK (kt mkT (sd wy (.str z) n ms).2))) _:=hA1.put 2 rfl
  rcases hcase with ⟨rfl,hz,hm,e⟩|⟨rfl,hz,e⟩|⟨n0,n2,hk,e⟩
  ·rw [e] at hA2 ⊢
   generalize put S1 d _=S2 at hA2 ⊢
   have hs:S2 s=some (.lst ((ms.map (·.1)).map T2.T.str)):=hA2.get 3 rfl
   bv_omega
   rw [Bool.false_xor,decide_eq_true rfl]
   bv_omega
   refine iF hs (by rw [List.length_map,List.length_map,sizeLine_eq];omega) ?_
   have hA3:At (put S2 s (.lst ((ms.map (·.1)).map T2.T.str++[.str z]))) _:=hA2.put 3 rfl
   generalize put S2 s _=S3 at hA3 ⊢
   have hu:S3 u=some (.lst (us.map T2.T.str)):=hA3.get 4 rfl
   bv_omega
   refine iF hu (by rw [List.length_map,sizeLine_eq];omega) ?_
   have hA4:At (put S3 u (.lst (us.map T2.T.str++[.str z]))) _:=hA3.put 4 rfl
   bv_omega
   rw [Bool.false_xor,decide_eq_false (by decide)]
   bv_omega
   refine .mk (hq _ (ms++[(z,5,n)]) (us++[z]) o4 (hA4.pick [1,2,3,4,5] (by decide) (by simp [pl])) (k.add hz hm) (by simp) (by simp) λx hx=>?_)
   rcases List.mem_append.mp hx with hx|hx
   ·exact hus x hx
   ·rw [List.mem_singleton.mp hx];exact hz
  ·rw [e] at hA2 ⊢
   generalize put S1 d _=S2 at hA2 ⊢
   obtain ⟨as,bs,e1,e2,e3⟩:=Ab k.nd hz
   bv_omega
   rw [Bool.false_xor,decide_eq_false (by decide)]
   bv_omega
   have hs:S2 s=some (.lst ((as++z::bs).map T2.T.str)):=by rw [<- e1];exact hA2.get 3 rfl
   rw [Bool.false_xor,decide_eq_true rfl]
   bv_omega
   refine ⟨s,as,z,bs,rfl,rfl,hs,e2,?_⟩
   have hA3:At (put S2 s (.lst ((as++bs).map T2.T.str))) _:=hA2.put 3 rfl
   bv_omega
   refine .mk (hq _ (dr ms z) us o4 (hA3.pick [1,2,3,4,5] (by decide) ?_) k.dr ?_ (by omega) hus)
   ·simp only [pl,p5,e3];rfl
   ·have:=List.length_filter_le (λa:Str×Int×Int=>decide (a.1≠z)) ms
    unfold dr
    omega
  ·generalize (sd wy (.str z) n ms).2=ms' at hA2 hk e ⊢
   generalize put S1 d _=S2 at hA2 ⊢
   bv_omega
   rw [Bool.false_xor,decide_eq_false n0]
   bv_omega
   rw [Bool.false_xor,decide_eq_false n2]
   bv_omega
   refine .mk (hq _ ms' us o4 (hA2.pick [1,2,3,4,5] (by decide) ?_) hk ?_ (by omega) hus)
   ·simp only [pl,e];rfl
   ·have:=congrArg List.length e
    simp only [List.length_map] at this
    omega
def gO:WSp:=λts S Q=>∃ ns:List Int,ts=[.scr ns]/\ns.length<=63/\∀ S',Q (.bl true) S'
theorem Wk.fade {n c:Int}{ms:Ms}(k:Wk n ms) (h:0<=c):Wk (n+c) ms:=⟨λa ha=>by have:=k.old a ha;omega,k.nd,k.wd⟩
abbrev q4 (C p d s b:Addr) (n:Int) (ms:Ms) (o:O):List (Addr×O):=[(p,.ins C [("marks",.ref d),("now",.int n)]),(d,.dK (kt mkT ms)),(s,.lst ((ms.map (·.1)).map T2.T.str)),(b,o)]
theorem Ac {α:Type}(l:List α) (lo hi:Option Int):(bM l lo hi).length<=l.length:=by
 unfold bM
 rw [List.length_take,List.length_drop]
 omega
theorem Ad {α:Type}{l:List α}{lo hi:Option Int}{x:α}(h:x∈bM l lo hi):x∈l:=by
 unfold bM at h
 exact List.mem_of_mem_drop (List.mem_of_mem_take h)
theorem EJ (us:List Str):(bM us (some (-14)) none).length<=14:=by
 unfold bM
 rw [List.length_take,List.length_drop]
 simp only [HT.sIx]
 rw [if_pos (by decide)]
 omega
theorem wp {S:Sto}{Q:T2.T->Sto->Prop}{ts:List T2.T}(h:∀ t∈ts,Dt 2 t) (q:Q (.bl true) S):gEq false (.lst ts) (.lst ts) S Q:=by
 obtain ⟨D,e,c,l⟩:=dts h
 have c0:(PyData.list D).canLay0=true:=by simp only [PyData.canLay0,c]
 have e2:bC S (.lst ts)=some (.list D):=by show cg (.lst ts)=_;rw [iD,e];rfl
 refine ⟨.list D,.list D,e2,e2,c0,c0,?_,?_⟩
 ·simp only [PyData.depth];omega
 ·rw [PySem.SeqAt.eqv_refl _ c0];exact q
def unS:T2.T->Ky
 |.str z=>.s z
 |_=>.nil
theorem rK:FnScope ["_law_script","_law_wood","_law_standing","_law_box_here","_law_k","_law_word_here","_law_words","_law_cell"] ["_law_script"] (aj cT):=by nofun
theorem CJ {f f1 f2 f3 f4 f5 f6 f7 f8 f9:Addr}{fd fd1 fd2 fd3 fd4 fd5 fd6 fd7 fd8 fd9:FuncData}(F:Fun K "law" "law" cT f fd) (T:Txt K mg C Z)
  (G_Wood___init__:FnOk P w K mg base CX0 1 f1 fd1 ["self"] (lSp K (rj C))) (M_Wood:Mk K C f1) (B_Wood___init__:aq K fd1 ["self"] [])
  (G__law_cell_at:FnOk P w K mg base CX0 1 f2 fd2 h7 (lSp K iU)) (D__law_cell_at:Df K mg "_law_cell_at" f2 fd2 h7)
  (G__law_box:FnOk P w K mg base CX0 1 f3 fd3 ["_law_cell"] (lSp K jc)) (D__law_box:Df K mg "_law_box" f3 fd3 ["_law_cell"])
  (G__law_take:FnOk P w K mg base CX0 1 f4 fd4 vv1 (lSp K dc)) (D__law_take:Df K mg "_law_take" f4 fd4 vv1)
  (G__law_word:FnOk P w K mg base CX0 2 f5 fd5 vv5 (lSp K gz)) (D__law_word:Df K mg "_law_word" f5 fd5 vv5)
  (G_Wood_put:FnOk P w K mg base CX0 4 f6 fd6 vv4 (lSp K (l9 C))) (M_Wood_put:Meth K C "put" f6) (B_Wood_put:aq K fd6 vv4 [])
  (G_Wood_fade:FnOk P w K mg base CX0 1 f7 fd7 h8 (lSp K (rm C))) (M_Wood_fade:Meth K C "fade" f7) (B_Wood_fade:aq K fd7 h8 [])
  (G__law_asked:FnOk P w K mg base CX0 7 f8 fd8 vv2 (lSp K (p9 C))) (D__law_asked:Df K mg "_law_asked" f8 fd8 vv2)
  (G_Wood_words:FnOk P w K mg base CX0 4 f9 fd9 ["self"] (lSp K (ko C))) (M_Wood_words:Meth K C "words" f9) (B_Wood_words:aq K fd9 ["self"] []) :
  FnOk P w K mg base CX0 8 f fd ["_law_script"] (lSp K gO):=by
 refine bg F rK (λts S Q h=>?_) λcdv A outer s0 H E hr=>?_
 ·obtain ⟨ns,rfl,_⟩:=h;rfl
 have nd:=rK.nd
 refine ⟨_,((am (aG (i:=1) nd rfl (Or.inl rfl) (zb M_Wood G_Wood___init__ B_Wood___init__ hr.m (by rfl) T.mg_Wood))
   (am (aG (i:=2) nd rfl (Or.inl rfl) (iX af))
   (am (aG (i:=3) nd rfl (Or.inl rfl) (ay G__law_box D__law_box hr.m (by rfl) (ae (ay G__law_cell_at D__law_cell_at hr.m (by rfl) (ae (aa 0) (ae ag af (ac rfl)) (ac rfl))) af (ac rfl))))
   (am (fF PassesOwn.never rfl (iy (by rfl) T.range (ay G__law_take D__law_take hr.m (by rfl) (ae (aa 3) (ae ag af (ac rfl)) (ac rfl)))) (bq (i:=4) nd rfl (Or.inl rfl))
    (am (aG (i:=5) nd rfl (Or.inl rfl) (ay G__law_word D__law_word hr.m (by rfl) (ae (aa 3) af (ac rfl))))
   (am (aI (aC (pE rfl) (aa 5) (aa 2) (by with_unfolding_all rfl))
    (am (a9 (br (T.gf M_Wood_put) G_Wood_put B_Wood_put hr.m (aa 1) (ae (aa 5) (ae (ay G__law_take D__law_take hr.m (by rfl) (ae (aa 3) (ae ag af (ac rfl)) (ac rfl))) af (ac rfl)) (ac rfl))))
   (al (a9 (bo rfl PySem.F.plainAttrs_list PySem.F.slot_list_append PySem.F.type_list_append eN (aa 2) (ae (aa 5) af (ac rfl)) (λh1 h2 h3=>bj PySem.F.plainAttrs_list PySem.F.slot_list_append PySem.F.type_list_append h2 h1 h3)))))
    aJ)
   (al (aI (aC (aX rfl hr.units) (ay G__law_take D__law_take hr.m (by rfl) (ae (aa 3) (ae ag af (ac rfl)) (ac rfl))) ag (aH _))
    (al (a9 (br (T.gf M_Wood_fade) G_Wood_fade B_Wood_fade hr.m (aa 1) (ae (aB (aV false) ag (ay G__law_take D__law_take hr.m (by rfl) (ae (aa 3) (ae ag af (ac rfl)) (ac rfl)))) af (ac rfl)))))
    aJ)))))
   (am (aG (i:=6) nd rfl (Or.inl rfl) (sH (A3 true rfl) (by rfl) T.list PyProof.Rows.boot_list (ae (aa 2) af (ac rfl))))
   (am (fF PassesOwn.never rfl (eS rfl (bV false rfl (aa 0) bT (bU ag))) (bq (i:=7) nd rfl (Or.inl rfl))
    (am (aI (dJ (cj (ay G__law_asked D__law_asked hr.m (by rfl) (ae (aa 1) (ae (aa 2) (ae (aa 6) (ae (ay G__law_box D__law_box hr.m (by rfl) (ae (aa 7) af (ac rfl))) af (ac rfl)) (ac rfl)) (ac rfl)) (ac rfl)))))
    (al (aE cI))
    aJ)
   (al (aG (i:=6) nd rfl (Or.inl rfl) (bV true rfl (aa 6) (bU (je ag)) bT)))))
   (al (aE (dQ (aX rfl hr.units) (df false ["_law_one"] 1 [] rfl (eS rfl (kM (T.gf M_Wood_words) G_Wood_words B_Wood_words hr.m (aa 1))) (λ_ _ _ _=>(bq (i:=0) (show List.Nodup (["_law_one"]:List Str) from by decide +kernel) rfl (Or.inl rfl))) (λ_ _ _ _=>eT) (λ_ _ _ _=>(aU rfl (aa 0) ag (λ_ _=>rfl)))) (aP (pU false rfl hr.m) (by rfl) T.sorted PyProof.Rows.boot_sorted (ae (aa 2) af (ac rfl))) (aH _))))))))))),λts S Q h=>?_⟩
 obtain ⟨ns,rfl,hns,hq⟩:=h
 ac_nf
 bv_omega
 intro p hp
 refine ⟨p,rfl,aK,λd hd=>⟨rfl,?_⟩⟩
 have hA:=At.wood (C:=C) (o:=.ins C [("marks",.ref d),("now",.int 0)]) (l:=[]) ⟨List.nodup_nil,λx hx=>nomatch hx⟩ hp hd
 generalize put (put (put S p _) d _) p _=S1 at hA ⊢
 bv_omega
 intro s hs
 have hA2:=hA.cons (o:=.lst []) hs
 generalize put S1 s _=S2 at hA2 ⊢
 bv_omega
 refine sN λb o hb0 hbo=>?_
 bv_omega
 have hA3:At (put S2 b o') (q4 C p d s b 0 [] o'):=(hA2.cons (o:=o') hb0).pick [3,2,1,0] (by decide) rfl
 refine jM (λi σ' S'=>∃ n ms o u v,At S' (q4 C p d s b n ms o)/\aW o/\Wk n ms/\ms.length<=i/\σ'=[some (.scr ns),some (.ref p),some (.ref s),some (.ref b),u,v,none,none]) ⟨0,[],o',none,none,hA3,hbx,⟨(λ_ h=>nomatch h),List.nodup_nil,(λ_ h=>nomatch h)⟩,Nat.le_refl _,rfl⟩ ?_ ?_
 ·rintro i σ' S' N hi ⟨n,ms,o1,u,v,hA,hb1,k,hl,rfl⟩ hN
  have hb:S' b=some o1:=hA.get 3 rfl
  have hs:S' s=some (.lst ((ms.map (·.1)).map T2.T.str)):=hA.get 2 rfl
  have hsb:s≠b:=hA.ne 2 3 (by decide) rfl rfl
  have hpb:p≠b:=hA.ne 0 3 (by decide) rfl rfl
  have hp:S' p=some (.ins C [("marks",.ref d),("now",.int n)]):=hA.get 0 rfl
  refine ⟨trivial,?_⟩
  bv_omega
  have hA1:At (put S' b o') (q4 C p d s b n ms o'):=hA.put 3 rfl
  generalize put S' b o'=S1 at hA1 ⊢
  clear hA hb hs hp hb1
  by_cases hz:z∈ms.map (·.1)
  ·rw [decide_eq_true hz,Bool.true_xor,Bool.not_true]
   have hb:=hA1.get 3 rfl
   have hp:S1 p=some (.ins C [("marks",.ref d),("now",.int n)]):=hA1.get 0 rfl
   bv_omega
   refine ifB (λhc=>?_) λhc=>?_
   ·bv_omega
    have hB:=hA1.put (o':=o') 3 rfl
    refine ⟨p,d,n,ms,1+r,rfl,⟨hB.get 0 rfl,hB.get 1 rfl⟩,?_⟩
    bv_omega
    exact hN _ _ ⟨n+(1+r),ms,_,_,_,hB.put 0 rfl,hbx,k.fade (by omega),by omega,rfl⟩
   ·bv_omega
    exact hN _ _ ⟨n,ms,_,_,_,hA1.put 3 rfl,hbx,k,by omega,rfl⟩
  ·rw [decide_eq_false hz,Bool.true_xor,Bool.not_false]
   have hb:S1 b=some o':=hA1.get 3 rfl
   have hp:S1 p=some (.ins C [("marks",.ref d),("now",.int n)]):=hA1.get 0 rfl
   bv_omega
   have hA2:=hA1.put (o':=o') 3 rfl
   refine ⟨p,d,n,ms,z,r,rfl,⟨hA2.get 0 rfl,hA2.get 1 rfl⟩,by omega,hzw,b6.mpr hz,?_⟩
   have hA3:=hA2.put (o':=.dK (kt mkT (ms++[(z,r,n)]))) 1 rfl
   generalize put (put S1 b _) d _=S3 at hA3 ⊢
   have hs:S3 s=some (.lst ((ms.map (·.1)).map T2.T.str)):=hA3.get 2 rfl
   bv_omega
   refine iF hs (by rw [List.length_map,List.length_map,sizeLine_eq];omega) ?_
   have hA4:At (put S3 s (.lst ((ms.map (·.1)).map T2.T.str++[.str z]))) (q4 C p d s b n (ms++[(z,r,n)]) o'):=(hA3.put 2 rfl).pick [0,1,2,3] (by decide) (by simp [q4])
   generalize put S3 s _=S4 at hA4 ⊢
   have k2:=k.add (c:=r) hzw (b6.mpr hz)
   generalize r=c at hA4 k2
   clear hb hp hs hA1 hA2 hA3
   have hb:=hA4.get 3 rfl
   have hp:S4 p=some (.ins C [("marks",.ref d),("now",.int n)]):=hA4.get 0 rfl
   bv_omega
   refine ifB (λhc=>?_) λhc=>?_
   ·bv_omega
    have hB:=hA4.put (o':=o') 3 rfl
    refine ⟨p,d,n,(ms++[(z,c,n)]),1+r,rfl,⟨hB.get 0 rfl,hB.get 1 rfl⟩,?_⟩
    bv_omega
    exact hN _ _ ⟨n+(1+r),(ms++[(z,c,n)]),_,_,_,hB.put 0 rfl,hbx,k2.fade (by omega),by simp only [List.length_append,List.length_cons,List.length_nil];omega,rfl⟩
   ·bv_omega
    exact hN _ _ ⟨n,(ms++[(z,c,n)]),_,_,_,hA4.put 3 rfl,hbx,k2,by simp only [List.length_append,List.length_cons,List.length_nil];omega,rfl⟩
 rintro σ' S' ⟨n,ms,o1,u0,v,hA,hb1,k,hl,rfl⟩
 refine ⟨trivial,?_⟩
 have hs:S' s=some (.lst ((ms.map (·.1)).map T2.T.str)):=hA.get 2 rfl
 bv_omega
 intro u hu0
 have hA1:At (put S' u (.lst ((ms.map (·.1)).map T2.T.str))) (q4 C p d s u n ms (.lst ((ms.map (·.1)).map T2.T.str))):=(hA.cons hu0).pick [1,2,3,0] (by decide) rfl
 generalize put S' u _=S1 at hA1 ⊢
 bv_omega
 rw [j3]
 refine kG (f:=T2.T.int) (ls:=bM ns none (some 63)) (λls σ' S'=>∃ ms u us c,At S' (q4 C p d s u n ms (.lst (us.map T2.T.str)))/\Wk n ms/\ms.length+ls.length<=80/\us.length<=14/\(∀ x∈us,Wm.Wd x=true)/\σ'=[some (.scr ns),some (.ref p),some (.ref s),some (.ref b),u0,v,some (.ref u),c]) ⟨ms,u,ms.map (·.1),_,hA1,k,?_,?_,?_,rfl⟩ ?_ ?_
 ·have:=Ac ns none (some 63)
  omega
 ·rw [List.length_map];omega
 ·intro x hx
  obtain ⟨a,ha,rfl⟩:=List.mem_map.mp hx
  exact k.wd a ha
 ·clear hA1 hl k hu0 hA hs hb1
  rintro c ls σ' S' N ⟨ms,u,us,c0,hA,k,hl,hul,hus,rfl⟩ hN
  rw [List.length_cons] at hl
  refine ⟨trivial,?_⟩
  bv_omega
  refine sN λb2 o2 hb2 hbo2=>?_
  have hB:At (put S' b2 o2) (pl C p d s u b2 n ms us o2):=(hA.cons hb2).pick [1,2,3,4,0] (by decide) rfl
  bv_omega
  refine ⟨p,d,s,u,b2,n,ms,us,o2,rfl,hB,hbo2,by omega,k,hul,hus,λS3 ms' us' o3 hA3 k3 hl3 hul3 hus3=>?_⟩
  have hu:S3 u=some (.lst (us'.map T2.T.str)):=hA3.get 3 rfl
  bv_omega
  rw [j3]
  intro u2 hu2
  have hA4:At (put S3 u2 (.lst ((bM us' (some (-14)) none).map T2.T.str))) (q4 C p d s u2 n ms' (.lst ((bM us' (some (-14)) none).map T2.T.str))):=(hA3.cons hu2).pick [1,2,3,0] (by decide) rfl
  bv_omega
  exact hN _ _ ⟨ms',u2,_,_,hA4,k3,by omega,EJ us',λx hx=>hus3 x (Ad hx),rfl⟩
 clear hA1 hl k hu0 hA hs hb1
 rintro σ' S' ⟨ms,u,us,c0,hA,k,hl,hul,hus,rfl⟩
 refine ⟨trivial,?_⟩
 have W:Wo C S' p d n ms:=⟨hA.get 0 rfl,hA.get 1 rfl⟩
 have hp:=W.ins
 have hs:S' s=some (.lst ((ms.map (·.1)).map T2.T.str)):=hA.get 2 rfl
 bv_omega
 refine ⟨p,d,n,ms,rfl,W,by simp only [List.length_nil] at hl;omega,k.old,k.nd,k.wd,λl hlp hlr=>?_⟩
 bv_omega
 have hll:l.length=ms.length:=by rw [hlp.length_eq,List.length_map]
 have hle:ms.length<=80:=by simp only [List.length_nil] at hl;omega
 refine eM (ls:=l) rt (λa=>some (.str a.1)) [] ?_ ?_ (λa ha u acc N hacc hN=>?_) ?_
 ·trivial
 ·rw [sizeLine_eq];omega
 ·bv_omega
  exact ⟨hacc,hN _⟩
 rw [Wm.gb]
 bv_omega
 refine pV (ls:=ms.map λa:Str×Int×Int=>a.1) Ky.s unS (.s ⟨#[]⟩) (cD hs) (λa _=>rfl) rfl (Nat.le_of_ble_eq_true rfl) (λa ha=>⟨?_,rfl⟩) λl' hp' hs'=>?_
 ·obtain ⟨x,hx,rfl⟩:=List.mem_map.mp ha
  have:=Wm.jp (k.wd x hx)
  simp [S6.Ky.ok,S6.Ky.ok.isRow,this]
 ·have hpm:(l.map (·.1)).Perm (ms.map (·.1)):=by
   have:=hlp.map (·.1)
   rw [List.map_map] at this
   exact this
  have e:l.map (·.1)=l':=kS (λa=>a) (by rw [List.map_id'];exact hlr) (by rw [List.map_id'];exact hs') (by rw [List.map_id'];exact hpm.nodup_iff.mpr k.nd) (hpm.trans hp'.symm)
  have e2:(l.map λa=>T2.T.str a.1)=l'.map λa=>tre (.s a):=by rw [<- e,List.map_map];rfl
  rw [e2]
  bv_omega
  refine wp (λt ht=>?_) ?_
  ·obtain ⟨a,ha,rfl⟩:=List.mem_map.mp ht
   obtain ⟨x,hx,rfl⟩:=List.mem_map.mp (hp'.mem_iff.mp ha)
   exact ⟨.str x.1,rfl,Wm.jp (k.wd x hx),by simp [PyData.depth]⟩
  bv_omega
  exact .mk (hq _)
theorem wq {K:PySem.W.Frag}{H:Hp}{a:Addr}{ns:List Int}{E:XK}(h:ns.length<=63) (hO:ju H) (hS:SqL K H a (ns.map V.int)):lSp K gO [.ref a] H (λv _=>v=.bl true) E:=by
 refine ⟨λ_=>none,[.scr ns],λt _=>t=.bl true,?_,.cons (.scr ?_) .nil,⟨ns,rfl,h,λ_=>rfl⟩,?_⟩
 ·intro b o e;cases e
 rotate_left
 ·intro v H' t S' _ _ r e
  subst e;cases r;rfl
 rcases hS with (e|⟨o,e⟩)|e
 ·rcases hO a with z|⟨ob,xs,z⟩
  ·rw [e] at z;cases z
  ·rw [e] at z;cases z
 ·exact .inl ⟨rfl,o,e⟩
 ·exact .inr (.inr e)
end
end My
set_option maxRecDepth 100000
namespace My
open PySem L2 T2
theorem FE {α:Type}(us:List α) (h:us.length=0):us=[]:=List.length_eq_zero_iff.mp h
theorem b5 {α:Type}(us:List α) (h:us.length=1):∃ a0,us=[a0]:=by
 cases us with
 |nil=>cases h
 |cons a l=>cases FE l (Nat.succ.inj h);exact ⟨a,rfl⟩
theorem bQ {α:Type}(us:List α) (h:us.length=2):∃ a0 a1,us=[a0,a1]:=by
 cases us with
 |nil=>cases h
 |cons a l=>obtain ⟨a1,rfl⟩:=b5 l (Nat.succ.inj h);exact ⟨a,a1,rfl⟩
theorem dY {α:Type}(us:List α) (h:us.length=3):∃ a0 a1 a2,us=[a0,a1,a2]:=by
 cases us with
 |nil=>cases h
 |cons a l=>obtain ⟨a1,a2,rfl⟩:=bQ l (Nat.succ.inj h);exact ⟨a,a1,a2,rfl⟩
theorem FF {α:Type}(us:List α) (h:us.length=4):∃ a0 a1 a2 a3,us=[a0,a1,a2,a3]:=by
 cases us with
 |nil=>cases h
 |cons a l=>obtain ⟨a1,a2,a3,rfl⟩:=dY l (Nat.succ.inj h);exact ⟨a,a1,a2,a3,rfl⟩
theorem CK {l:PySem.W.OpenLaw}{w:World}{K:PySem.W.Frag}{h:Heap}{mg:Str->Option Value}{fa:Addr}(X:K.In h) (G:h.Ns mainGlobals mg) (hfa:mg "law"=some (.ref fa)) (hF:Fx K) :
  ∃ fd:FuncData,(∀ (s:Shared) (v:Value),BindsTo s fd ⟨[v],[]⟩ [("_law_script",v)])/\∀ base:Heap,K.In base->base.Ns mainGlobals mg->FnOk l.prog w K mg base CX0 8 fa fd ["_law_script"] (lSp K gO):=by
 refine hF _ ?_
 intro fr fb f1 f2 f3 f4 f5 fga fce fbx fd fw fnw fki fsd flk fak fiw flw fwi fwm fwq fwu fwz fwf fwe fwh fwx fwb fwv fwt fwo C_Wood C_NoWord C_Twice C_Absent C_AheadError C_Beside C_NoChoice C_NoRow C_NoSign C_NoText odr anr odb anb od1 an1 od2 an2 od3 an3 od4 an4 od5 an5 odga anga odce ance odbx anbx odd and odw anw odnw annw odki anki odsd ansd odlk anlk odak anak odiw aniw odlw anlw odwi anwi odwm anwm odwq anwq odwu anwu odwz anwz odwf anwf odwe anwe odwh anwh odwx anwx odwb anwb odwv anwv odwt anwt odwo anwo oddwu oddwf slr slb sl1 sl2 sl3 sl4 sl5 slga slce slbx sld slw slnw slki slsd sllk slak sliw sllw slwi slwm slwq slwu slwz slwf slwe slwh slwx slwb slwv slwt slwo sldwu sldwf ocr kVr dcr pmr cdr ctr ocb kVb dcb pmb cdb ctb oc1 kV1 dc1 pm1 cd1 ct1 oc2 kV2 dc2 pm2 cd2 ct2 oc3 kV3 dc3 pm3 cd3 ct3 oc4 kV4 dc4 pm4 cd4 ct4 oc5 kV5 dc5 pm5 cd5 ct5 ocga kVga dcga pmga cdga ctga occe kVce dcce pmce cdce ctce ocbx kVbx dcbx pmbx cdbx ctbx ocd kVd dcd pmd cdd ctd ocw kVw dcw pmw cdw ctw ocnw kVnw dcnw pmnw cdnw ctnw ocki kVki dcki pmki cdki ctki ocsd kVsd dcsd pmsd cdsd ctsd oclk kVlk dclk pmlk cdlk ctlk ocak kVak dcak pmak cdak ctak ociw kViw dciw pmiw cdiw ctiw oclw kVlw dclw pmlw cdlw ctlw ocwi kVwi dcwi pmwi cdwi ctwi ocwm kVwm dcwm pmwm cdwm ctwm ocwq kVwq dcwq pmwq cdwq ctwq ocwu kVwu dcwu pmwu cdwu ctwu ocwz kVwz dcwz pmwz cdwz ctwz ocwf kVwf dcwf pmwf cdwf ctwf ocwe kVwe dcwe pmwe cdwe ctwe ocwh kVwh dcwh pmwh cdwh ctwh ocwx kVwx dcwx pmwx cdwx ctwx ocwb kVwb dcwb pmwb cdwb ctwb ocwv kVwv dcwv pmwv cdwv ctwv ocwt kVwt dcwt pmwt cdwt ctwt ocwo kVwo dcwo pmwo cdwo ctwo ocdwu ocdwf tk_MOST_SIGNS tk_MOST_PARTS tk_MOST_LETTERS dTwu tkdwu ndwu dTwf tkdwf ndwf aC_Wood awi iwi lwi cwi kwi awm iwm lwm cwm kwm awq iwq lwq cwq kwq awu iwu lwu cwu kwu ldwu awz iwz lwz cwz kwz awf iwf lwf cwf kwf ldwf awe iwe lwe cwe kwe awh iwh lwh cwh kwh awx iwx lwx cwx kwx awb iwb lwb cwb kwb awv iwv lwv cwv kwv awt iwt lwt cwt kwt awo iwo lwo cwo kwo pg_Wood hd_Wood po_Wood sa_Wood mk_Wood kc_Wood n_Wood_marks n_Wood_now aC_NoWord aC_Twice aC_Absent aC_AheadError aC_Beside aC_NoChoice aC_NoRow aC_NoSign aC_NoText ar lr cr kr ab lb cb kb a1 l1 c1 k1 a2 l2 c2 k2 a3 l3 c3 k3 a4 l4 c4 k4 a5 l5 c5 k5 aga lga cga kga ace lce cce kce abx lbx cbx kbx ad ld cd kd aw lw cw kw anw lnw cnw knw aki lki cki kki asd lsd csd ksd alk llk clk klk aak lak cak kak aiw liw ciw kiw alw llw clw klw z_len z_range z_all z_max z_min z_sorted z_isinstance z_str z_list z_int z_ValueError t_ss t_ns t_bs t_is t_ls t_ts q_MOST_SIGNS q_MOST_PARTS q_MOST_LETTERS oxNoWord okNoWord ocNoWord oeNoWord oxTwice okTwice ocTwice oeTwice oxAbsent okAbsent ocAbsent oeAbsent otNN otNT otNA otNB1 otNB2 otNB3 otNB4 otNB5 otTN otTT otTA otTB1 otTB2 otTB3 otTB4 otTB5 otAN otAT otAA otAB1 otAB2 otAB3 otAB4 otAB5 ovN ovT ovA
 have e:=hfa.symm.trans (PySem.W.mg_of X G alw)
 cases e
 have T:Txt K mg C_Wood ⟨C_NoWord,C_Twice,C_Absent,C_AheadError,C_Beside,C_NoChoice,C_NoRow,C_NoSign,C_NoText⟩:=⟨PySem.W.mg_none_of X G z_len,PySem.W.mg_none_of X G z_range,PySem.W.mg_none_of X G z_all,PySem.W.mg_none_of X G z_max,PySem.W.mg_none_of X G z_min,PySem.W.mg_none_of X G z_sorted,PySem.W.mg_none_of X G z_isinstance,PySem.W.mg_none_of X G z_str,PySem.W.mg_none_of X G z_list,PySem.W.mg_none_of X G z_int,PySem.W.mg_none_of X G z_ValueError,t_ss,t_ns,t_bs,t_is,t_ls,t_ts,⟨_,PySem.W.mg_of X G q_MOST_SIGNS⟩,⟨_,PySem.W.mg_of X G q_MOST_PARTS⟩,⟨_,PySem.W.mg_of X G q_MOST_LETTERS⟩,PySem.W.mg_of X G aC_Wood,⟨pg_Wood,hd_Wood,po_Wood,sa_Wood⟩,n_Wood_marks,n_Wood_now,PySem.W.mg_of X G aC_NoWord,PySem.W.mg_of X G aC_Twice,PySem.W.mg_of X G aC_Absent,PySem.W.mg_of X G aC_AheadError,PySem.W.mg_of X G aC_Beside,PySem.W.mg_of X G aC_NoChoice,PySem.W.mg_of X G aC_NoRow,PySem.W.mg_of X G aC_NoSign,PySem.W.mg_of X G aC_NoText,oxNoWord,okNoWord,ocNoWord,oeNoWord,oxTwice,okTwice,ocTwice,oeTwice,oxAbsent,okAbsent,ocAbsent,oeAbsent,otNN,otNT,otNA,otNB1,otNB2,otNB3,otNB4,otNB5,otTN,otTT,otTA,otTB1,otTB2,otTB3,otTB4,otTB5,otAN,otAT,otAA,otAB1,otAB2,otAB3,otAB4,otAB5,ovN,ovT,ovA⟩
 have Fwi:FunD K "__init__" "Wood.__init__" cN fwi _:=⟨⟨_,_,_,_,_,_,_,_,_,_,rfl,lwi,cwi⟩⟩
 have Bwi:aq K (PySem.W.fnOf "__init__" "Wood.__init__" (av cN) (ao cN) (aj cN) .none kVwi dcwi pmwi anwi cdwi ctwi) ["self"] []:=.all λus hl=>by obtain ⟨a0,rfl⟩:=b5 us hl;rfl
 have Mwi:Meth K C_Wood "__init__" fwi:=⟨awi,iwi,kwi⟩
 have Mk_Wood:Mk K C_Wood fwi:=⟨mk_Wood,awi,iwi,kc_Wood⟩
 have Fwm:FunD K "mark_of" "Wood.mark_of" cy fwm _:=⟨⟨_,_,_,_,_,_,_,_,_,_,rfl,lwm,cwm⟩⟩
 have Bwm:aq K (PySem.W.fnOf "mark_of" "Wood.mark_of" (av cy) (ao cy) (aj cy) .none kVwm dcwm pmwm anwm cdwm ctwm) ["self","word"] []:=.all λus hl=>by obtain ⟨a0,a1,rfl⟩:=bQ us hl;rfl
 have Mwm:Meth K C_Wood "mark_of" fwm:=⟨awm,iwm,kwm⟩
 have Fwq:FunD K "put" "Wood.put" cC fwq _:=⟨⟨_,_,_,_,_,_,_,_,_,_,rfl,lwq,cwq⟩⟩
 have Bwq:aq K (PySem.W.fnOf "put" "Wood.put" (av cC) (ao cC) (aj cC) .none kVwq dcwq pmwq anwq cdwq ctwq) ["self","word","count"] []:=.all λus hl=>by obtain ⟨a0,a1,a2,rfl⟩:=dY us hl;rfl
 have Mwq:Meth K C_Wood "put" fwq:=⟨awq,iwq,kwq⟩
 have Fwu:FunD K "use" "Wood.use" bR fwu _:=⟨⟨_,_,_,_,_,_,_,_,_,_,rfl,lwu,cwu⟩⟩
 have Bwu:aq K (PySem.W.fnOf "use" "Wood.use" (av bR) (ao bR) (aj bR) (.ref dTwu) kVwu dcwu pmwu anwu cdwu ctwu) ["self","word","times"] []:=λs us X hl=>by rw [List.append_nil] at hl;obtain ⟨a0,a1,a2,rfl⟩:=dY us hl;exact BindsTo.of_defaults rfl (X _ _ ldwu) rfl rfl rfl
 have B0wu:aq K (PySem.W.fnOf "use" "Wood.use" (av bR) (ao bR) (aj bR) (.ref dTwu) kVwu dcwu pmwu anwu cdwu ctwu) ["self","word","times"] [.int 1 tkdwu]:=λs us X hl=>by have hl1:us.length=2:=(by simpa using hl);obtain ⟨a0,a1,rfl⟩:=bQ us hl1;exact BindsTo.of_defaults rfl (X _ _ ldwu) rfl rfl rfl
 have Mwu:Meth K C_Wood "use" fwu:=⟨awu,iwu,kwu⟩
 have Fwz:FunD K "strike" "Wood.strike" cz fwz _:=⟨⟨_,_,_,_,_,_,_,_,_,_,rfl,lwz,cwz⟩⟩
 have Bwz:aq K (PySem.W.fnOf "strike" "Wood.strike" (av cz) (ao cz) (aj cz) .none kVwz dcwz pmwz anwz cdwz ctwz) ["self","word"] []:=.all λus hl=>by obtain ⟨a0,a1,rfl⟩:=bQ us hl;rfl
 have Mwz:Meth K C_Wood "strike" fwz:=⟨awz,iwz,kwz⟩
 have Fwf:FunD K "fade" "Wood.fade" cO fwf _:=⟨⟨_,_,_,_,_,_,_,_,_,_,rfl,lwf,cwf⟩⟩
 have Bwf:aq K (PySem.W.fnOf "fade" "Wood.fade" (av cO) (ao cO) (aj cO) (.ref dTwf) kVwf dcwf pmwf anwf cdwf ctwf) ["self","times"] []:=λs us X hl=>by rw [List.append_nil] at hl;obtain ⟨a0,a1,rfl⟩:=bQ us hl;exact BindsTo.of_defaults rfl (X _ _ ldwf) rfl rfl rfl
 have Mwf:Meth K C_Wood "fade" fwf:=⟨awf,iwf,kwf⟩
 have Fwe:FunD K "era" "Wood.era" cQ fwe _:=⟨⟨_,_,_,_,_,_,_,_,_,_,rfl,lwe,cwe⟩⟩
 have Bwe:aq K (PySem.W.fnOf "era" "Wood.era" (av cQ) (ao cQ) (aj cQ) .none kVwe dcwe pmwe anwe cdwe ctwe) ["self"] []:=.all λus hl=>by obtain ⟨a0,rfl⟩:=b5 us hl;rfl
 have Mwe:Meth K C_Wood "era" fwe:=⟨awe,iwe,kwe⟩
 have Fwh:FunD K "has" "Wood.has" cR fwh _:=⟨⟨_,_,_,_,_,_,_,_,_,_,rfl,lwh,cwh⟩⟩
 have Bwh:aq K (PySem.W.fnOf "has" "Wood.has" (av cR) (ao cR) (aj cR) .none kVwh dcwh pmwh anwh cdwh ctwh) ["self","word"] []:=.all λus hl=>by obtain ⟨a0,a1,rfl⟩:=bQ us hl;rfl
 have Mwh:Meth K C_Wood "has" fwh:=⟨awh,iwh,kwh⟩
 have Fwx:FunD K "worth_of" "Wood.worth_of" cx fwx _:=⟨⟨_,_,_,_,_,_,_,_,_,_,rfl,lwx,cwx⟩⟩
 have Bwx:aq K (PySem.W.fnOf "worth_of" "Wood.worth_of" (av cx) (ao cx) (aj cx) .none kVwx dcwx pmwx anwx cdwx ctwx) ["self","word"] []:=.all λus hl=>by obtain ⟨a0,a1,rfl⟩:=bQ us hl;rfl
 have Mwx:Meth K C_Wood "worth_of" fwx:=⟨awx,iwx,kwx⟩
 have Fwb:FunD K "begun" "Wood.begun" cL fwb _:=⟨⟨_,_,_,_,_,_,_,_,_,_,rfl,lwb,cwb⟩⟩
 have Bwb:aq K (PySem.W.fnOf "begun" "Wood.begun" (av cL) (ao cL) (aj cL) .none kVwb dcwb pmwb anwb cdwb ctwb) ["self","beginning"] []:=.all λus hl=>by obtain ⟨a0,a1,rfl⟩:=bQ us hl;rfl
 have Mwb:Meth K C_Wood "begun" fwb:=⟨awb,iwb,kwb⟩
 have Fwv:FunD K "words" "Wood.words" cM fwv _:=⟨⟨_,_,_,_,_,_,_,_,_,_,rfl,lwv,cwv⟩⟩
 have Bwv:aq K (PySem.W.fnOf "words" "Wood.words" (av cM) (ao cM) (aj cM) .none kVwv dcwv pmwv anwv cdwv ctwv) ["self"] []:=.all λus hl=>by obtain ⟨a0,rfl⟩:=b5 us hl;rfl
 have Mwv:Meth K C_Wood "words" fwv:=⟨awv,iwv,kwv⟩
 have Fwt:FunD K "top_of" "Wood.top_of" cK fwt _:=⟨⟨_,_,_,_,_,_,_,_,_,_,rfl,lwt,cwt⟩⟩
 have Bwt:aq K (PySem.W.fnOf "top_of" "Wood.top_of" (av cK) (ao cK) (aj cK) .none kVwt dcwt pmwt anwt cdwt ctwt) ["self","beginning"] []:=.all λus hl=>by obtain ⟨a0,a1,rfl⟩:=bQ us hl;rfl
 have Mwt:Meth K C_Wood "top_of" fwt:=⟨awt,iwt,kwt⟩
 have Fwo:FunD K "told" "Wood.told" cP fwo _:=⟨⟨_,_,_,_,_,_,_,_,_,_,rfl,lwo,cwo⟩⟩
 have Bwo:aq K (PySem.W.fnOf "told" "Wood.told" (av cP) (ao cP) (aj cP) .none kVwo dcwo pmwo anwo cdwo ctwo) ["self","beginning","many"] []:=.all λus hl=>by obtain ⟨a0,a1,a2,rfl⟩:=dY us hl;rfl
 have Mwo:Meth K C_Wood "told" fwo:=⟨awo,iwo,kwo⟩
 have Fr:=bc (st:=d9) lr cr kr
 have Dr:Df K mg "rank_key" fr _ ["pair"]:=⟨PySem.W.mg_of X G ar,kr,Fr.binds (ps:=["pair"]) λ_ _ _ _ _ _ us hl=>by obtain ⟨a0,rfl⟩:=b5 us hl;rfl⟩
 have Fb:=bc (st:=eG) lb cb kb
 have Db:Df K mg "best_of" fb _ ["rated","many"]:=⟨PySem.W.mg_of X G ab,kb,Fb.binds (ps:=["rated","many"]) λ_ _ _ _ _ _ us hl=>by obtain ⟨a0,a1,rfl⟩:=bQ us hl;rfl⟩
 have F1:=bc (st:=d5) l1 c1 k1
 have D1:Df K mg "is_letter" f1 _ ["sign"]:=⟨PySem.W.mg_of X G a1,k1,F1.binds (ps:=["sign"]) λ_ _ _ _ _ _ us hl=>by obtain ⟨a0,rfl⟩:=b5 us hl;rfl⟩
 have F2:=bc (st:=eI) l2 c2 k2
 have D2:Df K mg "is_part" f2 _ ["text"]:=⟨PySem.W.mg_of X G a2,k2,F2.binds (ps:=["text"]) λ_ _ _ _ _ _ us hl=>by obtain ⟨a0,rfl⟩:=b5 us hl;rfl⟩
 have F3:=bc (st:=eJ) l3 c3 k3
 have D3:Df K mg "is_word" f3 _ ["thing"]:=⟨PySem.W.mg_of X G a3,k3,F3.binds (ps:=["thing"]) λ_ _ _ _ _ _ us hl=>by obtain ⟨a0,rfl⟩:=b5 us hl;rfl⟩
 have F4:=bc (st:=eg) l4 c4 k4
 have D4:Df K mg "worth_at" f4 _ ["mark","era"]:=⟨PySem.W.mg_of X G a4,k4,F4.binds (ps:=["mark","era"]) λ_ _ _ _ _ _ us hl=>by obtain ⟨a0,a1,rfl⟩:=bQ us hl;rfl⟩
 have F5:=bc (st:=d6) l5 c5 k5
 have D5:Df K mg "used_mark" f5 _ ["mark","era","times"]:=⟨PySem.W.mg_of X G a5,k5,F5.binds (ps:=["mark","era","times"]) λ_ _ _ _ _ _ us hl=>by obtain ⟨a0,a1,a2,rfl⟩:=dY us hl;rfl⟩
 have Fga:=bc (st:=dZ) lga cga kga
 have Dga:Df K mg "greatest_at" fga _ ["marks","era"]:=⟨PySem.W.mg_of X G aga,kga,Fga.binds (ps:=["marks","era"]) λ_ _ _ _ _ _ us hl=>by obtain ⟨a0,a1,rfl⟩:=bQ us hl;rfl⟩
 have Fce:=bc (st:=d0) lce cce kce
 have Dce:Df K mg "_law_cell_at" fce _ ["_law_script","_law_k"]:=⟨PySem.W.mg_of X G ace,kce,Fce.binds (ps:=["_law_script","_law_k"]) λ_ _ _ _ _ _ us hl=>by obtain ⟨a0,a1,rfl⟩:=bQ us hl;rfl⟩
 have Fbx:=bc (st:=eK) lbx cbx kbx
 have Dbx:Df K mg "_law_box" fbx _ ["_law_cell"]:=⟨PySem.W.mg_of X G abx,kbx,Fbx.binds (ps:=["_law_cell"]) λ_ _ _ _ _ _ us hl=>by obtain ⟨a0,rfl⟩:=b5 us hl;rfl⟩
 have Fd:=bc (st:=eC) ld cd kd
 have Dd:Df K mg "_law_take" fd _ ["_law_box_here","_law_many"]:=⟨PySem.W.mg_of X G ad,kd,Fd.binds (ps:=["_law_box_here","_law_many"]) λ_ _ _ _ _ _ us hl=>by obtain ⟨a0,a1,rfl⟩:=bQ us hl;rfl⟩
 have Fw:=bc (st:=eD) lw cw kw
 have Dw:Df K mg "_law_word" fw _ ["_law_box_here"]:=⟨PySem.W.mg_of X G aw,kw,Fw.binds (ps:=["_law_box_here"]) λ_ _ _ _ _ _ us hl=>by obtain ⟨a0,rfl⟩:=b5 us hl;rfl⟩
 have Fnw:=bc (st:=d3) lnw cnw knw
 have Dnw:Df K mg "_law_no_word" fnw _ ["_law_box_here"]:=⟨PySem.W.mg_of X G anw,knw,Fnw.binds (ps:=["_law_box_here"]) λ_ _ _ _ _ _ us hl=>by obtain ⟨a0,rfl⟩:=b5 us hl;rfl⟩
 have Fki:=bc (st:=d7) lki cki kki
 have Dki:Df K mg "_law_kinds" fki _ ["_law_e"]:=⟨PySem.W.mg_of X G aki,kki,Fki.binds (ps:=["_law_e"]) λ_ _ _ _ _ _ us hl=>by obtain ⟨a0,rfl⟩:=b5 us hl;rfl⟩
 have Fsd:=bc (st:=eE) lsd csd ksd
 have Dsd:Df K mg "_law_said" fsd _ ["_law_wood","_law_way","_law_thing"]:=⟨PySem.W.mg_of X G asd,ksd,Fsd.binds (ps:=["_law_wood","_law_way","_law_thing"]) λ_ _ _ _ _ _ us hl=>by obtain ⟨a0,a1,a2,rfl⟩:=dY us hl;rfl⟩
 have Flk:=bc (st:=eF) llk clk klk
 have Dlk:Df K mg "_law_look" flk _ ["_law_wood","_law_words","_law_thing"]:=⟨PySem.W.mg_of X G alk,klk,Flk.binds (ps:=["_law_wood","_law_words","_law_thing"]) λ_ _ _ _ _ _ us hl=>by obtain ⟨a0,a1,a2,rfl⟩:=dY us hl;rfl⟩
 have Fak:=bc (st:=d8) lak cak kak
 have Dak:Df K mg "_law_asked" fak _ ["_law_wood","_law_standing","_law_words","_law_box_here"]:=⟨PySem.W.mg_of X G aak,kak,Fak.binds (ps:=["_law_wood","_law_standing","_law_words","_law_box_here"]) λ_ _ _ _ _ _ us hl=>by obtain ⟨a0,a1,a2,a3,rfl⟩:=FF us hl;rfl⟩
 have Fiw:=bc (st:=d4) liw ciw kiw
 have Diw:Df K mg "_law_is_word" fiw _ ["_law_thing"]:=⟨PySem.W.mg_of X G aiw,kiw,Fiw.binds (ps:=["_law_thing"]) λ_ _ _ _ _ _ us hl=>by obtain ⟨a0,rfl⟩:=b5 us hl;rfl⟩
 have Flw:=bc (st:=cT) llw clw klw
 refine ⟨PySem.W.fnOf "law" "law" (av cT) (ao cT) (aj cT) .none kVlw dclw pmlw anlw cdlw ctlw,λs v=>.of_eq rfl,λbase _ _=>?_⟩
 have Gd:=zP (P:=l.prog) (w:=w) (mg:=mg) (base:=base) Fd
 have Gbx:=Co (P:=l.prog) (w:=w) (mg:=mg) (base:=base) Fbx
 have Gce:=zQ (P:=l.prog) (w:=w) (mg:=mg) (base:=base) Fce T
 have G1:=v7 (P:=l.prog) (w:=w) (mg:=mg) (base:=base) F1
 have G2:=zR (P:=l.prog) (w:=w) (mg:=mg) (base:=base) F2 T G1 D1
 have G3:=v9 (P:=l.prog) (w:=w) (mg:=mg) (base:=base) F3 T G2 D2
 have G4:=xR (P:=l.prog) (w:=w) (mg:=mg) (base:=base) F4
 have G5:=zS (P:=l.prog) (w:=w) (mg:=mg) (base:=base) F5 G4 D4
 have Gwi:=zT (P:=l.prog) (w:=w) (mg:=mg) (base:=base) Fwi T
 have Gwm:=zU (P:=l.prog) (w:=w) (mg:=mg) (base:=base) Fwm T
 have Gwq:=Cq (P:=l.prog) (w:=w) (mg:=mg) (base:=base) Fwq T G3 D3
 have Gwu:=Cr (P:=l.prog) (w:=w) (mg:=mg) (base:=base) Fwu T G5 D5 Gwm Mwm Bwm
 have Gwz:=wf (P:=l.prog) (w:=w) (mg:=mg) (base:=base) Fwz T Gwm Mwm Bwm
 have Gwf:=zV (P:=l.prog) (w:=w) (mg:=mg) (base:=base) Fwf T
 have Gwb:=xS (P:=l.prog) (w:=w) (mg:=mg) (base:=base) Fwb T G4 D4
 have Gr:=zX (P:=l.prog) (w:=w) (mg:=mg) (base:=base) Fr
 have Gb:=zY (P:=l.prog) (w:=w) (mg:=mg) (base:=base) Fb T Gr Dr
 have Gwo:=zZ (P:=l.prog) (w:=w) (mg:=mg) (base:=base) Fwo T Gwb Mwb Bwb Gb Db
 have Gwe:=Ct (P:=l.prog) (w:=w) (mg:=mg) (base:=base) Fwe T
 have Gwv:=wg (P:=l.prog) (w:=w) (mg:=mg) (base:=base) Fwv T Gwb Mwb Bwb
 have Gw:=z4 (P:=l.prog) (w:=w) (mg:=mg) (base:=base) Fw T Gd Dd
 have Gga:=xT (P:=l.prog) (w:=w) (mg:=mg) (base:=base) Fga T G4 D4
 have Gwt:=Cu (P:=l.prog) (w:=w) (mg:=mg) (base:=base) Fwt T Gga Dga
 have Gwh:=Cv (P:=l.prog) (w:=w) (mg:=mg) (base:=base) Fwh T
 have Gwx:=Cw (P:=l.prog) (w:=w) (mg:=mg) (base:=base) Fwx T G4 D4 Gwm Mwm Bwm
 have Rwm:=z5 (P:=l.prog) (w:=w) (mg:=mg) (base:=base) Fwm T
 have Rwq:=Cy (P:=l.prog) (w:=w) (mg:=mg) (base:=base) Fwq T G3 D3
 have Rwu:=Cz (P:=l.prog) (w:=w) (mg:=mg) (base:=base) Fwu T D5 Rwm Mwm Bwm
 have Rwz:=wj (P:=l.prog) (w:=w) (mg:=mg) (base:=base) Fwz T Rwm Mwm Bwm
 have Rwx:=CA (P:=l.prog) (w:=w) (mg:=mg) (base:=base) Fwx T D4 Rwm Mwm Bwm
 have Giw:=u5 (P:=l.prog) (w:=w) (mg:=mg) (base:=base) Fiw T
 have Gnw:=wm (P:=l.prog) (w:=w) (mg:=mg) (base:=base) Fnw T Gd Dd Gw Dw
 have Hki:=xU (P:=l.prog) (w:=w) (mg:=mg) (base:=base) Fki T
 have Gsd:=z7 (P:=l.prog) (w:=w) (mg:=mg) (base:=base) Fsd T Gwq Rwq Mwq Bwq Gwu Rwu Mwu Bwu B0wu Gwz Rwz Mwz Bwz Gwx Rwx Mwx Bwx Hki Dki
 have Glk:=z9 (P:=l.prog) (w:=w) (mg:=mg) (base:=base) Flk T Gwe Mwe Bwe Gwv Mwv Bwv Gwo Mwo Bwo Gwt Mwt Bwt Gwh Mwh Bwh
 have Gak:=xW (P:=l.prog) (w:=w) (mg:=mg) (base:=base) Fak T Gd Dd Gw Dw Gnw Dnw Giw Diw Glk Dlk Gsd Dsd
 exact CJ Flw T Gwi Mk_Wood Bwi Gce Dce Gbx Dbx Gd Dd Gw Dw Gwq Mwq Bwq Gwf Mwf Bwf Gak Dak Gwv Mwv Bwv
theorem FG {l:PySem.W.OpenLaw}{q:Program}{loose:List Str}{XP:(Str->Option Value)->Heap->Prop}{YP:World->Heap->Prop}{d:DefRec}{K:Params->PySem.W.Frag}(hn:l.most=some 63) (hdf:d.params.defaults=[])
  (hY:∀ (w:World) (h:Heap),YP w h->(K w.params).In h)
  (F:∀ (w:World) (mg:Str->Option Value) (fa:Addr) (h:Heap),(K w.params).In h->h.Ns mainGlobals mg->mg d.name=some (.ref fa) ->
   ∃ fd:FuncData,(∀ (s:Shared) (u:Value),BindsTo s fd ⟨[u],[]⟩ [("_law_script",u)])/\∀ base:Heap,(K w.params).In base->base.Ns mainGlobals mg->FnOk l.prog w (K w.params) mg base CX0 8 fa fd ["_law_script"] (T2.lSp (K w.params) gO)) :
  PySem.W.WalkO q loose XP YP l.row.toRowW d [] (λf vs=>PySem.call f vs) :=
 L2.yr (n:=63) (k:=8) (x:="_law_script") (CX:=λ_=>CX0) (sp:=λw=>T2.lSp (K w.params) gO) hn (by decide) hdf ⟨rfl,by decide,by decide,rfl⟩ hY F (λ_ _ a ns hl hO hS=>wq hl hO hS) λ_ _ _ _ _ z=>z
end My
theorem PySem.Challenge.cw_aheadword_k07_wood_refused_holds : PySem.Challenge.rw_aheadword_k07_wood_refused.Holds :=
 My.headL λ_ _ _ _ d K h1 h2 hd hK hF=>My.FG (l:=PySem.Challenge.rw_aheadword_k07_wood_refused) h1 h2 hK λw mg fa h KX G hmg=>My.CK KX G (by rw [hd] at hmg;exact hmg) (hF w)

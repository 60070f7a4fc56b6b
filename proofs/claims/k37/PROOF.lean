import PyProof.Rows.All
import OpenK.KWalk
import OpenK.KCls
import OpenK.KTop
import OpenK.KLaw
import Wide.FinOn
import KE.RegKIsAll
import KE.KItem
import KE.KxBytes
import PyProof.EqAt
import PyProof.EqKinds
import PyProof.NeData
import PyProof.TupleCall
import PyProof.MinMaxWalk
import KE.KDictList
import KE.KDictOf
import KE.KEqDict
import PyProof.AttrMissHeap
import PyProof.EnumFor
import PyProof.EnumMake
import PyProof.EnumStmt
import PyProof.TupleIter
import PyProof.Seq
import KE.KPairComp
import PyProof.DictItems
import PyProof.DictRoadsH
import PyProof.ReprRoads
import PyProof.ReprLen
import PyProof.StrLawsRepr
import PyProof.ExcClass2
import PyProof.InstStoreFacts
import PyProof.Rows.FStr
import PyProof.ExcAttrAll.ValueError
import KE.KDictSum
import KE.KRevSl
import PyProof.RaisesMany
import PyProof.RulesTry
import KE.KTryMore
import PyProof.RulesAs
import PyProof.ReprStr
import PyProof.ListStr
import PyProof.StrLawsIn
import KE.KDictLaws
import PyProof.NsDelKeeps
import PyProof.FString4
import PyProof.P3In
import PySem.Challenge.RW_aheadword_k37_a_part_wood_is_a_wood
set_option maxHeartbeats 4000000
set_option Elab.async false
set_option linter.all false
namespace L2
open PySem
noncomputable abbrev vM:List Value:=[.type "ValueError",.type "Exception",.type "BaseException",.type "object"]
noncomputable def b8 (K:PySem.W.Frag) (C:Addr) (r:Option Value):Bool:=match K.lookup C with
 |some ⟨.type "type",_,.cls cd,sl⟩=>(match cd.mro,sl.toList with
  |.ref C'::bm,[_,_,_,_,some (.builtin n),_]=>C'==C&&n == "ValueError.__new__" && !cd.hasDel&&PySem.W.tailIn K vM bm&&PySem.W.nsOkIn K cd.ns&&PySem.W.nsIn K cd.ns "__init__" == some r
  |_,_=>false)
 |_=>false
noncomputable def dO (K:PySem.W.Frag) (C:Addr):Bool:=PySem.W.keepIn K (.ref C)&&PySem.W.findIn K (.ref C) "__getattribute__" == some (some (.builtin "BaseException.__getattribute__"))&&PySem.W.findIn K (.ref C) "__getattr__" == some none&&PySem.W.mroIn K C (.type "BaseException")==some true &&
 (PySem.W.clsIn K C).isSome&&PySem.W.findIn K (.ref C) "__class__" == some (some (.builtin "object.__class__"))&&PySem.W.specialIn K (.builtin "object.__class__") "__get__" == some (some (.builtin "getset_descriptor.__get__"))&&PySem.W.takesIn K (.builtin "object.__class__")==some true &&
 PySem.W.mroIn K C (.type "object")==some true
noncomputable def bL (s:Stmt) (j:Nat):Stmt:=match s with
 |.ClassDef _ _ _ body _ _ _ _ _ _ _=>body.getD j (.Pass ⟨0,0,0,0⟩)
 |_=>.Pass ⟨0,0,0,0⟩
noncomputable def aA (s:Stmt):Arguments:=match s with
 |.FunctionDef _ a _ _ _ _ _ _ _ _=>a
 |_=>{ posonlyargs:=[],args:=[],vararg:=none,kwonlyargs:=[],kw_defaults:=[],kwarg:=none,defaults:=[] }
noncomputable def av (s:Stmt):List Stmt:=match s with
 |.FunctionDef _ _ b _ _ _ _ _ _ _=>b
 |_=>[]
noncomputable def aj (s:Stmt):Scope:=match s with
 |.FunctionDef _ _ _ _ _ _ sc _ _ _=>sc
 |_=>{ kind:=.function,names:=[],isGenerator:=false,isCoroutine:=false }
end L2
namespace My
open PySem L2
noncomputable def top (i:Nat):Stmt:=PySem.Challenge.pw_aheadword_k37_a_part_wood_is_a_wood.main.body.getD i (.Pass ⟨0,0,0,0⟩)
noncomputable abbrev fD:Stmt:=top 12
noncomputable abbrev fF:Stmt:=top 13
noncomputable abbrev fM:Stmt:=top 14
noncomputable abbrev fh:Stmt:=top 19
noncomputable abbrev fN:Stmt:=top 20
noncomputable abbrev fO:Stmt:=top 21
noncomputable abbrev fG:Stmt:=top 22
noncomputable abbrev fj:Stmt:=top 23
noncomputable abbrev eZ:Stmt:=top 24
noncomputable abbrev eV:Stmt:=top 26
noncomputable abbrev dZ:Stmt:=top 27
noncomputable abbrev cT:Stmt:=bL (top 28) 0
noncomputable abbrev cA:Stmt:=bL (top 28) 1
noncomputable abbrev cD:Stmt:=bL (top 28) 2
noncomputable abbrev bU:Stmt:=bL (top 28) 3
noncomputable abbrev cB:Stmt:=bL (top 28) 4
noncomputable abbrev cU:Stmt:=bL (top 28) 5
noncomputable abbrev cW:Stmt:=bL (top 28) 6
noncomputable abbrev cX:Stmt:=bL (top 28) 7
noncomputable abbrev cz:Stmt:=bL (top 28) 8
noncomputable abbrev cR:Stmt:=bL (top 28) 9
noncomputable abbrev cS:Stmt:=bL (top 28) 10
noncomputable abbrev cQ:Stmt:=bL (top 28) 11
noncomputable abbrev cV:Stmt:=bL (top 28) 12
noncomputable abbrev cP:Stmt:=bL (top 28) 13
noncomputable abbrev fH:Stmt:=top 32
noncomputable abbrev fI:Stmt:=top 33
noncomputable abbrev fJ:Stmt:=top 34
noncomputable abbrev e9:Stmt:=top 35
noncomputable abbrev fL:Stmt:=top 36
noncomputable abbrev fk:Stmt:=top 37
noncomputable abbrev eW:Stmt:=top 38
noncomputable abbrev fu:Stmt:=top 39
noncomputable abbrev fg:Stmt:=top 40
noncomputable abbrev eX:Stmt:=top 41
noncomputable abbrev e7:Stmt:=top 42
noncomputable abbrev fz:Stmt:=top 43
noncomputable abbrev e8:Stmt:=top 44
noncomputable abbrev eY:Stmt:=top 45
noncomputable abbrev dc:Stmt:=top 46
noncomputable def Fx (K:W.Frag):Prop:=∀ R:Prop,(∀ {fr fa fb f1 f2 f3 f4 f5 fga flg fbb ffe fd fp fft fw fws fbg fct fhv fwd frf fal fli fcr flw fwi fwm fwq fwu fwz fwf fwe fwh fwx fwb fwv fwt fwo fwc C_Wood C_NoWord C_Twice C_Absent C_AheadError C_Beside C_NoChoice C_NoRow C_NoSign C_NoText C_PartWood:Addr}
  {odr anr oda ana odb anb od1 an1 od2 an2 od3 an3 od4 an4 od5 an5 odga anga odlg anlg odbb anbb odfe anfe odd and odp anp odft anft odw anw odws anws odbg anbg odct anct odhv anhv odwd anwd odrf anrf odal anal odli anli odcr ancr odlw anlw odwi anwi odwm anwm odwq anwq odwu anwu odwz anwz odwf anwf odwe anwe odwh anwh odwx anwx odwb anwb odwv anwv odwt anwt odwo anwo odwc anwc oddwu oddwf:Option Addr}{slr sla slb sl1 sl2 sl3 sl4 sl5 slga sllg slbb slfe sld slp slft slw slws slbg slct slhv slwd slrf slal slli slcr sllw slwi slwm slwq slwu slwz slwf slwe slwh slwx slwb slwv slwt slwo slwc sldwu sldwf:Array (Option Value)}{ocr kVr dcr pmr cdr ctr oca kVa dca pma cda cta ocb kVb dcb pmb cdb ctb oc1 kV1 dc1 pm1 cd1 ct1 oc2 kV2 dc2 pm2 cd2 ct2 oc3 kV3 dc3 pm3 cd3 ct3 oc4 kV4 dc4 pm4 cd4 ct4 oc5 kV5 dc5 pm5 cd5 ct5 ocga kVga dcga pmga cdga ctga oclg kVlg dclg pmlg cdlg ctlg ocbb kVbb dcbb pmbb cdbb ctbb ocfe kVfe dcfe pmfe cdfe ctfe ocd kVd dcd pmd cdd ctd ocp kVp dcp pmp cdp ctp ocft kVft dcft pmft cdft ctft ocw kVw dcw pmw cdw ctw ocws kVws dcws pmws cdws ctws ocbg kVbg dcbg pmbg cdbg ctbg occt kVct dcct pmct cdct ctct ochv kVhv dchv pmhv cdhv cthv ocwd kVwd dcwd pmwd cdwd ctwd ocrf kVrf dcrf pmrf cdrf ctrf ocal kVal dcal pmal cdal ctal ocli kVli dcli pmli cdli ctli occr kVcr dccr pmcr cdcr ctcr oclw kVlw dclw pmlw cdlw ctlw ocwi kVwi dcwi pmwi cdwi ctwi ocwm kVwm dcwm pmwm cdwm ctwm ocwq kVwq dcwq pmwq cdwq ctwq ocwu kVwu dcwu pmwu cdwu ctwu ocwz kVwz dcwz pmwz cdwz ctwz ocwf kVwf dcwf pmwf cdwf ctwf ocwe kVwe dcwe pmwe cdwe ctwe ocwh kVwh dcwh pmwh cdwh ctwh ocwx kVwx dcwx pmwx cdwx ctwx ocwb kVwb dcwb pmwb cdwb ctwb ocwv kVwv dcwv pmwv cdwv ctwv ocwt kVwt dcwt pmwt cdwt ctwt ocwo kVwo dcwo pmwo cdwo ctwo ocwc kVwc dcwc pmwc cdwc ctwc ocdwu ocdwf:Value}
  {tk_MOST_SIGNS:Tok}
  {tk_MOST_PARTS:Tok}
  {tk_MOST_LETTERS:Tok}
  {dTwu:Addr}{tkdwu:Tok}{ndwu:Nat}
  {dTwf:Addr}{tkdwf:Tok}{ndwf:Nat}
  (aC_Wood:W.nsIn K mainGlobals "Wood"=some (some (.ref C_Wood)))
  (awi:W.findIn K (.ref C_Wood) "__init__"=some (some (.ref fwi))) (iwi:W.isFn K (.ref fwi)=true) (lwi:K.lookup fwi=some ⟨ocwi,odwi,.func (W.fnOf "__init__" "Wood.__init__" (aA cT) (av cT) (aj cT) .none kVwi dcwi pmwi anwi cdwi ctwi),slwi⟩) (cwi:W.codeIn K cdwi "Wood.__init__"=true) (kwi:W.keepIn K (.ref fwi)=true)
  (awm:W.findIn K (.ref C_Wood) "mark_of"=some (some (.ref fwm))) (iwm:W.isFn K (.ref fwm)=true) (lwm:K.lookup fwm=some ⟨ocwm,odwm,.func (W.fnOf "mark_of" "Wood.mark_of" (aA cA) (av cA) (aj cA) .none kVwm dcwm pmwm anwm cdwm ctwm),slwm⟩) (cwm:W.codeIn K cdwm "Wood.mark_of"=true) (kwm:W.keepIn K (.ref fwm)=true)
  (awq:W.findIn K (.ref C_Wood) "put"=some (some (.ref fwq))) (iwq:W.isFn K (.ref fwq)=true) (lwq:K.lookup fwq=some ⟨ocwq,odwq,.func (W.fnOf "put" "Wood.put" (aA cD) (av cD) (aj cD) .none kVwq dcwq pmwq anwq cdwq ctwq),slwq⟩) (cwq:W.codeIn K cdwq "Wood.put"=true) (kwq:W.keepIn K (.ref fwq)=true)
  (awu:W.findIn K (.ref C_Wood) "use"=some (some (.ref fwu))) (iwu:W.isFn K (.ref fwu)=true) (lwu:K.lookup fwu=some ⟨ocwu,odwu,.func (W.fnOf "use" "Wood.use" (aA bU) (av bU) (aj bU) (.ref dTwu) kVwu dcwu pmwu anwu cdwu ctwu),slwu⟩) (cwu:W.codeIn K cdwu "Wood.use"=true) (kwu:W.keepIn K (.ref fwu)=true)
  (ldwu:K.lookup dTwu=some ⟨ocdwu,oddwu,.seq #[.int 1 tkdwu] ndwu,sldwu⟩)
  (awz:W.findIn K (.ref C_Wood) "strike"=some (some (.ref fwz))) (iwz:W.isFn K (.ref fwz)=true) (lwz:K.lookup fwz=some ⟨ocwz,odwz,.func (W.fnOf "strike" "Wood.strike" (aA cB) (av cB) (aj cB) .none kVwz dcwz pmwz anwz cdwz ctwz),slwz⟩) (cwz:W.codeIn K cdwz "Wood.strike"=true) (kwz:W.keepIn K (.ref fwz)=true)
  (awf:W.findIn K (.ref C_Wood) "fade"=some (some (.ref fwf))) (iwf:W.isFn K (.ref fwf)=true) (lwf:K.lookup fwf=some ⟨ocwf,odwf,.func (W.fnOf "fade" "Wood.fade" (aA cU) (av cU) (aj cU) (.ref dTwf) kVwf dcwf pmwf anwf cdwf ctwf),slwf⟩) (cwf:W.codeIn K cdwf "Wood.fade"=true) (kwf:W.keepIn K (.ref fwf)=true)
  (ldwf:K.lookup dTwf=some ⟨ocdwf,oddwf,.seq #[.int 1 tkdwf] ndwf,sldwf⟩)
  (awe:W.findIn K (.ref C_Wood) "era"=some (some (.ref fwe))) (iwe:W.isFn K (.ref fwe)=true) (lwe:K.lookup fwe=some ⟨ocwe,odwe,.func (W.fnOf "era" "Wood.era" (aA cW) (av cW) (aj cW) .none kVwe dcwe pmwe anwe cdwe ctwe),slwe⟩) (cwe:W.codeIn K cdwe "Wood.era"=true) (kwe:W.keepIn K (.ref fwe)=true)
  (awh:W.findIn K (.ref C_Wood) "has"=some (some (.ref fwh))) (iwh:W.isFn K (.ref fwh)=true) (lwh:K.lookup fwh=some ⟨ocwh,odwh,.func (W.fnOf "has" "Wood.has" (aA cX) (av cX) (aj cX) .none kVwh dcwh pmwh anwh cdwh ctwh),slwh⟩) (cwh:W.codeIn K cdwh "Wood.has"=true) (kwh:W.keepIn K (.ref fwh)=true)
  (awx:W.findIn K (.ref C_Wood) "worth_of"=some (some (.ref fwx))) (iwx:W.isFn K (.ref fwx)=true) (lwx:K.lookup fwx=some ⟨ocwx,odwx,.func (W.fnOf "worth_of" "Wood.worth_of" (aA cz) (av cz) (aj cz) .none kVwx dcwx pmwx anwx cdwx ctwx),slwx⟩) (cwx:W.codeIn K cdwx "Wood.worth_of"=true) (kwx:W.keepIn K (.ref fwx)=true)
  (awb:W.findIn K (.ref C_Wood) "begun"=some (some (.ref fwb))) (iwb:W.isFn K (.ref fwb)=true) (lwb:K.lookup fwb=some ⟨ocwb,odwb,.func (W.fnOf "begun" "Wood.begun" (aA cR) (av cR) (aj cR) .none kVwb dcwb pmwb anwb cdwb ctwb),slwb⟩) (cwb:W.codeIn K cdwb "Wood.begun"=true) (kwb:W.keepIn K (.ref fwb)=true)
  (awv:W.findIn K (.ref C_Wood) "words"=some (some (.ref fwv))) (iwv:W.isFn K (.ref fwv)=true) (lwv:K.lookup fwv=some ⟨ocwv,odwv,.func (W.fnOf "words" "Wood.words" (aA cS) (av cS) (aj cS) .none kVwv dcwv pmwv anwv cdwv ctwv),slwv⟩) (cwv:W.codeIn K cdwv "Wood.words"=true) (kwv:W.keepIn K (.ref fwv)=true)
  (awt:W.findIn K (.ref C_Wood) "top_of"=some (some (.ref fwt))) (iwt:W.isFn K (.ref fwt)=true) (lwt:K.lookup fwt=some ⟨ocwt,odwt,.func (W.fnOf "top_of" "Wood.top_of" (aA cQ) (av cQ) (aj cQ) .none kVwt dcwt pmwt anwt cdwt ctwt),slwt⟩) (cwt:W.codeIn K cdwt "Wood.top_of"=true) (kwt:W.keepIn K (.ref fwt)=true)
  (awo:W.findIn K (.ref C_Wood) "told"=some (some (.ref fwo))) (iwo:W.isFn K (.ref fwo)=true) (lwo:K.lookup fwo=some ⟨ocwo,odwo,.func (W.fnOf "told" "Wood.told" (aA cV) (av cV) (aj cV) .none kVwo dcwo pmwo anwo cdwo ctwo),slwo⟩) (cwo:W.codeIn K cdwo "Wood.told"=true) (kwo:W.keepIn K (.ref fwo)=true)
  (awc:W.findIn K (.ref C_Wood) "cut_off"=some (some (.ref fwc))) (iwc:W.isFn K (.ref fwc)=true) (lwc:K.lookup fwc=some ⟨ocwc,odwc,.func (W.fnOf "cut_off" "Wood.cut_off" (aA cP) (av cP) (aj cP) .none kVwc dcwc pmwc anwc cdwc ctwc),slwc⟩) (cwc:W.codeIn K cdwc "Wood.cut_off"=true) (kwc:W.keepIn K (.ref fwc)=true)
  (pg_Wood:W.plainGet K C_Wood Str.empty=true) (hd_Wood:W.hasDictIn K C_Wood=true) (po_Wood:W.plainOver K C_Wood=true) (sa_Wood:W.findIn K (.ref C_Wood) "__setattr__"=some (some (.builtin "object.__setattr__"))) (mk_Wood:W.makesIn K C_Wood=true) (kc_Wood:W.keepIn K (.ref C_Wood)=true)
  (n_Wood_marks:W.findIn K (.ref C_Wood) "marks"=some none)
  (n_Wood_now:W.findIn K (.ref C_Wood) "now"=some none)
  (aC_PartWood:W.nsIn K mainGlobals "PartWood"=some (some (.ref C_PartWood)))
  (aswi:W.findIn K (.ref C_PartWood) "__init__"=some (some (.ref fwi)))
  (aswm:W.findIn K (.ref C_PartWood) "mark_of"=some (some (.ref fwm)))
  (aswq:W.findIn K (.ref C_PartWood) "put"=some (some (.ref fwq)))
  (aswu:W.findIn K (.ref C_PartWood) "use"=some (some (.ref fwu)))
  (aswz:W.findIn K (.ref C_PartWood) "strike"=some (some (.ref fwz)))
  (aswf:W.findIn K (.ref C_PartWood) "fade"=some (some (.ref fwf)))
  (aswe:W.findIn K (.ref C_PartWood) "era"=some (some (.ref fwe)))
  (aswh:W.findIn K (.ref C_PartWood) "has"=some (some (.ref fwh)))
  (aswx:W.findIn K (.ref C_PartWood) "worth_of"=some (some (.ref fwx)))
  (aswb:W.findIn K (.ref C_PartWood) "begun"=some (some (.ref fwb)))
  (aswv:W.findIn K (.ref C_PartWood) "words"=some (some (.ref fwv)))
  (aswt:W.findIn K (.ref C_PartWood) "top_of"=some (some (.ref fwt)))
  (aswo:W.findIn K (.ref C_PartWood) "told"=some (some (.ref fwo)))
  (aswc:W.findIn K (.ref C_PartWood) "cut_off"=some (some (.ref fwc)))
  (pg_PartWood:W.plainGet K C_PartWood Str.empty=true) (hd_PartWood:W.hasDictIn K C_PartWood=true) (po_PartWood:W.plainOver K C_PartWood=true) (sa_PartWood:W.findIn K (.ref C_PartWood) "__setattr__"=some (some (.builtin "object.__setattr__"))) (mk_PartWood:W.makesIn K C_PartWood=true) (kc_PartWood:W.keepIn K (.ref C_PartWood)=true)
  (n_PartWood_marks:W.findIn K (.ref C_PartWood) "marks"=some none)
  (n_PartWood_now:W.findIn K (.ref C_PartWood) "now"=some none)
  (aC_NoWord:W.nsIn K mainGlobals "NoWord"=some (some (.ref C_NoWord)))
  (aC_Twice:W.nsIn K mainGlobals "Twice"=some (some (.ref C_Twice)))
  (aC_Absent:W.nsIn K mainGlobals "Absent"=some (some (.ref C_Absent)))
  (aC_AheadError:W.nsIn K mainGlobals "AheadError"=some (some (.ref C_AheadError)))
  (aC_Beside:W.nsIn K mainGlobals "Beside"=some (some (.ref C_Beside)))
  (aC_NoChoice:W.nsIn K mainGlobals "NoChoice"=some (some (.ref C_NoChoice)))
  (aC_NoRow:W.nsIn K mainGlobals "NoRow"=some (some (.ref C_NoRow)))
  (aC_NoSign:W.nsIn K mainGlobals "NoSign"=some (some (.ref C_NoSign)))
  (aC_NoText:W.nsIn K mainGlobals "NoText"=some (some (.ref C_NoText)))
  (ar:W.nsIn K mainGlobals "rank_key"=some (some (.ref fr))) (lr:K.lookup fr=some ⟨ocr,odr,.func (W.fnOf "rank_key" "rank_key" (aA fD) (av fD) (aj fD) .none kVr dcr pmr anr cdr ctr),slr⟩) (cr:W.codeIn K cdr "rank_key"=true) (kr:W.keepIn K (.ref fr)=true)
  (aa:W.nsIn K mainGlobals "ahead_of"=some (some (.ref fa))) (la:K.lookup fa=some ⟨oca,oda,.func (W.fnOf "ahead_of" "ahead_of" (aA fF) (av fF) (aj fF) .none kVa dca pma ana cda cta),sla⟩) (ca:W.codeIn K cda "ahead_of"=true) (ka:W.keepIn K (.ref fa)=true)
  (ab:W.nsIn K mainGlobals "best_of"=some (some (.ref fb))) (lb:K.lookup fb=some ⟨ocb,odb,.func (W.fnOf "best_of" "best_of" (aA fM) (av fM) (aj fM) .none kVb dcb pmb anb cdb ctb),slb⟩) (cb:W.codeIn K cdb "best_of"=true) (kb:W.keepIn K (.ref fb)=true)
  (a1:W.nsIn K mainGlobals "is_letter"=some (some (.ref f1))) (l1:K.lookup f1=some ⟨oc1,od1,.func (W.fnOf "is_letter" "is_letter" (aA fh) (av fh) (aj fh) .none kV1 dc1 pm1 an1 cd1 ct1),sl1⟩) (c1:W.codeIn K cd1 "is_letter"=true) (k1:W.keepIn K (.ref f1)=true)
  (a2:W.nsIn K mainGlobals "is_part"=some (some (.ref f2))) (l2:K.lookup f2=some ⟨oc2,od2,.func (W.fnOf "is_part" "is_part" (aA fN) (av fN) (aj fN) .none kV2 dc2 pm2 an2 cd2 ct2),sl2⟩) (c2:W.codeIn K cd2 "is_part"=true) (k2:W.keepIn K (.ref f2)=true)
  (a3:W.nsIn K mainGlobals "is_word"=some (some (.ref f3))) (l3:K.lookup f3=some ⟨oc3,od3,.func (W.fnOf "is_word" "is_word" (aA fO) (av fO) (aj fO) .none kV3 dc3 pm3 an3 cd3 ct3),sl3⟩) (c3:W.codeIn K cd3 "is_word"=true) (k3:W.keepIn K (.ref f3)=true)
  (a4:W.nsIn K mainGlobals "worth_at"=some (some (.ref f4))) (l4:K.lookup f4=some ⟨oc4,od4,.func (W.fnOf "worth_at" "worth_at" (aA fG) (av fG) (aj fG) .none kV4 dc4 pm4 an4 cd4 ct4),sl4⟩) (c4:W.codeIn K cd4 "worth_at"=true) (k4:W.keepIn K (.ref f4)=true)
  (a5:W.nsIn K mainGlobals "used_mark"=some (some (.ref f5))) (l5:K.lookup f5=some ⟨oc5,od5,.func (W.fnOf "used_mark" "used_mark" (aA fj) (av fj) (aj fj) .none kV5 dc5 pm5 an5 cd5 ct5),sl5⟩) (c5:W.codeIn K cd5 "used_mark"=true) (k5:W.keepIn K (.ref f5)=true)
  (aga:W.nsIn K mainGlobals "greatest_at"=some (some (.ref fga))) (lga:K.lookup fga=some ⟨ocga,odga,.func (W.fnOf "greatest_at" "greatest_at" (aA eZ) (av eZ) (aj eZ) .none kVga dcga pmga anga cdga ctga),slga⟩) (cga:W.codeIn K cdga "greatest_at"=true) (kga:W.keepIn K (.ref fga)=true)
  (alg:W.nsIn K mainGlobals "longer_groups"=some (some (.ref flg))) (llg:K.lookup flg=some ⟨oclg,odlg,.func (W.fnOf "longer_groups" "longer_groups" (aA eV) (av eV) (aj eV) .none kVlg dclg pmlg anlg cdlg ctlg),sllg⟩) (clg:W.codeIn K cdlg "longer_groups"=true) (klg:W.keepIn K (.ref flg)=true)
  (abb:W.nsIn K mainGlobals "branches_behind"=some (some (.ref fbb))) (lbb:K.lookup fbb=some ⟨ocbb,odbb,.func (W.fnOf "branches_behind" "branches_behind" (aA dZ) (av dZ) (aj dZ) .none kVbb dcbb pmbb anbb cdbb ctbb),slbb⟩) (cbb:W.codeIn K cdbb "branches_behind"=true) (kbb:W.keepIn K (.ref fbb)=true)
  (afe:W.nsIn K mainGlobals "_law_feed"=some (some (.ref ffe))) (lfe:K.lookup ffe=some ⟨ocfe,odfe,.func (W.fnOf "_law_feed" "_law_feed" (aA fH) (av fH) (aj fH) .none kVfe dcfe pmfe anfe cdfe ctfe),slfe⟩) (cfe:W.codeIn K cdfe "_law_feed"=true) (kfe:W.keepIn K (.ref ffe)=true)
  (ad:W.nsIn K mainGlobals "_law_draw"=some (some (.ref fd))) (ld:K.lookup fd=some ⟨ocd,odd,.func (W.fnOf "_law_draw" "_law_draw" (aA fI) (av fI) (aj fI) .none kVd dcd pmd and cdd ctd),sld⟩) (cd:W.codeIn K cdd "_law_draw"=true) (kd:W.keepIn K (.ref fd)=true)
  (ap:W.nsIn K mainGlobals "_law_part"=some (some (.ref fp))) (lp:K.lookup fp=some ⟨ocp,odp,.func (W.fnOf "_law_part" "_law_part" (aA fJ) (av fJ) (aj fJ) .none kVp dcp pmp anp cdp ctp),slp⟩) (cp:W.codeIn K cdp "_law_part"=true) (kp:W.keepIn K (.ref fp)=true)
  (aft:W.nsIn K mainGlobals "_law_is_fit"=some (some (.ref fft))) (lft:K.lookup fft=some ⟨ocft,odft,.func (W.fnOf "_law_is_fit" "_law_is_fit" (aA e9) (av e9) (aj e9) .none kVft dcft pmft anft cdft ctft),slft⟩) (cft:W.codeIn K cdft "_law_is_fit"=true) (kft:W.keepIn K (.ref fft)=true)
  (aw:W.nsIn K mainGlobals "_law_word"=some (some (.ref fw))) (lw:K.lookup fw=some ⟨ocw,odw,.func (W.fnOf "_law_word" "_law_word" (aA fL) (av fL) (aj fL) .none kVw dcw pmw anw cdw ctw),slw⟩) (cw:W.codeIn K cdw "_law_word"=true) (kw:W.keepIn K (.ref fw)=true)
  (aws:W.nsIn K mainGlobals "_law_words"=some (some (.ref fws))) (lws:K.lookup fws=some ⟨ocws,odws,.func (W.fnOf "_law_words" "_law_words" (aA fk) (av fk) (aj fk) .none kVws dcws pmws anws cdws ctws),slws⟩) (cws:W.codeIn K cdws "_law_words"=true) (kws:W.keepIn K (.ref fws)=true)
  (abg:W.nsIn K mainGlobals "_law_beginning"=some (some (.ref fbg))) (lbg:K.lookup fbg=some ⟨ocbg,odbg,.func (W.fnOf "_law_beginning" "_law_beginning" (aA eW) (av eW) (aj eW) .none kVbg dcbg pmbg anbg cdbg ctbg),slbg⟩) (cbg:W.codeIn K cdbg "_law_beginning"=true) (kbg:W.keepIn K (.ref fbg)=true)
  (act:W.nsIn K mainGlobals "_law_count"=some (some (.ref fct))) (lct:K.lookup fct=some ⟨occt,odct,.func (W.fnOf "_law_count" "_law_count" (aA fu) (av fu) (aj fu) .none kVct dcct pmct anct cdct ctct),slct⟩) (cct:W.codeIn K cdct "_law_count"=true) (kct:W.keepIn K (.ref fct)=true)
  (ahv:W.nsIn K mainGlobals "_law_halved"=some (some (.ref fhv))) (lhv:K.lookup fhv=some ⟨ochv,odhv,.func (W.fnOf "_law_halved" "_law_halved" (aA fg) (av fg) (aj fg) .none kVhv dchv pmhv anhv cdhv cthv),slhv⟩) (chv:W.codeIn K cdhv "_law_halved"=true) (khv:W.keepIn K (.ref fhv)=true)
  (awd:W.nsIn K mainGlobals "_law_wood_deed"=some (some (.ref fwd))) (lwd:K.lookup fwd=some ⟨ocwd,odwd,.func (W.fnOf "_law_wood_deed" "_law_wood_deed" (aA eX) (av eX) (aj eX) .none kVwd dcwd pmwd anwd cdwd ctwd),slwd⟩) (cwd:W.codeIn K cdwd "_law_wood_deed"=true) (kwd:W.keepIn K (.ref fwd)=true)
  (arf:W.nsIn K mainGlobals "_law_refused"=some (some (.ref frf))) (lrf:K.lookup frf=some ⟨ocrf,odrf,.func (W.fnOf "_law_refused" "_law_refused" (aA e7) (av e7) (aj e7) .none kVrf dcrf pmrf anrf cdrf ctrf),slrf⟩) (crf:W.codeIn K cdrf "_law_refused"=true) (krf:W.keepIn K (.ref frf)=true)
  (aal:W.nsIn K mainGlobals "_law_alike"=some (some (.ref fal))) (lal:K.lookup fal=some ⟨ocal,odal,.func (W.fnOf "_law_alike" "_law_alike" (aA fz) (av fz) (aj fz) .none kVal dcal pmal anal cdal ctal),slal⟩) (cal:W.codeIn K cdal "_law_alike"=true) (kal:W.keepIn K (.ref fal)=true)
  (ali:W.nsIn K mainGlobals "_law_lies_in"=some (some (.ref fli))) (lli:K.lookup fli=some ⟨ocli,odli,.func (W.fnOf "_law_lies_in" "_law_lies_in" (aA e8) (av e8) (aj e8) .none kVli dcli pmli anli cdli ctli),slli⟩) (cli:W.codeIn K cdli "_law_lies_in"=true) (kli:W.keepIn K (.ref fli)=true)
  (acr:W.nsIn K mainGlobals "_law_cut_right"=some (some (.ref fcr))) (lcr:K.lookup fcr=some ⟨occr,odcr,.func (W.fnOf "_law_cut_right" "_law_cut_right" (aA eY) (av eY) (aj eY) .none kVcr dccr pmcr ancr cdcr ctcr),slcr⟩) (ccr:W.codeIn K cdcr "_law_cut_right"=true) (kcr:W.keepIn K (.ref fcr)=true)
  (alw:W.nsIn K mainGlobals "law"=some (some (.ref flw))) (llw:K.lookup flw=some ⟨oclw,odlw,.func (W.fnOf "law" "law" (aA dc) (av dc) (aj dc) .none kVlw dclw pmlw anlw cdlw ctlw),sllw⟩) (clw:W.codeIn K cdlw "law"=true) (klw:W.keepIn K (.ref flw)=true)
  (z_len:W.nsIn K mainGlobals "len"=some none)
  (z_range:W.nsIn K mainGlobals "range"=some none)
  (z_all:W.nsIn K mainGlobals "all"=some none)
  (z_max:W.nsIn K mainGlobals "max"=some none)
  (z_min:W.nsIn K mainGlobals "min"=some none)
  (z_sorted:W.nsIn K mainGlobals "sorted"=some none)
  (z_isinstance:W.nsIn K mainGlobals "isinstance"=some none)
  (z_str:W.nsIn K mainGlobals "str"=some none)
  (z_list:W.nsIn K mainGlobals "list"=some none)
  (z_repr:W.nsIn K mainGlobals "repr"=some none)
  (z_int:W.nsIn K mainGlobals "int"=some none)
  (z_bool:W.nsIn K mainGlobals "bool"=some none)
  (t_ss:W.kitOne K (.type "str") (.type "str")=some true)
  (t_bb:W.kitOne K (.type "bool") (.type "bool")=some true)
  (t_ns:W.kitOne K (.type "NoneType") (.type "str")=some false)
  (t_bs:W.kitOne K (.type "bool") (.type "str")=some false)
  (t_is:W.kitOne K (.type "int") (.type "str")=some false)
  (t_ls:W.kitOne K (.type "list") (.type "str")=some false)
  (t_ts:W.kitOne K (.type "tuple") (.type "str")=some false)
  (q_MOST_SIGNS:W.nsIn K mainGlobals "MOST_SIGNS"=some (some (.int 24 tk_MOST_SIGNS)))
  (q_MOST_PARTS:W.nsIn K mainGlobals "MOST_PARTS"=some (some (.int 4 tk_MOST_PARTS)))
  (q_MOST_LETTERS:W.nsIn K mainGlobals "MOST_LETTERS"=some (some (.int 12 tk_MOST_LETTERS)))
  (oxNoWord:b8 K C_NoWord none=true)
  (okNoWord:W.keepIn K (.ref C_NoWord)=true)
  (ocNoWord:dO K C_NoWord=true)
  (oeNoWord:W.exmOne K (.ref C_NoWord) (.ref C_AheadError)=some true)
  (oxTwice:b8 K C_Twice none=true)
  (okTwice:W.keepIn K (.ref C_Twice)=true)
  (ocTwice:dO K C_Twice=true)
  (oeTwice:W.exmOne K (.ref C_Twice) (.ref C_AheadError)=some true)
  (oxAbsent:b8 K C_Absent none=true)
  (okAbsent:W.keepIn K (.ref C_Absent)=true)
  (ocAbsent:dO K C_Absent=true)
  (oeAbsent:W.exmOne K (.ref C_Absent) (.ref C_AheadError)=some true)
  (otNN:W.kitOne K (.ref C_NoWord) (.ref C_NoWord)=some true)
  (otNT:W.kitOne K (.ref C_NoWord) (.ref C_Twice)=some false)
  (otNA:W.kitOne K (.ref C_NoWord) (.ref C_Absent)=some false)
  (otTN:W.kitOne K (.ref C_Twice) (.ref C_NoWord)=some false)
  (otTT:W.kitOne K (.ref C_Twice) (.ref C_Twice)=some true)
  (otTA:W.kitOne K (.ref C_Twice) (.ref C_Absent)=some false)
  (otAN:W.kitOne K (.ref C_Absent) (.ref C_NoWord)=some false)
  (otAT:W.kitOne K (.ref C_Absent) (.ref C_Twice)=some false)
  (otAA:W.kitOne K (.ref C_Absent) (.ref C_Absent)=some true)
  (oaN:W.kitAny K (.ref C_NoWord) (List.map Value.ref [C_Beside,C_NoChoice,C_NoRow,C_NoSign,C_NoText])=some false)
  (oaT:W.kitAny K (.ref C_Twice) (List.map Value.ref [C_Beside,C_NoChoice,C_NoRow,C_NoSign,C_NoText])=some false)
  (oaA:W.kitAny K (.ref C_Absent) (List.map Value.ref [C_Beside,C_NoChoice,C_NoRow,C_NoSign,C_NoText])=some false)
  (oKit:W.kitOne K (.ref C_PartWood) (.ref C_Wood)=some true)
  (oFi:W.findIn K (.ref C_PartWood) "__class__"=some (some (.builtin "object.__class__")))
  (oSp:W.specialIn K (.builtin "object.__class__") "__get__"=some (some (.builtin "getset_descriptor.__get__")))
  (oTk:W.takesIn K (.builtin "object.__class__")=some true)
  (oMr:W.mroIn K C_PartWood (.type "object")=some true),R)->R
noncomputable def pick {α:Type}:List Nat->Nat->List α->List α
 |_,_,[]=>[]
 |[],_,l=>l
 |k::ks,i,x::l=>if i=k then pick ks (i+1) l else x::pick (k::ks) (i+1) l
noncomputable def aO:Program:={ PySem.Challenge.pw_aheadword_k37_a_part_wood_is_a_wood with main:={ PySem.Challenge.pw_aheadword_k37_a_part_wood_is_a_wood.main with body:=pick [1,11,15,25,29,31] 0 PySem.Challenge.pw_aheadword_k37_a_part_wood_is_a_wood.main.body } }
theorem yJ {S A B:Type}{x:Option S}{f:S->A}{g:S->B}{a:A}{b:B}(h1:x.map f=some a) (h2:x.map g=some b):x.map (λs=>(f s,g s))=some (a,b):=by
 cases x with
 |none=>cases h1
 |some s=>cases h1;cases h2;rfl
end My
section
open PySem PySem.W PyProof.Rows
local macro_rules|`(tactic| o_head $H)=>`(tactic| refine holds_open (q:=My.aO) (loose:=[]) (Xt:=λs=>xlAt My.aO [] s&&recOk [] s) (XP:=XL My.aO []) (Yf:=Hook.obs $H) (Ya:=Hook.val $H) (YP:=Hook.says $H) (N:=7634) ?hl (Hook.of $H) (Hook.keeps $H) (λs e=>xl_of s (Bool.and_eq_true_iff.mp e).1) XL.keeps (by rfl) (by rfl) (by rfl) (λs e=>recFacts_of (Bool.and_eq_true_iff.mp e).2) (by rfl) (by assumption) (by decide +kernel) ⟨rfl,rfl,rfl,rfl,rfl,by decide +kernel⟩ ?hw ?hc)
theorem My.left_gen {p:Program}{N:Nat}{β:Type}(w:World){F:Shared->β}{v:β}(hb:(fencedOpening treeTable p w N).map (λs=>(s.heap,s.gens,s.drawn,s.toks))=some (boot_heap w.params,Array.mk [],boot_drawn,boot_toks)) (hi:((boot_heap w.params).isNs mainGlobals&&(Array.mk []:Array GenState).size==0)=true)
  (hs:∀ os,(topRun treeTable p w (boot_heap w.params).objs.size ((boot_heap w.params).nsMap mainGlobals "__annotations__") N ⟨boot_heap w.params,Array.mk [],boot_drawn,boot_toks,os⟩ (topStub p)).map (λs=>staticsOk (importedModules p.main.body) (boot_heap w.params) s.heap&&namesBound p s.heap&&gensDone s&&laidKept (boot_heap w.params) s.heap)=some true)
  (hv:∀ os,(topRun treeTable p w (boot_heap w.params).objs.size ((boot_heap w.params).nsMap mainGlobals "__annotations__") N ⟨boot_heap w.params,Array.mk [],boot_drawn,boot_toks,os⟩ (topStub p)).map F=some v):(openEnds treeTable p w N).map F=some v:=by
 obtain ⟨⟨hh,gs,d,k,os⟩,e1,e2⟩:=Option.map_eq_some_iff.mp hb
 obtain ⟨rfl,rfl,rfl,rfl⟩:hh=boot_heap w.params/\gs=Array.mk []/\d=boot_drawn/\k=boot_toks:=by simpa only [Prod.mk.injEq] using e2
 have a:=hs os
 have b:=hv os
 unfold openEnds
 rw [e1]
 show (topFrom treeTable p w N ⟨boot_heap w.params,Array.mk [],boot_drawn,boot_toks,os⟩).map F=some v
 unfold topFrom
 dsimp only
 rw [hi]
 dsimp only
 cases hx:topRun treeTable p w (boot_heap w.params).objs.size ((boot_heap w.params).nsMap mainGlobals "__annotations__") N ⟨boot_heap w.params,Array.mk [],boot_drawn,boot_toks,os⟩ (topStub p) with
 |none=>rw [hx] at b;cases b
 |some s1 =>
  rw [hx] at a b
  have a':=Option.some.inj a
  dsimp only at a'
  show Option.map F (match _ with|true=>some s1|false=>none)=some v
  rw [a']
  exact b
noncomputable abbrev My.X (w:World) (os:OsState):Option Shared:=topRun treeTable PySem.Challenge.pw_aheadword_k37_a_part_wood_is_a_wood w (boot_heap w.params).objs.size ((boot_heap w.params).nsMap mainGlobals "__annotations__") 7634 ⟨boot_heap w.params,Array.mk [],boot_drawn,boot_toks,os⟩ (topStub PySem.Challenge.pw_aheadword_k37_a_part_wood_is_a_wood)
theorem My.fst_snd {S A B:Type}{x:Option S}(F:S->A×B) (v:A×B) (h1:x.map (λs=>(F s).1)=some v.1) (h2:x.map (λs=>(F s).2)=some v.2):x.map F=some v:=by
 cases x with
 |none=>cases h1
 |some s=>exact congrArg some (Prod.ext (Option.some.inj h1) (Option.some.inj h2))
set_option maxRecDepth 100000 in
set_option maxHeartbeats 0 in
theorem My.left1d (w:World) (os:OsState):(My.X w os).map (λs=>(openSeen My.aO [] (importedModules PySem.Challenge.pw_aheadword_k37_a_part_wood_is_a_wood.main.body) (λs=>xlAt My.aO [] s&&recOk [] s) true s).2.2.2)=some ((openGood My.aO []).2.2.2):=by delta My.X;rw [Fast.te14082659384304107361,Fast.te14364793385576792824,Fast.te4187177175401517315];kernel_rfl
set_option maxRecDepth 100000 in
set_option maxHeartbeats 0 in
theorem My.left1c (w:World) (os:OsState):(My.X w os).map (λs=>(openSeen My.aO [] (importedModules PySem.Challenge.pw_aheadword_k37_a_part_wood_is_a_wood.main.body) (λs=>xlAt My.aO [] s&&recOk [] s) true s).2.2.1)=some ((openGood My.aO []).2.2.1):=by delta My.X;rw [Fast.te14082659384304107361,Fast.te14364793385576792824,Fast.te4187177175401517315];kernel_rfl
set_option maxRecDepth 100000 in
set_option maxHeartbeats 0 in
theorem My.left1b (w:World) (os:OsState):(My.X w os).map (λs=>(openSeen My.aO [] (importedModules PySem.Challenge.pw_aheadword_k37_a_part_wood_is_a_wood.main.body) (λs=>xlAt My.aO [] s&&recOk [] s) true s).2.1)=some ((openGood My.aO []).2.1):=by delta My.X;rw [Fast.te14082659384304107361,Fast.te14364793385576792824,Fast.te4187177175401517315];kernel_rfl
set_option maxRecDepth 100000 in
set_option maxHeartbeats 0 in
theorem My.left1a (w:World) (os:OsState):(My.X w os).map (λs=>(openSeen My.aO [] (importedModules PySem.Challenge.pw_aheadword_k37_a_part_wood_is_a_wood.main.body) (λs=>xlAt My.aO [] s&&recOk [] s) true s).1)=some ((openGood My.aO []).1):=by delta My.X;rw [Fast.te14082659384304107361,Fast.te14364793385576792824,Fast.te4187177175401517315];kernel_rfl
set_option maxRecDepth 100000 in
set_option maxHeartbeats 0 in
theorem My.leftS (w:World) (os:OsState):(My.X w os).map (λs=>staticsOk (importedModules PySem.Challenge.pw_aheadword_k37_a_part_wood_is_a_wood.main.body) (boot_heap w.params) s.heap&&namesBound PySem.Challenge.pw_aheadword_k37_a_part_wood_is_a_wood s.heap&&gensDone s&&laidKept (boot_heap w.params) s.heap)=some true:=by delta My.X;rw [Fast.te14082659384304107361,Fast.te14364793385576792824];kernel_rfl
theorem My.left_boot {β:Type}(w:World){F:Shared->β}{v:β}(hv:∀ os,(My.X w os).map F=some v):(openEnds treeTable PySem.Challenge.pw_aheadword_k37_a_part_wood_is_a_wood w 7634).map F=some v :=
 My.left_gen w (boot_open (p:=PySem.Challenge.pw_aheadword_k37_a_part_wood_is_a_wood) (N:=7634) (by kernel_rfl) (by kernel_rfl) (λs=>by kernel_rfl) w) (by kernel_rfl) (My.leftS w) hv
theorem My.left1 (w:World) (os:OsState):(My.X w os).map (λs=>(openSeen My.aO [] (importedModules PySem.Challenge.pw_aheadword_k37_a_part_wood_is_a_wood.main.body) (λs=>xlAt My.aO [] s&&recOk [] s) true s))=some (openGood My.aO []):=My.fst_snd (λs=>(openSeen My.aO [] (importedModules PySem.Challenge.pw_aheadword_k37_a_part_wood_is_a_wood.main.body) (λs=>xlAt My.aO [] s&&recOk [] s) true s)) (openGood My.aO []) (My.left1a w os) (My.fst_snd (λs=>(openSeen My.aO [] (importedModules PySem.Challenge.pw_aheadword_k37_a_part_wood_is_a_wood.main.body) (λs=>xlAt My.aO [] s&&recOk [] s) true s).2) (openGood My.aO []).2 (My.left1b w os) (My.fst_snd (λs=>(openSeen My.aO [] (importedModules PySem.Challenge.pw_aheadword_k37_a_part_wood_is_a_wood.main.body) (λs=>xlAt My.aO [] s&&recOk [] s) true s).2.2) (openGood My.aO []).2.2 (My.left1c w os) (My.left1d w os)))
theorem My.left (w:World):(openEnds treeTable PySem.Challenge.pw_aheadword_k37_a_part_wood_is_a_wood w 7634).map (λs=>(openSeen My.aO [] (importedModules PySem.Challenge.pw_aheadword_k37_a_part_wood_is_a_wood.main.body) (λs=>xlAt My.aO [] s&&recOk [] s) true s))=some (openGood My.aO []):=My.left_boot w λos=>My.left1 w os
set_option maxRecDepth 100000 in
set_option maxHeartbeats 0 in
theorem My.headL (main:∀ (q:Program) (loose:List Str) (XP:(Str->Option Value)->Heap->Prop) (YP:World->Heap->Prop) (d:DefRec) (K:Params->W.Frag),PySem.Challenge.rw_aheadword_k37_a_part_wood_is_a_wood.most=some 63->d.params.defaults=[]->d.name="law"->(∀ (w:World) (h:Heap),YP w h->(K w.params).In h)->(∀ w:World,My.Fx (K w.params))->W.WalkO q loose XP YP PySem.Challenge.rw_aheadword_k37_a_part_wood_is_a_wood.row.toRowW d [] (λf vs=>PySem.call f vs)):PySem.Challenge.rw_aheadword_k37_a_part_wood_is_a_wood.Holds:=by
 w_on;o_law;k_head;(case hl=>intro w;refine My.yJ (My.left w) (My.left_boot w λos=>?_);delta My.X;rw [Fast.te14082659384304107361,Fast.te14364793385576792824];kernel_rfl);(case hw=>w_witness2)
 k_fill
 refine main _ _ _ _ _ _ rfl rfl rfl (λw h Y=>W.kIn_of Y) λw R hR=>?_
 refine' hR ?aC_Wood ?awi ?iwi ?lwi ?cwi ?kwi ?awm ?iwm ?lwm ?cwm ?kwm ?awq ?iwq ?lwq ?cwq ?kwq ?awu ?iwu ?lwu ?cwu ?kwu ?ldwu ?awz ?iwz ?lwz ?cwz ?kwz ?awf ?iwf ?lwf ?cwf ?kwf ?ldwf ?awe ?iwe ?lwe ?cwe ?kwe ?awh ?iwh ?lwh ?cwh ?kwh ?awx ?iwx ?lwx ?cwx ?kwx ?awb ?iwb ?lwb ?cwb ?kwb ?awv ?iwv ?lwv ?cwv ?kwv ?awt ?iwt ?lwt ?cwt ?kwt ?awo ?iwo ?lwo ?cwo ?kwo ?awc ?iwc ?lwc ?cwc ?kwc ?pg_Wood ?hd_Wood ?po_Wood ?sa_Wood ?mk_Wood ?kc_Wood ?n_Wood_marks ?n_Wood_now ?aC_PartWood ?aswi ?aswm ?aswq ?aswu ?aswz ?aswf ?aswe ?aswh ?aswx ?aswb ?aswv ?aswt ?aswo ?aswc ?pg_PartWood ?hd_PartWood ?po_PartWood ?sa_PartWood ?mk_PartWood ?kc_PartWood ?n_PartWood_marks ?n_PartWood_now ?aC_NoWord ?aC_Twice ?aC_Absent ?aC_AheadError ?aC_Beside ?aC_NoChoice ?aC_NoRow ?aC_NoSign ?aC_NoText ?ar ?lr ?cr ?kr ?aa ?la ?ca ?ka ?ab ?lb ?cb ?kb ?a1 ?l1 ?c1 ?k1 ?a2 ?l2 ?c2 ?k2 ?a3 ?l3 ?c3 ?k3 ?a4 ?l4 ?c4 ?k4 ?a5 ?l5 ?c5 ?k5 ?aga ?lga ?cga ?kga ?alg ?llg ?clg ?klg ?abb ?lbb ?cbb ?kbb ?afe ?lfe ?cfe ?kfe ?ad ?ld ?cd ?kd ?ap ?lp ?cp ?kp ?aft ?lft ?cft ?kft ?aw ?lw ?cw ?kw ?aws ?lws ?cws ?kws ?abg ?lbg ?cbg ?kbg ?act ?lct ?cct ?kct ?ahv ?lhv ?chv ?khv ?awd ?lwd ?cwd ?kwd ?arf ?lrf ?crf ?krf ?aal ?lal ?cal ?kal ?ali ?lli ?cli ?kli ?acr ?lcr ?ccr ?kcr ?alw ?llw ?clw ?klw ?z_len ?z_range ?z_all ?z_max ?z_min ?z_sorted ?z_isinstance ?z_str ?z_list ?z_repr ?z_int ?z_bool ?t_ss ?t_bb ?t_ns ?t_bs ?t_is ?t_ls ?t_ts ?q_MOST_SIGNS ?q_MOST_PARTS ?q_MOST_LETTERS ?oxNoWord ?okNoWord ?ocNoWord ?oeNoWord ?oxTwice ?okTwice ?ocTwice ?oeTwice ?oxAbsent ?okAbsent ?ocAbsent ?oeAbsent ?otNN ?otNT ?otNA ?otTN ?otTT ?otTA ?otAN ?otAT ?otAA ?oaN ?oaT ?oaA ?oKit ?oFi ?oSp ?oTk ?oMr
 (case aC_Wood=>k_is);(case awi=>k_is);(case iwi=>k_is);(case lwi=>k_is);(case cwi=>k_is);(case kwi=>k_is);(case awm=>k_is);(case iwm=>k_is);(case lwm=>k_is);(case cwm=>k_is);(case kwm=>k_is);(case awq=>k_is);(case iwq=>k_is);(case lwq=>k_is);(case cwq=>k_is);(case kwq=>k_is);(case awu=>k_is);(case iwu=>k_is);(case lwu=>k_is);(case cwu=>k_is);(case kwu=>k_is);(case ldwu=>k_is);(case awz=>k_is);(case iwz=>k_is);(case lwz=>k_is);(case cwz=>k_is);(case kwz=>k_is);(case awf=>k_is);(case iwf=>k_is);(case lwf=>k_is);(case cwf=>k_is);(case kwf=>k_is);(case ldwf=>k_is);(case awe=>k_is);(case iwe=>k_is);(case lwe=>k_is);(case cwe=>k_is);(case kwe=>k_is);(case awh=>k_is);(case iwh=>k_is);(case lwh=>k_is);(case cwh=>k_is);(case kwh=>k_is);(case awx=>k_is);(case iwx=>k_is);(case lwx=>k_is);(case cwx=>k_is);(case kwx=>k_is);(case awb=>k_is);(case iwb=>k_is);(case lwb=>k_is);(case cwb=>k_is);(case kwb=>k_is);(case awv=>k_is);(case iwv=>k_is);(case lwv=>k_is);(case cwv=>k_is);(case kwv=>k_is);(case awt=>k_is);(case iwt=>k_is);(case lwt=>k_is);(case cwt=>k_is);(case kwt=>k_is);(case awo=>k_is);(case iwo=>k_is);(case lwo=>k_is);(case cwo=>k_is);(case kwo=>k_is);(case awc=>k_is);(case iwc=>k_is);(case lwc=>k_is);(case cwc=>k_is);(case kwc=>k_is);(case pg_Wood=>k_is);(case hd_Wood=>k_is);(case po_Wood=>k_is);(case sa_Wood=>k_is);(case mk_Wood=>k_is);(case kc_Wood=>k_is);(case n_Wood_marks=>k_is);(case n_Wood_now=>k_is);(case aC_PartWood=>k_is);(case aswi=>k_is);(case aswm=>k_is);(case aswq=>k_is);(case aswu=>k_is);(case aswz=>k_is);(case aswf=>k_is);(case aswe=>k_is);(case aswh=>k_is);(case aswx=>k_is);(case aswb=>k_is);(case aswv=>k_is);(case aswt=>k_is);(case aswo=>k_is);(case aswc=>k_is);(case pg_PartWood=>k_is);(case hd_PartWood=>k_is);(case po_PartWood=>k_is);(case sa_PartWood=>k_is);(case mk_PartWood=>k_is);(case kc_PartWood=>k_is);(case n_PartWood_marks=>k_is);(case n_PartWood_now=>k_is);(case aC_NoWord=>k_is);(case aC_Twice=>k_is);(case aC_Absent=>k_is);(case aC_AheadError=>k_is);(case aC_Beside=>k_is);(case aC_NoChoice=>k_is);(case aC_NoRow=>k_is);(case aC_NoSign=>k_is);(case aC_NoText=>k_is);(case ar=>k_is);(case lr=>k_is);(case cr=>k_is);(case kr=>k_is);(case aa=>k_is);(case la=>k_is);(case ca=>k_is);(case ka=>k_is);(case ab=>k_is);(case lb=>k_is);(case cb=>k_is);(case kb=>k_is);(case a1=>k_is);(case l1=>k_is);(case c1=>k_is);(case k1=>k_is);(case a2=>k_is);(case l2=>k_is);(case c2=>k_is);(case k2=>k_is);(case a3=>k_is);(case l3=>k_is);(case c3=>k_is);(case k3=>k_is);(case a4=>k_is);(case l4=>k_is);(case c4=>k_is);(case k4=>k_is);(case a5=>k_is);(case l5=>k_is);(case c5=>k_is);(case k5=>k_is);(case aga=>k_is);(case lga=>k_is);(case cga=>k_is);(case kga=>k_is);(case alg=>k_is);(case llg=>k_is);(case clg=>k_is);(case klg=>k_is);(case abb=>k_is);(case lbb=>k_is);(case cbb=>k_is);(case kbb=>k_is);(case afe=>k_is);(case lfe=>k_is);(case cfe=>k_is);(case kfe=>k_is);(case ad=>k_is);(case ld=>k_is);(case cd=>k_is);(case kd=>k_is);(case ap=>k_is);(case lp=>k_is);(case cp=>k_is);(case kp=>k_is);(case aft=>k_is);(case lft=>k_is);(case cft=>k_is);(case kft=>k_is);(case aw=>k_is);(case lw=>k_is);(case cw=>k_is);(case kw=>k_is);(case aws=>k_is);(case lws=>k_is);(case cws=>k_is);(case kws=>k_is);(case abg=>k_is);(case lbg=>k_is);(case cbg=>k_is);(case kbg=>k_is);(case act=>k_is);(case lct=>k_is);(case cct=>k_is);(case kct=>k_is);(case ahv=>k_is);(case lhv=>k_is);(case chv=>k_is);(case khv=>k_is);(case awd=>k_is);(case lwd=>k_is);(case cwd=>k_is);(case kwd=>k_is);(case arf=>k_is);(case lrf=>k_is);(case crf=>k_is);(case krf=>k_is);(case aal=>k_is);(case lal=>k_is);(case cal=>k_is);(case kal=>k_is);(case ali=>k_is);(case lli=>k_is);(case cli=>k_is);(case kli=>k_is);(case acr=>k_is);(case lcr=>k_is);(case ccr=>k_is);(case kcr=>k_is);(case alw=>k_is);(case llw=>k_is);(case clw=>k_is);(case klw=>k_is);(case z_len=>k_is);(case z_range=>k_is);(case z_all=>k_is);(case z_max=>k_is);(case z_min=>k_is);(case z_sorted=>k_is);(case z_isinstance=>k_is);(case z_str=>k_is);(case z_list=>k_is);(case z_repr=>k_is);(case z_int=>k_is);(case z_bool=>k_is);(case t_ss=>kit_is);(case t_bb=>kit_is);(case t_ns=>kit_is);(case t_bs=>kit_is);(case t_is=>kit_is);(case t_ls=>kit_is);(case t_ts=>kit_is);(case q_MOST_SIGNS=>k_is);(case q_MOST_PARTS=>k_is);(case q_MOST_LETTERS=>k_is);(case oxNoWord=>kernel_rfl);(case okNoWord=>kernel_rfl);(case ocNoWord=>kernel_rfl);(case oeNoWord=>kernel_rfl);(case oxTwice=>kernel_rfl);(case okTwice=>kernel_rfl);(case ocTwice=>kernel_rfl);(case oeTwice=>kernel_rfl);(case oxAbsent=>kernel_rfl);(case okAbsent=>kernel_rfl);(case ocAbsent=>kernel_rfl);(case oeAbsent=>kernel_rfl);(case otNN=>kernel_rfl);(case otNT=>kernel_rfl);(case otNA=>kernel_rfl);(case otTN=>kernel_rfl);(case otTT=>kernel_rfl);(case otTA=>kernel_rfl);(case otAN=>kernel_rfl);(case otAT=>kernel_rfl);(case otAA=>kernel_rfl);(case oaN=>kernel_rfl);(case oaT=>kernel_rfl);(case oaA=>kernel_rfl);(case oKit=>kernel_rfl);(case oFi=>kernel_rfl);(case oSp=>kernel_rfl);(case oTk=>kernel_rfl);(case oMr=>kernel_rfl)
end
set_option maxRecDepth 100000
namespace L2
open PySem PySem.Spec PyProof.Rows
abbrev Key:=Sum Int Str
def gu:Key->Value->Bool
 |.inl k,v=>Value.isInt k v
 |.inr x,v=>Value.isStrOf x v
def GK (w:World):Key->Int
 |.inl k=>hashInt k
 |.inr x=>hashStr w x
theorem cC:∀ {k:Key}{v:Value},gu k v=true->(∃ i t,k=Sum.inl i/\v=Value.int i t)\/(∃ x t,k=Sum.inr x/\v=Value.str x t)
 |.inl i,v,h=>by
  obtain ⟨t,e⟩:=Value.isInt_shape (k:=i) (v:=v) h
  exact .inl ⟨i,t,rfl,e⟩
 |.inr x,v,h=>by
  obtain ⟨t,e⟩:=Value.isStrOf_shape (x:=x) (v:=v) h
  exact .inr ⟨x,t,rfl,e⟩
theorem xH (i:Int) (t:Tok):gu (.inl i) (.int i t)=true:=by simp [gu,Value.isInt]
theorem xI (x:Str) (t:Tok):gu (.inr x) (.str x t)=true:=by simp [gu,Value.isStrOf]
theorem BY (a b:Int):decide ((Sum.inl a:Key)=Sum.inl b)=(a==b):=by
 by_cases e:a=b
 ·subst e;simp
 ·have h:¬ (Sum.inl a:Key)=Sum.inl b:=λq=>e (Sum.inl.inj q)
  rw [decide_eq_false h]
  exact (beq_eq_false_iff_ne.mpr e).symm
theorem BZ (a b:Str):decide ((Sum.inr a:Key)=Sum.inr b)=decide (a=b):=by
 by_cases e:a=b
 ·subst e;simp
 ·have h:¬ (Sum.inr a:Key)=Sum.inr b:=λq=>e (Sum.inr.inj q)
  rw [decide_eq_false h,decide_eq_false e]
theorem B6 (a:Int) (b:Str):decide ((Sum.inl a:Key)=Sum.inr b)=false:=decide_eq_false (λq=>nomatch q)
theorem B7 (a:Str) (b:Int):decide ((Sum.inr a:Key)=Sum.inl b)=false:=decide_eq_false (λq=>nomatch q)
def aP (prog:Program) (w:World):PySem.KeyKind prog w Key where
 is:=gu
 hash:=GK w
 inj:=λv a b ha hb=>by
  rcases cC ha with ⟨i,t,rfl,rfl⟩|⟨x,t,rfl,rfl⟩
  ·rcases cC hb with ⟨j,u,rfl,e⟩|⟨y,u,rfl,e⟩
   ·injection e with e1 _;rw [e1]
   ·exact nomatch e
  ·rcases cC hb with ⟨j,u,rfl,e⟩|⟨y,u,rfl,e⟩
   ·exact nomatch e
   ·injection e with e1 _;rw [e1]
 byValue:=λk v h=>by
  rcases cC h with ⟨i,t,rfl,rfl⟩|⟨x,t,rfl,rfl⟩<;>rfl
 pyHash:=λhv h=>by
  rcases cC hv with ⟨i,t,rfl,rfl⟩|⟨x,t,rfl,rfl⟩
  ·exact wpAny_pyHash_int h
  ·exact wpAny_pyHash_str h
 eqBool:=λhu hv h=>by
  rcases cC hu with ⟨i,t,rfl,rfl⟩|⟨x,t,rfl,rfl⟩
  ·rcases cC hv with ⟨j,u,rfl,rfl⟩|⟨y,u,rfl,rfl⟩
   ·rw [BY] at h;exact wpAny_eqBool_int h
   ·rw [B6] at h;exact SeqAt.EqAt.int_str i t y u _ _ _ _ h
  ·rcases cC hv with ⟨j,u,rfl,rfl⟩|⟨y,u,rfl,rfl⟩
   ·rw [B7] at h;exact SeqAt.EqAt.str_int x t j u _ _ _ _ h
   ·rw [BZ] at h;exact wpAny_eqBool_str h
 «strs»:=λk x t v h=>by
  rcases cC h with ⟨i,u,rfl,e⟩|⟨y,u,rfl,e⟩
  ·exact nomatch e
  ·injection e with e1 _
   subst e1
   cases v<;>rfl
theorem xh (prog:Program) (w:World) (i:Int) (t:Tok):(aP prog w).is (.inl i) (.int i t)=true:=xH i t
theorem xj (prog:Program) (w:World) (x:Str) (t:Tok):(aP prog w).is (.inr x) (.str x t)=true:=xI x t
inductive V where
 |non|bl (b:Bool)|int (i:Int)|str (x:Str)|byt (b:Array UInt8)|flt (b:UInt64)|ref (a:Addr)|ty (n:String)
 deriving DecidableEq
def aq:V->Value->Prop
 |.non,u=>u=Value.none
 |.bl b,u=>u=Value.bool b
 |.int i,u=>∃ t,u=Value.int i t
 |.str x,u=>∃ t,u=Value.str x t
 |.byt b,u=>∃ t,u=Value.bytes b t
 |.flt b,u=>∃ t,u=Value.float b t
 |.ref a,u=>u=Value.ref a
 |.ty n,u=>u=Value.type n
abbrev al:List V->List Value->Prop:=Paired aq
theorem al.length {xs:List V}{us:List Value}(r:al xs us):xs.length=us.length:=Paired.length r
theorem al.get:∀ {xs:List V}{us:List Value}{i:Nat}{x:V},al xs us->xs[i]?=some x->∃ u,us[i]?=some u/\aq x u
 |_,_,_,_,.nil,e=>by simp at e
 |_,_,0,_,.cons r _,e=>by simp at e;subst e;exact ⟨_,rfl,r⟩
 |_,_,i+1,x,.cons _ t,e=>by
  obtain ⟨u,h1,h2⟩:=al.get (i:=i) (x:=x) t (by simpa using e)
  exact ⟨u,by simpa using h1,h2⟩
theorem al.set {x:V}{u:Value}(r:aq x u):∀ {xs:List V}{us:List Value}(i:Nat),al xs us->al (xs.set i x) (us.set i u)
 |_,_,_,.nil=>.nil
 |_,_,0,.cons _ t=>.cons r t
 |_,_,i+1,.cons q t=>.cons q (al.set r i t)
theorem al.append:∀ {xs ys:List V}{us ws:List Value},al xs us->al ys ws->al (xs++ys) (us++ws)
 |_,_,_,_,.nil,s=>s
 |_,_,_,_,.cons r t,s=>.cons r (al.append t s)
theorem al.take:∀ {xs:List V}{us:List Value}(n:Nat),al xs us->al (xs.take n) (us.take n)
 |_,_,0,_=>.nil
 |_,_,_+1,.nil=>.nil
 |_,_,n+1,.cons r t=>.cons r (al.take n t)
theorem al.drop:∀ {xs:List V}{us:List Value}(n:Nat),al xs us->al (xs.drop n) (us.drop n)
 |_,_,0,r=>r
 |_,_,_+1,.nil=>.nil
 |_,_,n+1,.cons _ t=>al.drop n t
def bp:Option V->Option Value->Prop
 |some v,some u=>aq v u
 |none,none=>True
 |_,_=>False
def KV {κ:Type}:List (κ×V)->List (κ×Value)->Prop:=Paired λ(p:κ×V) (q:κ×Value)=>p.1=q.1/\aq p.2 q.2
def kV:Key->V
 |.inl i=>.int i
 |.inr x=>.str x
inductive HO where
  |lst (xs:List V)
  |tup (xs:List V)
  |dK (kvs:List (Key×V))|dT (kvs:List (List Key×V))
  |set (S:Int->Bool) (n:Nat)
  |ins (C dx:Addr) (fs:List (Str×V))
  |own (x:Addr)
  |xd (fs:List (Str×V))
  |met (f x:Addr)
  |rng (lo hi:Int)
  |frz (o:Obj) (u:HO)
  |tbl (ps:Array Value)
  |ext (φ:Heap->Prop)
abbrev Hp:=Addr->Option HO
def upd (H:Hp) (a:Addr) (o:HO):Hp:=λb=>if b=a then some o else H b
theorem aI {H:Hp}{a:Addr}{o:HO}:upd H a o a=some o:=by unfold upd;rw [if_pos rfl]
theorem aB {H:Hp}{a b:Addr}{o:HO}(h:b≠a):upd H a o b=H b:=by unfold upd;rw [if_neg h]
theorem gX {H:Hp}{a:Addr}{o u:HO}:upd (upd H a o) a u=upd H a u:=by
 funext b;unfold upd;split<;>rfl
theorem cJ {H:Hp}{a b:Addr}{o u:HO}(h:H a=some o) (h':H b=some u) (d:o≠u):a≠b:=by
 intro e;subst e;rw [h] at h';exact d (Option.some.inj h')
theorem bj {H:Hp}{a b:Addr}{o:HO}(h:H a=some o) (h':H b=none):a≠b:=by
 intro e;subst e;rw [h] at h';cases h'
section
variable (P:Program) (w:World)
def aN (H:Hp) (h:Heap) (a:Addr):HO->Prop
 |.lst xs=>xs.length<=sizeLine/\∃ (its:List Value) (n:Nat),al xs its/\h.get? a=some { cls:=.type "list",data:=.seq its.toArray n }
 |.tup xs=>xs.length<=sizeLine/\∃ its:List Value,al xs its/\IsTup h a its.toArray
 |.dK kvs=>kvs.length<=sizeLine/\(a==sysModules)=false/\∃ vs,KV kvs vs/\h.DictOf (aP P w) a vs
 |.dT kvs=>kvs.length<=sizeLine/\(a==sysModules)=false/\∃ xs:List (List Key×Addr×Value),
   Paired (λ(p:List Key×V) (q:List Key×Addr×Value)=>p.1=q.1/\H q.2.1=some (.tup (p.1.map kV))/\aq p.2 q.2.2) kvs xs /\
   ∃ o es ep,h.get? a=some o/\o.ExactDict/\o.data=.dict es ep/\es.toList=xs.map (entryOfKey (tupleKind (aP P w)))/\(xs.map (·.1)).Nodup
 |.set S n=>h.SetOf (intKind P w) a S n
 |.ins C dx fs=>H dx=some (.own a)/\fs.length<=1000/\dx≠a/\h.get? a=some (PySem.W.instObj C dx) /\
   ∃ mA,h.Ns1 dx mA/\(∀ f,bp (fs.lookup f) (mA f))/\PySem.Within mA (fs.map (·.1))
 |.own _=>∃ o,h.get? a=some o
 |.xd fs=>∃ mA,h.Ns1 a mA/\∀ f,bp (fs.lookup f) (mA f)
 |.rng lo hi=>∃ t u v,h.get? a=some { cls:=.type "range",data:=.fields #[.int lo t,.int hi u,.int 1 v] }
 |.frz o u=>h.get? a=some o/\aN H h a u
 |.tbl ps=>h.get? a=some { cls:=.none,data:=.fields ps }
 |.met f x=>h.get? a=some (PySem.W.methodObj (.ref f) (.ref x))
 |.ext φ=>φ h/\(∃ o,h.get? a=some o)/\∀ h1 h2:Heap,φ h1->(∀ o,h1.get? a=some o->h2.get? a=some o)->φ h2
def HOk (H:Hp) (h:Heap):Prop:=∀ a o,H a=some o->aN P w H h a o
end
section
variable {P:Program}{w:World}{H H':Hp}{h h':Heap}{a:Addr}{o:HO}
theorem aN.lt (x:aN P w H h a o):a<h.objs.size:=by
 cases o with
 |lst xs=>obtain ⟨_,_,_,_,e⟩:=x;exact Heap.lt_size e
 |tup xs=>obtain ⟨_,_,_,p⟩:=x;exact p.lt
 |dK kvs=>obtain ⟨_,_,_,_,o,_,_,e,_⟩:=x;exact Heap.lt_size e
 |dT kvs=>obtain ⟨_,_,_,_,o,_,_,e,_⟩:=x;exact Heap.lt_size e
 |set S n=>obtain ⟨o,_,_,_,e,_⟩:=x;exact Heap.lt_size e
 |ins C dx fs=>obtain ⟨_,_,_,e,_⟩:=x;exact Heap.lt_size e
 |own y=>obtain ⟨_,e⟩:=x;exact Heap.lt_size e
 |xd fs=>obtain ⟨_,⟨_,_,_,e,_⟩,_⟩:=x;exact Heap.lt_size e
 |rng lo hi=>obtain ⟨_,_,_,e⟩:=x;exact Heap.lt_size e
 |frz ob u=>obtain ⟨e,_⟩:=x;exact Heap.lt_size e
 |tbl ps=>exact Heap.lt_size (show h.get? a=some _ from x)
 |met f y=>exact Heap.lt_size (show h.get? a=some _ from x)
 |ext φ=>obtain ⟨_,⟨_,e⟩,_⟩:=x;exact Heap.lt_size e
theorem Paired.mapP {α β:Type}{F G:α->β->Prop}:∀ {l₁:List α}{l₂:List β},Paired F l₁ l₂->(∀ a b,F a b->G a b)->Paired G l₁ l₂
 |_,_,.nil,_=>.nil
 |_,_,.cons r t,f=>.cons (f _ _ r) (Paired.mapP t f)
theorem aN.stay (x:aN P w H h a o) (k:∀ b u,(b=a\/H b=some (.own a))->h.get? b=some u->h'.get? b=some u)
  (ho:∀ b,H b=some (.own a)->H' b=some (.own a)) (ht:∀ b xs,H b=some (.tup xs)->H' b=some (.tup xs)):aN P w H' h' a o:=by
 induction o with
 |lst xs=>obtain ⟨z,its,n,r,e⟩:=x;exact ⟨z,its,n,r,k _ _ (.inl rfl) e⟩
 |tup xs=>obtain ⟨z,its,r,ob,e,c⟩:=x;exact ⟨z,its,r,ob,k _ _ (.inl rfl) e,c⟩
 |dK kvs=>obtain ⟨z,y,vs,r,ob,es,ep,e,c⟩:=x;exact ⟨z,y,vs,r,ob,es,ep,k _ _ (.inl rfl) e,c⟩
 |dT kvs =>
  obtain ⟨z,y,xs,r,ob,es,ep,e,c⟩:=x
  exact ⟨z,y,xs,Paired.mapP r λp q z=>⟨z.1,ht _ _ z.2.1,z.2.2⟩,ob,es,ep,k _ _ (.inl rfl) e,c⟩
 |set S n=>obtain ⟨ob,es,ep,t,e,c⟩:=x;exact ⟨ob,es,ep,t,k _ _ (.inl rfl) e,c⟩
 |ins C dx fs =>
  obtain ⟨d,z,ne,e,mA,⟨od,es,ep,e2,c⟩,r⟩:=x
  exact ⟨ho _ d,z,ne,k _ _ (.inl rfl) e,mA,⟨od,es,ep,k _ _ (.inr d) e2,c⟩,r⟩
 |own y=>obtain ⟨ob,e⟩:=x;exact ⟨ob,k _ _ (.inl rfl) e⟩
 |xd fs=>obtain ⟨mA,⟨od,es,ep,e,c⟩,r⟩:=x;exact ⟨mA,⟨od,es,ep,k _ _ (.inl rfl) e,c⟩,r⟩
 |rng lo hi=>obtain ⟨t,u,v,e⟩:=x;exact ⟨t,u,v,k _ _ (.inl rfl) e⟩
 |frz ob u ih=>obtain ⟨e,q⟩:=x;exact ⟨k _ _ (.inl rfl) e,ih q⟩
 |tbl ps =>
  have e:h.get? a=some { cls:=.none,data:=.fields ps }:=x
  show h'.get? a=some { cls:=.none,data:=.fields ps }
  exact k a _ (.inl rfl) e
 |met f y =>
  have e:h.get? a=some (PySem.W.methodObj (.ref f) (.ref y)):=x
  show h'.get? a=some (PySem.W.methodObj (.ref f) (.ref y))
  exact k a _ (.inl rfl) e
 |ext φ=>obtain ⟨p,⟨o,e⟩,st⟩:=x;exact ⟨st _ _ p λo q=>k _ _ (.inl rfl) q,⟨o,k _ _ (.inl rfl) e⟩,st⟩
theorem HOk.lt (x:HOk P w H h) (e:H a=some o):a<h.objs.size:=(x a o e).lt
theorem HOk.fresh (x:HOk P w H h) (e:h.objs.size<=a):H a=none:=by
 cases q:H a with
 |none=>rfl
 |some u=>exact absurd (Nat.lt_of_lt_of_le (x.lt q) e) (Nat.lt_irrefl _)
theorem HOk.kept (x:HOk P w H h) (k:∀ b u,h.get? b=some u->h'.get? b=some u):HOk P w H h':=λa o e =>
 (x a o e).stay (λb u _ q=>k b u q) (λ_ q=>q) λ_ _ q=>q
theorem HOk.laid (x:HOk P w H h) (k:∀ b u,h.get? b=some u->h'.get? b=some u) (hp:h.objs.size<=a) (new:aN P w (upd H a o) h' a o):HOk P w (upd H a o) h':=λb u e=>by
 have hn:=x.fresh hp
 by_cases hb:b=a
 ·subst hb;rw [aI] at e;cases e;exact new
 ·rw [aB hb] at e
  exact (x b u e).stay (λc v _ q=>k c v q) (λc q=>by rw [aB (bj q hn)];exact q) λc xs q=>by rw [aB (bj q hn)];exact q
end
def Rd (H:Hp) (a:Addr) (u:HO):Prop:=H a=some u\/∃ o,H a=some (.frz o u)
theorem Rd.ok {P:Program}{w:World}{H:Hp}{h:Heap}{a:Addr}{u:HO}(r:Rd H a u) (x:HOk P w H h):aN P w H h a u:=by
 rcases r with r|⟨o,r⟩
 ·exact x a u r
 ·obtain ⟨_,q⟩:=x a _ r
  exact q
def Mut:Option HO->Prop
 |some (.lst _)=>True
 |some (.dK _)=>True
 |some (.dT _)=>True
 |some (.set _ _)=>True
 |some (.ins _ _ _)=>True
 |some (.ext _)=>True
 |_=>False
section
variable {P:Program}{w:World}{H:Hp}{h h':Heap}{x e:Addr}{o':HO}
theorem HOk.write (ok:HOk P w H h) (mu:Mut (H x)) (he:e=x\/H e=some (.own x)) (k:∀ b u,b≠e->h.get? b=some u->h'.get? b=some u) (heo:∃ u,h'.get? e=some u)
  (new:aN P w (upd H x o') h' x o'):HOk P w (upd H x o') h':=λb u q=>by
 have nown:∀ c y,H c=some (.own y)->c≠x:=λc y r z=>by subst z;rw [r] at mu;exact mu
 have ntup:∀ c xs,H c=some (.tup xs)->c≠x:=λc xs r z=>by subst z;rw [r] at mu;exact mu
 by_cases hb:b=x
 ·subst hb;rw [aI] at q;cases q;exact new
 ·rw [aB hb] at q
  by_cases hbe:b=e
  ·have q':H b=some (.own x):=by
    rcases he with z|z
    ·exact absurd (hbe.trans z) hb
    ·rw [hbe];exact z
   rw [q] at q';cases q'
   obtain ⟨v,hv⟩:=heo
   exact ⟨v,by rw [hbe];exact hv⟩
  ·refine (ok b u q).stay (λc v hc r=>k c v ?_ r) (λc r=>by rw [aB (nown c b r)];exact r) λc xs r=>by rw [aB (ntup c xs r)];exact r
   rcases hc with rfl|hc
   ·exact hbe
   ·rintro rfl
    rcases he with z|z
    ·exact nown c b hc z
    ·rw [hc] at z;cases z;exact hb rfl
end
structure Un (fs ex:List Addr) (H H':Hp) (h h':Heap):Prop where
 keep:∀ b o,h.get? b=some o->H b=none->b∉fs->b∉ex->h'.get? b=some o
 slot:∀ b o,h.get? b=some o->H b=none->b∈fs->b∉ex->∃ sl,h'.get? b=some { o with slots:=sl }
 free:∀ b o,h.get? b=some o->H b=none->b∉ex->H' b=none
 there:∀ b o,h.get? b=some o->b∉ex->∃ o',h'.get? b=some o'
 tups:∀ b xs,H b=some (.tup xs)->H' b=some (.tup xs)
 frzs:∀ b o u,H b=some (.frz o u)->H' b=some (.frz o u)
 tbls:∀ b ps,H b=some (.tbl ps)->∃ more,H' b=some (.tbl (ps++more))
section
variable {fs fs' ex ex':List Addr}{H H1 H2:Hp}{h h1 h2 h':Heap}{a x e:Addr}{o:HO}
theorem Un.any (u:Un fs ex H H1 h h1){b:Addr}{ob:Obj}(q:h.get? b=some ob) (n:H b=none) (hx:b∉ex):∃ sl,h1.get? b=some { ob with slots:=sl }:=by
 by_cases hb:b∈fs
 ·exact u.slot b ob q n hb hx
 ·exact ⟨ob.slots,u.keep b ob q n hb hx⟩
theorem Un.kept (k:∀ b u,h.get? b=some u->h'.get? b=some u):Un fs ex H H h h' :=
 ⟨λb ob q _ _ _=>k b ob q,λb ob q _ _ _=>⟨ob.slots,k b ob q⟩,λ_ _ _ n _=>n,λb ob q _=>⟨ob,k b ob q⟩,λ_ _ q=>q,λ_ _ _ q=>q,λ_ ps q=>⟨#[],by rw [q];simp⟩⟩
theorem Un.refl:Un fs ex H H h h:=Un.kept λ_ _ q=>q
theorem Un.laid (k:∀ b u,h.get? b=some u->h'.get? b=some u) (hp:h.objs.size<=a) (hn:H a=none):Un fs ex H (upd H a o) h h' where
 keep:=λb u q _ _ _=>k b u q
 slot:=λb u q _ _ _=>⟨u.slots,k b u q⟩
 free:=λb u q n _=>by rw [aB (Nat.ne_of_lt (Nat.lt_of_lt_of_le (Heap.lt_size q) hp))];exact n
 there:=λb u q _=>⟨u,k b u q⟩
 tups:=λb xs q=>by rw [aB (bj q hn)];exact q
 frzs:=λb u xs q=>by rw [aB (bj q hn)];exact q
 tbls:=λb ps q=>⟨#[],by rw [aB (bj q hn),q];simp⟩
theorem Un.write (mu:Mut (H x)) (he:e=x\/H e=some (.own x)) (k:∀ b u,b≠e->h.get? b=some u->h'.get? b=some u) (heo:∃ u,h'.get? e=some u):Un fs ex H (upd H x o) h h':=by
 have hx:∀ b,H b=none->b≠x:=λb n z=>by subst z;rw [n] at mu;exact mu
 have hb:∀ b,H b=none->b≠e:=λb n z=>by
  subst z
  rcases he with r|r
  ·exact hx b n r
  ·rw [n] at r;cases r
 have hm:∀ b u,H b=some u->¬ Mut (some u)->b≠x:=λb u q nm z=>by subst z;rw [q] at mu;exact nm mu
 refine ⟨λb u q n _ _=>k b u (hb b n) q,λb u q n _ _=>⟨u.slots,k b u (hb b n) q⟩,λb u q n _=>by rw [aB (hx b n)];exact n,λb u q _=>?_,
  λb xs q=>by rw [aB (hm b _ q λz=>z)];exact q,λb u xs q=>by rw [aB (hm b _ q λz=>z)];exact q,λb ps q=>⟨#[],by rw [aB (hm b _ q λz=>z),q];simp⟩⟩
 by_cases hbe:b=e
 ·subst hbe;exact heo
 ·exact ⟨u,k b u hbe q⟩
end
def trk (h:Heap) (H:Hp):List Addr:=(List.range h.objs.size).filter λa=>(H a).isSome
def dm (h:Heap) (H:Hp):Heap:=PySem.W.hideAll h (trk h H)
theorem xJ (h:Heap) (H:Hp):(dm h H).objs.size=h.objs.size:=PySem.W.hideAll_size _ _
theorem yK {h:Heap}{H:Hp}{b:Addr}{o:Obj}(e:h.get? b=some o) (n:H b=none):(dm h H).get? b=some o :=
 PySem.W.hideAll_get _ e λhm=>by
  have q:(H b).isSome=true:=(List.mem_filter.mp hm).2
  rw [n] at q;simp at q
theorem z6 {h:Heap}{H:Hp}{b:Addr}{o:Obj}(e:(dm h H).get? b=some o):h.get? b=some o/\H b=none:=by
 have e':h.get? b=some o:=PySem.W.of_hideAll (trk h H) e
 refine ⟨e',?_⟩
 cases q:H b with
 |none=>rfl
 |some x =>
  have hm:b∈trk h H:=List.mem_filter.mpr ⟨List.mem_range.mpr (Heap.lt_size e'),by simp [q]⟩
  have z:(dm h H).get? b=none:=PySem.W.hideAll_none (trk h H) hm
  rw [z] at e;cases e
def z7 (g h:Heap) (L:Addr):List (Addr×Obj):=(List.range h.objs.size).filterMap λa=>if a=L\/(g.get? a).isSome=true then none else (h.get? a).map λo=>(a,o)
def rest (g h:Heap) (L d:Addr):List (Addr×Obj):=(z7 g h L).filter λp=>decide (p.1≠d)
structure Mod (K:PySem.W.Frag) (mg:Str->Option Value) (base:Heap):Prop where
 kin:K.In base
 glob:base.Ns mainGlobals mg
 blt:∃ mb,base.Ns builtinsNs mb/\∀ x:Str,x ≠ "__name__"->mb x=bootBuiltins x
 nolimit:base.NoLimit
structure Cx where
 prog:Program
 w:World
 K:PySem.W.Frag
 mg:Str->Option Value
 base:Heap
 A:Around
 N:List Str
 s₀:Shared
 H₀:Hp
 env:Env
 outer:List Env
 stack:List Env
 ex:List Addr
 fn:Str->Bool
 calm:Bool
 pn:List (Addr×Obj)
 xe:Value->Shared->Prop
def frs (l:List Env):List Addr:=l.filterMap (·.frame)
abbrev Cx.fs (X:Cx):List Addr:=frs X.outer
def Vis (sc:Scope) (x:Str):Prop:=sc.names.lookup x=some .local\/sc.names.lookup x=some .cell\/sc.names.lookup x=some .free
def Loc (sc:Scope) (x:Str):Prop:=sc.names.lookup x=some .local\/sc.names.lookup x=some .cell
def GL (env:Env) (h:Heap) (m:Str->Option Value) (x:Str) (u:Value):Prop :=
 (env.kindOf x=some .local/\m x=some u)\/((env.kindOf x=some .cell\/env.kindOf x=some .free)/\∃ c,env.cells.lookup x=some c/\h.IsCell c (some u))
structure Cx.Ok (X:Cx):Prop where
 mod:Mod X.K X.mg X.base
 kind:X.env.scope.kind=.function
 glob:X.env.globals=mainGlobals
 blt:X.env.builtins=builtinsNs
 above:X.s₀.heap.objs.size<=X.env.locals
 inj:∀ x y c,X.env.cells.lookup x=some c->X.env.cells.lookup y=some c->x=y
 has:∀ x,(X.env.kindOf x=some .cell\/X.env.kindOf x=some .free)->∃ c,X.env.cells.lookup x=some c
 cab:∀ x c,X.fn x=true->X.env.cells.lookup x=some c->X.s₀.heap.objs.size<=c
 hd:X.calm=true->X.A.handled=none
 frames:X.A.frames=some X.stack
 stk:X.stack=X.outer\/(X.stack=X.env::X.outer/\X.env.frame=some X.env.locals)
 exf:∀ b∈X.ex,b≠X.env.locals/\∀ x c,X.env.cells.lookup x=some c->c≠b
 bs:∀ b o,X.base.get? b=some o->X.s₀.heap.get? b=some o/\X.H₀ b=none
 bsz:X.base.objs.size<=X.s₀.heap.objs.size
 noex:∀ b o,X.base.get? b=some o->b∉X.ex
 exfs:∀ b∈X.ex,b∉X.fs
 funs:X.s₀.heap.FunFrames X.base X.outer
 frf:∀ b∈X.fs,X.H₀ b=none
structure Inv (X:Cx) (pins:List (Addr×Obj)) (σ:List (Option V)) (H:Hp) (s:Shared):Prop where
 ok:X.Ok
 os:s.os=X.s₀.os
 bare:AllBare s.gens
 base:Un X.fs X.ex X.H₀ H X.s₀.heap s.heap
 loc:∃ m,s.heap.Ns X.env.locals m/\∀ (i:Nat) (x:Str) (v:V),X.N[i]?=some x->σ[i]?=some (some v)->Vis X.env.scope x->∃ u,aq v u/\GL X.env s.heap m x u
 cell:∀ x c,X.env.cells.lookup x=some c->∃ v,s.heap.IsCell c v
 free:H X.env.locals=none
 freeC:∀ x c,X.env.cells.lookup x=some c->H c=none
 pin:∀ p∈X.pn++pins,s.heap.get? p.1=some p.2/\H p.1=none/\p.1≠X.env.locals/\p.1∉X.fs/\∀ v,p.2.data≠.cell v
 hok:HOk X.prog X.w H s.heap
 len:σ.length=X.N.length
section
variable {X:Cx}{pins:List (Addr×Obj)}{σ:List (Option V)}{H H':Hp}{s:Shared}{h':Heap}
theorem Cx.Ok.nofr (ok:X.Ok){b:Addr}{o:Obj}(e:X.base.get? b=some o):b∉X.fs:=λhb=>by
 have:=(ok.funs.mem hb).1
 rw [e] at this;cases this
theorem Inv.bs (I:Inv X pins σ H s):∀ b o,X.base.get? b=some o->s.heap.get? b=some o/\H b=none:=λb o e =>
 ⟨I.base.keep b o (I.ok.bs b o e).1 (I.ok.bs b o e).2 (I.ok.nofr e) (I.ok.noex b o e),I.base.free b o (I.ok.bs b o e).1 (I.ok.bs b o e).2 (I.ok.noex b o e)⟩
theorem Inv.bk (I:Inv X pins σ H s):∀ b o,X.base.get? b=some o->s.heap.get? b=some o:=λb o e=>(I.bs b o e).1
theorem Inv.mod (I:Inv X pins σ H s):Mod X.K X.mg X.base:=I.ok.mod
theorem Inv.kIn (I:Inv X pins σ H s):X.K.In s.heap:=I.ok.mod.kin.keeps I.bk
theorem Inv.lt (I:Inv X pins σ H s):X.env.locals<s.heap.objs.size:=let ⟨_,hn,_⟩:=I.loc;hn.lt
theorem Inv.sz (I:Inv X pins σ H s):X.s₀.heap.objs.size<=s.heap.objs.size:=Nat.le_trans I.ok.above (Nat.le_of_lt I.lt)
theorem Inv.nofs (I:Inv X pins σ H s){a:Addr}(h:s.heap.objs.size<=a):a∉X.fs:=λhb=>by
 obtain ⟨_,o,ho,_⟩:=I.ok.funs.mem hb
 exact absurd (Nat.lt_of_lt_of_le (Heap.lt_size ho) (Nat.le_trans I.sz h)) (Nat.lt_irrefl _)
theorem Inv.cne (I:Inv X pins σ H s):∀ x c,X.env.cells.lookup x=some c->c≠X.env.locals:=λx c e z=>by
 obtain ⟨v,o,ho,hd⟩:=I.cell x c e
 obtain ⟨m,⟨o',es,ep,ho',hd',_⟩,_⟩:=I.loc
 rw [z,ho'] at ho;cases ho;rw [hd'] at hd;cases hd
theorem Inv.funs (I:Inv X pins σ H s):s.heap.FunFrames X.base X.outer:=by
 have all:∀ (l:List Env),(∀ b∈frs l,b∈X.fs)->X.s₀.heap.FunFrames X.base l->s.heap.FunFrames X.base l:=by
  intro l
  induction l with
  |nil=>intro _ _;trivial
  |cons env r ih =>
   intro hs hl
   obtain ⟨hk,⟨L,o,hf,hn,ho,hd⟩,hr⟩:=hl
   have hL:L∈X.fs:=hs L (by unfold frs;rw [List.filterMap_cons,hf];exact List.mem_cons_self)
   obtain ⟨sl,e⟩:=I.base.slot L o ho (I.ok.frf L hL) hL λz=>I.ok.exfs L z hL
   exact ⟨hk,⟨L,_,hf,hn,e,hd⟩,ih (λb hb=>hs b (by unfold frs;rw [List.filterMap_cons,hf];exact List.mem_cons_of_mem _ hb)) hr⟩
 exact all X.outer (λ_ hb=>hb) I.ok.funs
theorem Inv.stack (I:Inv X pins σ H s):s.heap.FunFrames X.base X.stack:=by
 rcases I.ok.stk with e|⟨e,hf⟩
 ·rw [e];exact I.funs
 ·rw [e]
  obtain ⟨m,hn,_⟩:=I.loc
  refine .cons (by rw [I.ok.kind];decide) hf hn ?_ I.funs
  exact Heap.get?_none_of_le (Nat.le_trans I.ok.bsz I.ok.above)
theorem Inv.stkSub (I:Inv X pins σ H s):∀ b∈frs X.stack,b∈X.env.locals::X.fs:=λb hb=>by
 rcases I.ok.stk with e|⟨e,hf⟩
 ·rw [e] at hb;exact List.mem_cons_of_mem _ hb
 ·rw [e] at hb
  unfold frs at hb
  rw [List.filterMap_cons,hf] at hb
  exact hb
theorem Inv.stkFree (I:Inv X pins σ H s):∀ b∈frs X.stack,H b=none:=λb hb=>by
 rcases List.mem_cons.mp (I.stkSub b hb) with e|hb
 ·rw [e];exact I.free
 ·obtain ⟨_,o,ho,_⟩:=I.ok.funs.mem hb
  exact I.base.free b o ho (I.ok.frf b hb) λz=>I.ok.exfs b z hb
theorem Inv.step {g':Array GenState}{t':Nat}{d':Drawn}{ch:List Addr}(I:Inv X pins σ H s)
  (hch:∀ b∈ch,(b∈X.ex\/X.s₀.heap.objs.size<=b)/\b≠X.env.locals/\(∀ x c,X.env.cells.lookup x=some c->c≠b)/\∀ p∈X.pn++pins,p.1≠b)
  (keep:∀ b o,b≠X.env.locals->b∉X.fs->b∉ch->s.heap.get? b=some o->H b=none->h'.get? b=some o)
  (slot:∀ b o,b≠X.env.locals->b∈X.fs->b∉ch->s.heap.get? b=some o->H b=none->∃ sl,h'.get? b=some { o with slots:=sl }) (free:∀ b o,b∉ch->s.heap.get? b=some o->H b=none->H' b=none)
  (there:∀ b o,b∉ch->s.heap.get? b=some o->∃ o',h'.get? b=some o')
  (tups:∀ b xs,H b=some (.tup xs)->H' b=some (.tup xs)) (frzs:∀ b o u,H b=some (.frz o u)->H' b=some (.frz o u)) (tbls:∀ b ps,H b=some (.tbl ps)->∃ more,H' b=some (.tbl (ps++more)))
  (ns:∀ m,s.heap.Ns X.env.locals m->h'.Ns X.env.locals m) (hok:HOk X.prog X.w H' h') (hg:AllBare g') :
  Inv X pins σ H' { s with heap:=h',gens:=g',drawn:=d',toks:=t' }:=by
 have neL:∀ b o,X.s₀.heap.get? b=some o->b≠X.env.locals:=λb o e=>Nat.ne_of_lt (Nat.lt_of_lt_of_le (Heap.lt_size e) I.ok.above)
 have neC:∀ b o,X.s₀.heap.get? b=some o->b∉X.ex->b∉ch:=λb o e hx hb=>by
  rcases (hch b hb).1 with z|z
  ·exact hx z
  ·exact absurd (Nat.lt_of_lt_of_le (Heap.lt_size e) z) (Nat.lt_irrefl _)
 have cellK:∀ x c,X.env.cells.lookup x=some c->∀ v,s.heap.IsCell c v->h'.IsCell c v:=λx c e v zz1=>by
  obtain ⟨o,ho,hd⟩:=zz1
  have nch:c∉ch:=λz=>(hch c z).2.2.1 x c e rfl
  by_cases hc:c∈X.fs
  ·obtain ⟨sl,q⟩:=slot c o (I.cne x c e) hc nch ho (I.freeC x c e)
   exact ⟨_,q,hd⟩
  ·exact ⟨o,keep c o (I.cne x c e) hc nch ho (I.freeC x c e),hd⟩
 refine ⟨I.ok,I.os,hg,⟨λb o e n hb hx=>?_,λb o e n hb hx=>?_,λb o e n hx=>?_,λb o e hx=>?_,λb xs e=>tups b xs (I.base.tups b xs e),λb o xs e=>frzs b o xs (I.base.frzs b o xs e),λb ps e=>?_⟩,?_,λx c e=>?_,?_,λx c e=>?_,λp hp=>?_,hok,I.len⟩
 ·exact keep b o (neL b o e) hb (neC b o e hx) (I.base.keep b o e n hb hx) (I.base.free b o e n hx)
 ·obtain ⟨sl,e1⟩:=I.base.slot b o e n hb hx
  obtain ⟨sl',e2⟩:=slot b _ (neL b o e) hb (neC b o e hx) e1 (I.base.free b o e n hx)
  exact ⟨sl',e2⟩
 ·obtain ⟨o',e1⟩:=I.base.there b o e hx
  exact free b o' (neC b o e hx) e1 (I.base.free b o e n hx)
 ·obtain ⟨o',e1⟩:=I.base.there b o e hx
  exact there b o' (neC b o e hx) e1
 ·obtain ⟨m1,e1⟩:=I.base.tbls b ps e
  obtain ⟨m2,e2⟩:=tbls b _ e1
  exact ⟨m1++m2,by rw [e2,Array.append_assoc]⟩
 ·obtain ⟨m,hn,hl⟩:=I.loc
  refine ⟨m,ns m hn,λi x v e1 e2 e3=>?_⟩
  obtain ⟨u,r,l⟩:=hl i x v e1 e2 e3
  refine ⟨u,r,?_⟩
  rcases l with l|⟨k,c,e,z⟩
  ·exact .inl l
  ·exact .inr ⟨k,c,e,cellK x c e _ z⟩
 ·obtain ⟨v,z⟩:=I.cell x c e
  exact ⟨v,cellK x c e v z⟩
 ·obtain ⟨m,⟨o,_,_,ho,_⟩,_⟩:=I.loc
  exact free _ o (λz=>(hch _ z).2.1 rfl) ho I.free
 ·obtain ⟨v,o,ho,hd⟩:=I.cell x c e
  exact free c o (λz=>(hch c z).2.2.1 x c e rfl) ho (I.freeC x c e)
 ·obtain ⟨e,n,ne,nf,d⟩:=I.pin p hp
  have nch:p.1∉ch:=λz=>(hch p.1 z).2.2.2 p hp rfl
  exact ⟨keep p.1 p.2 ne nf nch e n,free p.1 p.2 nch e n,ne,nf,d⟩
theorem Inv.un {t':Nat}(I:Inv X pins σ H s) (u:Un X.fs [] H H' s.heap h') (hok:HOk X.prog X.w H' h'):Inv X pins σ H' { s with heap:=h',toks:=t' }:=by
 obtain ⟨m,⟨o,es,ep,ho,r⟩,_⟩:=id I.loc
 obtain ⟨sl,hL⟩:=u.any ho I.free (by simp)
 exact I.step (g':=s.gens) (d':=s.drawn) (ch:=[]) (λ_ z=>nomatch z) (λb o _ hb _ e n=>u.keep b o e n hb (by simp)) (λb o _ hb _ e n=>u.slot b o e n hb (by simp)) (λb o _ e n=>u.free b o e n (by simp)) (λb o _ e=>u.there b o e (by simp)) u.tups u.frzs u.tbls (λm' hm=>by
  obtain ⟨o',es',ep',ho',r'⟩:=hm
  rw [ho] at ho';cases ho'
  exact ⟨_,es',ep',hL,r'⟩) hok I.bare
theorem Inv.call {g':Array GenState}{t':Nat}{d':Drawn}{ch:List Addr}(I:Inv X pins σ H s) (u:Un (frs X.stack) ch H H' s.heap h') (hok:HOk X.prog X.w H' h') (hg:AllBare g')
  (hch:∀ b∈ch,(b∈X.ex\/X.s₀.heap.objs.size<=b)/\b≠X.env.locals/\(∀ x c,X.env.cells.lookup x=some c->c≠b)/\∀ p∈X.pn++pins,p.1≠b) :
  Inv X pins σ H' { s with heap:=h',gens:=g',drawn:=d',toks:=t' }:=by
 obtain ⟨m,⟨o,es,ep,ho,r⟩,_⟩:=id I.loc
 obtain ⟨sl,hL⟩:=u.any ho I.free λz=>(hch _ z).2.1 rfl
 exact I.step (ch:=ch) hch (λb o hL hb hc e n=>u.keep b o e n (λz=>(List.mem_cons.mp (I.stkSub b z)).elim hL hb) hc) (λb o _ _ hc e n=>u.any e n hc) (λb o hc e n=>u.free b o e n hc) (λb o hc e=>u.there b o e hc) u.tups u.frzs u.tbls (λm' hm=>by
  obtain ⟨o',es',ep',ho',r'⟩:=hm
  rw [ho] at ho';cases ho'
  exact ⟨_,es',ep',hL,r'⟩) hok hg
theorem Inv.turned {t':Nat}{it:Addr}(I:Inv X pins σ H s) (k:∀ b o,b≠it->s.heap.get? b=some o->h'.get? b=some o) (hn:H it=none) (hL:it≠X.env.locals)
  (h1:it∈X.ex\/X.s₀.heap.objs.size<=it) (h2:∀ x c,X.env.cells.lookup x=some c->c≠it) (h3:∀ p∈X.pn++pins,p.1≠it):Inv X pins σ H { s with heap:=h',toks:=t' }:=by
 have nit:∀ b u,H b=some u->b≠it:=λb u e z=>by rw [z,hn] at e;cases e
 refine I.step (g':=s.gens) (d':=s.drawn) (ch:=[it]) (λb hb=>?_) (λb o _ _ hc e _=>k b o (λz=>hc (by simp [z])) e) (λb o _ _ hc e _=>⟨o.slots,k b o (λz=>hc (by simp [z])) e⟩) (λ_ _ _ _ n=>n)
  (λb o hc e=>⟨o,k b o (λz=>hc (by simp [z])) e⟩) (λ_ _ e=>e) (λ_ _ _ e=>e) (λb ps e=>⟨#[],by rw [e];simp⟩) (λm hm=>?_) (λb u e=>?_) I.bare
 ·have e:b=it:=by simpa using hb
  subst e
  exact ⟨h1,hL,h2,h3⟩
 ·obtain ⟨o,es,ep,ho,r⟩:=hm
  exact ⟨o,es,ep,k _ o (Ne.symm hL) ho,r⟩
 ·refine (I.hok b u e).stay (λc v hc q=>k c v ?_ q) (λ_ q=>q) λ_ _ q=>q
  rcases hc with z|z
  ·rw [z];exact nit b u e
  ·exact nit c _ z
theorem Inv.tok (I:Inv X pins σ H s) (t:Nat):Inv X pins σ H { s with toks:=t }:=I.un (h':=s.heap) (t':=t) Un.refl I.hok
theorem Inv.kept {t':Nat}(I:Inv X pins σ H s) (k:∀ b u,s.heap.get? b=some u->h'.get? b=some u):Inv X pins σ H { s with heap:=h',toks:=t' }:=I.un (Un.kept k) (I.hok.kept k)
theorem Inv.laid {a:Addr}{o:HO}{t':Nat}(I:Inv X pins σ H s) (k:∀ b u,s.heap.get? b=some u->h'.get? b=some u) (hp:s.heap.objs.size<=a) (new:aN X.prog X.w (upd H a o) h' a o) :
  Inv X pins σ (upd H a o) { s with heap:=h',toks:=t' }:=I.un (Un.laid k hp (I.hok.fresh hp)) (I.hok.laid k hp new)
theorem Inv.write {x e:Addr}{o:HO}{t':Nat}(I:Inv X pins σ H s) (mu:Mut (H x)) (he:e=x\/H e=some (.own x)) (k:∀ b u,b≠e->s.heap.get? b=some u->h'.get? b=some u) (heo:∃ u,h'.get? e=some u)
  (new:aN X.prog X.w (upd H x o) h' x o):Inv X pins σ (upd H x o) { s with heap:=h',toks:=t' }:=I.un (Un.write mu he k heo) (I.hok.write mu he k heo new)
theorem Inv.pins_of {pins':List (Addr×Obj)}(I:Inv X pins σ H s) (h:∀ p∈pins',s.heap.get? p.1=some p.2/\H p.1=none/\p.1≠X.env.locals/\p.1∉X.fs/\∀ v,p.2.data≠.cell v):Inv X pins' σ H s :=
 ⟨I.ok,I.os,I.bare,I.base,I.loc,I.cell,I.free,I.freeC,λp hp=>(List.mem_append.mp hp).elim (λz=>I.pin p (List.mem_append_left _ z)) (h p),I.hok,I.len⟩
theorem k8 {N:List Str}(hN:N.Nodup){i j:Nat}{x:Str}(a:N[i]?=some x) (b:N[j]?=some x):i=j:=by
 obtain ⟨h1,e1⟩:=List.getElem?_eq_some_iff.mp a
 obtain ⟨h2,e2⟩:=List.getElem?_eq_some_iff.mp b
 exact (List.getElem_inj hN).mp (e1.trans e2.symm)
theorem xK {M:Model}{A:Around}{E:Value->Shared->Prop}{i:Nat}{x:Str}{v:V}{u:Value}{Q:Unit->Shared->Prop}(I:Inv X pins σ H s) (hN:X.N.Nodup) (hi:X.N[i]?=some x) (hx:Loc X.env.scope x) (r:aq v u)
  (h:∀ s',Inv X pins (σ.set i (some v)) H s'->(∃ a,Heap.SameBut a s.heap s'.heap/\(a=X.env.locals\/X.env.cells.lookup x=some a))->Q () s') (hf:X.fn x=true\/X.env.scope.names.lookup x=some .local:=by first|exact .inl rfl|exact .inr rfl|assumption):wpAny M A (storeName X.env x u) Q E s:=by
 obtain ⟨m,hn,hl⟩:=id I.loc
 have hcls:(X.env.scope.kind==.class || (X.env.scope.kind==.module&&X.env.locals != X.env.globals))=false:=by rw [I.ok.kind];rfl
 have hiσ:i<σ.length:=by rw [I.len];exact (List.getElem?_eq_some_iff.mp hi).1
 have cne:=I.cne
 have tracked:∀ {a:Addr}{h':Heap},(∃ o,s.heap.get? a=some o/\H a=none)->Heap.SameBut a s.heap h'->HOk X.prog X.w H h':=fun {a h'} ha hs b ob e=>by
  obtain ⟨_,_,hfree⟩:=ha
  refine (I.hok b ob e).stay (λc w' hc q=>(hs.2 c ?_).trans q) (λ_ q=>q) λ_ _ q=>q
  rintro rfl
  rcases hc with rfl|hc
  ·rw [hfree] at e;cases e
  ·rw [hfree] at hc;cases hc
 rcases hx with hk|hk
 ·refine wpAny_storeName_local hk hn (λh' hn' hs=>?_) hcls
  obtain ⟨oL,_,_,hoL,_⟩:=id hn
  refine h _ ⟨I.ok,I.os,I.bare,⟨λb o e n hb hx=>?_,λb o e n hb hx=>?_,I.base.free,λb o e hx=>?_,I.base.tups,I.base.frzs,I.base.tbls⟩,⟨_,hn',λj y v' e1 e2 e3=>?_⟩,λy c e=>?_,I.free,I.freeC,λp hp=>?_,tracked ⟨oL,hoL,I.free⟩ hs,by simpa using I.len⟩ ⟨_,hs,.inl rfl⟩
  ·exact (hs.2 b (Nat.ne_of_lt (Nat.lt_of_lt_of_le (Heap.lt_size e) I.ok.above))).trans (I.base.keep b o e n hb hx)
  ·obtain ⟨sl,e1⟩:=I.base.slot b o e n hb hx
   exact ⟨sl,(hs.2 b (Nat.ne_of_lt (Nat.lt_of_lt_of_le (Heap.lt_size e) I.ok.above))).trans e1⟩
  ·obtain ⟨o',e1⟩:=I.base.there b o e hx
   exact ⟨o',(hs.2 b (Nat.ne_of_lt (Nat.lt_of_lt_of_le (Heap.lt_size e) I.ok.above))).trans e1⟩
  ·by_cases hj:j=i
   ·subst hj
    rw [hi] at e1;cases e1
    rw [List.getElem?_set_self hiσ] at e2
    cases e2
    exact ⟨u,r,.inl ⟨hk,by simp⟩⟩
   ·rw [List.getElem?_set_ne (Ne.symm hj)] at e2
    obtain ⟨u',r',q⟩:=hl j y v' e1 e2 e3
    refine ⟨u',r',?_⟩
    rcases q with ⟨k,e⟩|⟨k,c,e,z⟩
    ·refine .inl ⟨k,?_⟩
     have:y≠x:=λe=>hj (k8 hN e1 (e ▸ hi))
     simp [this,e]
    ·exact .inr ⟨k,c,e,z.sameBut hs (cne y c e)⟩
  ·obtain ⟨w',z⟩:=I.cell y c e
   exact ⟨w',z.sameBut hs (cne y c e)⟩
  ·obtain ⟨e,n,ne,nf,d⟩:=I.pin p hp
   exact ⟨(hs.2 p.1 ne).trans e,n,ne,nf,d⟩
 ·have hfn:X.fn x=true:=by
   rcases hf with z|z
   ·exact z
   ·rw [z] at hk;cases hk
  obtain ⟨c,hc⟩:=I.ok.has x (.inl hk)
  obtain ⟨w',z⟩:=I.cell x c hc
  refine wpAny_storeName_cell I.ok.kind hk hc z (λh' hc' hs=>?_)
  obtain ⟨oc,hoc,hocd⟩:=id z
  refine h { s with heap:=h' } ⟨I.ok,I.os,I.bare,⟨λb o e n hb hx=>?_,λb o e n hb hx=>?_,I.base.free,λb o e hx=>?_,I.base.tups,I.base.frzs,I.base.tbls⟩,⟨m,hn.sameBut hs (Ne.symm (cne x c hc)),λj y v' e1 e2 e3=>?_⟩,λy c' e=>?_,I.free,I.freeC,λp hp=>?_,tracked ⟨oc,hoc,I.freeC x c hc⟩ hs,by simpa using I.len⟩ ⟨c,hs,.inr hc⟩
  ·exact (hs.2 b (Nat.ne_of_lt (Nat.lt_of_lt_of_le (Heap.lt_size e) (I.ok.cab x c hfn hc)))).trans (I.base.keep b o e n hb hx)
  ·obtain ⟨sl,e1⟩:=I.base.slot b o e n hb hx
   exact ⟨sl,(hs.2 b (Nat.ne_of_lt (Nat.lt_of_lt_of_le (Heap.lt_size e) (I.ok.cab x c hfn hc)))).trans e1⟩
  ·obtain ⟨o',e1⟩:=I.base.there b o e hx
   exact ⟨o',(hs.2 b (Nat.ne_of_lt (Nat.lt_of_lt_of_le (Heap.lt_size e) (I.ok.cab x c hfn hc)))).trans e1⟩
  ·by_cases hj:j=i
   ·subst hj
    rw [hi] at e1;cases e1
    rw [List.getElem?_set_self hiσ] at e2
    cases e2
    exact ⟨u,r,.inr ⟨.inl hk,c,hc,hc'⟩⟩
   ·rw [List.getElem?_set_ne (Ne.symm hj)] at e2
    obtain ⟨u',r',q⟩:=hl j y v' e1 e2 e3
    refine ⟨u',r',?_⟩
    rcases q with q|⟨k,c',e,z'⟩
    ·exact .inl q
    ·refine .inr ⟨k,c',e,z'.sameBut hs ?_⟩
     rintro rfl
     exact hj (k8 hN e1 (I.ok.inj _ _ _ e hc ▸ hi))
  ·by_cases hcc:c'=c
   ·subst hcc;exact ⟨_,hc'⟩
   ·obtain ⟨w2,z2⟩:=I.cell y c' e
    exact ⟨w2,z2.sameBut hs hcc⟩
  ·obtain ⟨e,n,ne,nf,d⟩:=I.pin p hp
   refine ⟨(hs.2 p.1 ?_).trans e,n,ne,nf,d⟩
   intro q
   rw [q,hoc] at e
   have q':oc=p.2:=Option.some.inj e
   exact d w' (by rw [<- q'];exact hocd)
theorem gP {M:Model}{A:Around}{E:Value->Shared->Prop}{i:Nat}{x:Str}{v:V}{u:Value}{Q:Unit->Shared->Prop}(I:Inv X pins σ H s) (hN:X.N.Nodup) (hi:X.N[i]?=some x) (hx:Loc X.env.scope x) (r:aq v u)
  (h:∀ s',Inv X pins (σ.set i (some v)) H s'->Q () s') (hf:X.fn x=true\/X.env.scope.names.lookup x=some .local:=by first|exact .inl rfl|exact .inr rfl|assumption):wpAny M A (storeName X.env x u) Q E s :=
 xK I hN hi hx r (λs' I' _=>h s' I') hf
theorem Inv.call' {s':Shared}{ch:List Addr}(I:Inv X pins σ H s) (ho:s'.os=s.os) (u:Un (frs X.stack) ch H H' s.heap s'.heap) (hok:HOk X.prog X.w H' s'.heap) (hg:AllBare s'.gens)
  (hch:∀ b∈ch,(b∈X.ex\/X.s₀.heap.objs.size<=b)/\b≠X.env.locals/\(∀ x c,X.env.cells.lookup x=some c->c≠b)/\∀ p∈X.pn++pins,p.1≠b):Inv X pins σ H' s':=by
 obtain ⟨h',g',d',t',o'⟩:=s'
 have e:o'=s.os:=ho
 subst e
 exact I.call (g':=g') (t':=t') (d':=d') u hok hg hch
end
abbrev XK:=Value->Option Addr->Hp->Prop
abbrev St:=List (Option V)
abbrev VK:=V->Hp->Prop
abbrev TE:=St->Hp->VK->Prop
abbrev TT:=St->Hp->(Bool->Hp->Prop)->Prop
abbrev TA:=St->Hp->(List V->Hp->Prop)->Prop
structure Ends where
 nx:St->Hp->Prop
 rt:VK
 bk:St->Hp->Prop:=λ_ _=>False
 ct:St->Hp->Prop:=λ_ _=>False
abbrev TS:=Ends->St->Hp->Prop
def EP (X:Cx) (pins:List (Addr×Obj)) (σ:St) (Q:VK) (u:Value) (s':Shared):Prop:=∃ v H',Inv X pins σ H' s'/\aq v u/\Q v H'
def TP (X:Cx) (pins:List (Addr×Obj)) (σ:St) (Q:Bool->Hp->Prop) (b:Bool) (s':Shared):Prop:=∃ H',Inv X pins σ H' s'/\Q b H'
def AP (X:Cx) (pins:List (Addr×Obj)) (σ:St) (Q:List V->Hp->Prop) (us:List Value) (s':Shared):Prop:=∃ vs H',Inv X pins σ H' s'/\al vs us/\Q vs H'
def SP (X:Cx) (pins:List (Addr×Obj)) (D:Ends) (f:Flow) (s':Shared):Prop :=
 match f with
 |.next=>∃ σ' H',Inv X pins σ' H' s'/\D.nx σ' H'
 |.brk=>∃ σ' H',Inv X pins σ' H' s'/\D.bk σ' H'
 |.cont=>∃ σ' H',Inv X pins σ' H' s'/\D.ct σ' H'
 |.ret u=>∃ v σ' H',Inv X pins σ' H' s'/\aq v u/\D.rt v H'
def PE (X:Cx) (e:Expr) (t:TE):Prop :=
 ∀ (pins:List (Addr×Obj)) (s:Shared) (σ:St) (H:Hp) (Q:VK),Inv X pins σ H s->t σ H Q->wpAny (model X.prog X.w) X.A (eval e X.env) (EP X pins σ Q) X.xe s
def PT (X:Cx) (e:Expr) (t:TT):Prop :=
 ∀ (pins:List (Addr×Obj)) (s:Shared) (σ:St) (H:Hp) (Q:Bool->Hp->Prop),Inv X pins σ H s->t σ H Q->wpAny (model X.prog X.w) X.A (isTrue e X.env (eval e X.env)) (TP X pins σ Q) X.xe s
def PW (X:Cx) (e:Expr) (t:TT):Prop :=
 ∀ (whole:Sem Value) (pins:List (Addr×Obj)) (s:Shared) (σ:St) (H:Hp) (Q:Bool->Hp->Prop),Inv X pins σ H s->t σ H Q->wpAny (model X.prog X.w) X.A (isTrue e X.env whole) (TP X pins σ Q) X.xe s
def PA (X:Cx) (es:List Expr) (t:TA):Prop :=
 ∀ (pos:Pos) (pins:List (Addr×Obj)) (s:Shared) (σ:St) (H:Hp) (Q:List V->Hp->Prop),Inv X pins σ H s->t σ H Q->wpAny (model X.prog X.w) X.A (spliced (backTo pos (starEach es X.env))) (AP X pins σ Q) X.xe s
def PS (X:Cx) (st:Stmt) (t:TS):Prop :=
 ∀ (pins:List (Addr×Obj)) (s:Shared) (σ:St) (H:Hp) (D:Ends),Inv X pins σ H s->t D σ H->wpAny (model X.prog X.w) X.A (exec st X.env) (SP X pins D) X.xe s
def PSs (X:Cx) (st:List Stmt) (t:TS):Prop :=
 ∀ (pins:List (Addr×Obj)) (s:Shared) (σ:St) (H:Hp) (D:Ends),Inv X pins σ H s->t D σ H->wpAny (model X.prog X.w) X.A (execs st X.env) (SP X pins D) X.xe s
theorem thn {α:Type}{t:Sem α}{Q Q':α->Shared->Prop}{M:Model}{A:Around}{E:Value->Shared->Prop}{s:Shared}(h:wpAny M A t Q E s) (hQ:∀ a s,Q a s->Q' a s):wpAny M A t Q' E s:=wpAny_mono h hQ λ_ _ x=>x
section
variable {X:Cx}
def vN (i:Nat):TE:=λσ H Q=>∃ v,σ[i]?=some (some v)/\Q v H
def tC (v:V):TE:=λ_ H Q=>Q v H
theorem B8 {i:Nat}{x:Str}{pos:Pos}(hN:X.N[i]?=some x) (hv:Vis X.env.scope x) (hd:(x==("__debug__":Str))=false:=by decide) (hcd:(x==("__classdict__":Str))=false:=by decide):PE X (.Name x pos) (vN i):=by
 intro pins s σ H Q I h
 obtain ⟨v,e,h⟩:=h
 obtain ⟨m,hn,hl⟩:=I.loc
 obtain ⟨u,r,l⟩:=hl i x v hN e hv
 have fin:EP X pins σ Q u s:=⟨v,H,I,r,h⟩
 rcases l with ⟨hk,hm⟩|⟨hk,c,hc,hcell⟩
 ·exact wpAny_Name (wpAny_loadName_local I.ok.kind hk hn hm fin) hd
 ·rcases hk with hk|hk
  ·exact wpAny_Name (wpAny_loadName_cell I.ok.kind hk hc hcell fin) hd
  ·exact wpAny_Name (wpAny_loadName_free I.ok.kind hk hc hcell fin hcd) hd
theorem B9 {i j pos}:PE X (.Constant (.int i) j pos) (tC (.int i)):=λ_ _ _ H _ I h=>wpAny_Constant_int ⟨.int i,H,I.tok _,⟨_,rfl⟩,h⟩
theorem Er {b j pos}:PE X (.Constant (.bool b) j pos) (tC (.bl b)):=λ_ _ _ H _ I h=>Constant_bool ⟨.bl b,H,I,rfl,h⟩
theorem B' {j pos}:PE X (.Constant .none j pos) (tC .non):=λ_ _ _ H _ I h=>Constant_none ⟨.non,H,I,rfl,h⟩
theorem jJ {x j pos}:PE X (.Constant (.str x) j pos) (tC (.str x)):=λ_ _ _ H _ I h=>Calls.Constant_str ⟨.str x,H,I.tok _,⟨_,rfl⟩,h⟩
def Gl (X:Cx) (x:Str):Prop:=X.env.kindOf x=some .globalImplicit
theorem eg {E:Value->Shared->Prop}{pins:List (Addr×Obj)}{s:Shared}{σ:St}{H:Hp}{x:Str}{u:Value}{pos:Pos}{Q:Value->Shared->Prop}(I:Inv X pins σ H s) (hg:Gl X x) (hm:X.mg x=some u) (h:Q u s)
  (hd:(x==("__debug__":Str))=false:=by decide):wpAny (model X.prog X.w) X.A (eval (.Name x pos) X.env) Q E s :=
 Calls.Name_function_global I.ok.kind hg (Calls.loadGlobal_global (by rw [I.ok.glob];exact I.mod.glob.keeps I.bk) hm h) hd
theorem hJ {E:Value->Shared->Prop}{pins:List (Addr×Obj)}{s:Shared}{σ:St}{H:Hp}{x:Str}{u:Value}{pos:Pos}{Q:Value->Shared->Prop}(I:Inv X pins σ H s) (hg:Gl X x) (hm:X.mg x=none) (hv:bootBuiltins x=some u) (h:Q u s)
  (hn:x ≠ "__name__":=by decide) (hd:(x==("__debug__":Str))=false:=by decide):wpAny (model X.prog X.w) X.A (eval (.Name x pos) X.env) Q E s:=by
 obtain ⟨mb,h1,h2⟩:=I.mod.blt
 exact Calls.Name_function_global I.ok.kind hg (Calls.loadGlobal_builtin (by rw [I.ok.glob];exact I.mod.glob.keeps I.bk) hm (by rw [I.ok.blt];exact h1.keeps I.bk) ((h2 x hn).trans hv) h) hd
theorem qV {x:Str}{v:V}{u:Value}{pos:Pos}(hg:Gl X x) (hm:X.mg x=some u) (r:aq v u) (hd:(x==("__debug__":Str))=false:=by decide):PE X (.Name x pos) (tC v) :=
 λ_ _ _ H _ I h=>eg I hg hm ⟨v,H,I,r,h⟩ hd
theorem z8 {x:Str}{v:V}{u:Value}{pos:Pos}(hg:Gl X x) (hm:X.mg x=none) (hv:bootBuiltins x=some u) (r:aq v u) (hn:x ≠ "__name__":=by decide) (hd:(x==("__debug__":Str))=false:=by decide):PE X (.Name x pos) (tC v) :=
 λ_ _ _ H _ I h=>hJ I hg hm hv ⟨v,H,I,r,h⟩ hn hd
variable {a b:Expr}{ta tb:TE}{pos:Pos}
def tB (t:TE):TT:=λσ H Q=>t σ H λx H1=>∃ c,x=.bl c/\Q c H1
theorem Ca {e:Expr}{t:TE}(h:PE X e t) (he:∀ whole,isTrue e X.env whole=(do let v <- whole;standAt e.pos;holding [v] (truthy v)):=by intro _;rfl):PT X e (tB t):=by
 intro pins s σ H Q I hw
 refine isTrue_plain (thn (h pins s σ H _ I hw) λv s1 ⟨x,H1,I1,r1,q1⟩=>?_) (he _)
 obtain ⟨d,rfl,q⟩:=q1
 cases r1
 exact wpAny_truthy_bool ⟨H1,I1,q⟩
variable {tA tB':TT}{rest:List Expr}
def GN (t u:TT):TT:=λσ H Q=>t σ H λc H1=>if c=true then u σ H1 Q else Q false H1
def tOr (t u:TT):TT:=λσ H Q=>t σ H λc H1=>if c=true then Q true H1 else u σ H1 Q
def GO (t:TT):TT:=λσ H Q=>t σ H λc H1=>Q (!c) H1
theorem z9 (ha:PT X a tA):PW X (.BoolOp .And [a] pos) tA:=by
 intro wh pins s σ H Q I h
 refine isTrue_and (thn (ha pins s σ H Q I h) λc s1 e=>?_)
 cases c with
 |true=>exact isTrue_and_nil e
 |false=>exact e
theorem Cb (ha:PT X a tA):PW X (.BoolOp .Or [a] pos) tA:=by
 intro wh pins s σ H Q I h
 refine isTrue_or (thn (ha pins s σ H Q I h) λc s1 e=>?_)
 cases c with
 |false=>exact isTrue_or_nil e
 |true=>exact e
theorem Cc (ha:PT X a tA) (hb:PW X (.BoolOp .And (b::rest) pos) tB'):PW X (.BoolOp .And (a::b::rest) pos) (GN tA tB'):=by
 intro wh pins s σ H Q I h
 refine isTrue_and (thn (ha pins s σ H _ I h) λc s1 zz2=>?_)
 obtain ⟨H1,I1,q1⟩:=zz2
 cases c with
 |true=>exact hb wh pins s1 σ H1 Q I1 q1
 |false=>exact ⟨H1,I1,q1⟩
theorem Es (ha:PT X a tA) (hb:PW X (.BoolOp .Or (b::rest) pos) tB'):PW X (.BoolOp .Or (a::b::rest) pos) (tOr tA tB'):=by
 intro wh pins s σ H Q I h
 refine isTrue_or (thn (ha pins s σ H _ I h) λc s1 zz3=>?_)
 obtain ⟨H1,I1,q1⟩:=zz3
 cases c with
 |true=>exact ⟨H1,I1,q1⟩
 |false=>exact hb wh pins s1 σ H1 Q I1 q1
theorem Cd (ha:PT X a tA):PT X (.UnaryOp .Not a pos) (GO tA):=by
 intro pins s σ H Q I h
 exact isTrue_not (ha pins s σ H (λc H1=>Q (!c) H1) I h)
def Et (ta tb:TE):TE:=λσ H Q=>ta σ H λx H1=>∃ c,x=.bl c/\if c=true then tb σ H1 Q else Q (.bl false) H1
def GP (ta tb:TE):TE:=λσ H Q=>ta σ H λx H1=>∃ c,x=.bl c/\if c=true then Q (.bl true) H1 else tb σ H1 Q
theorem Ce {op}{t:TE}(h:PE X a t):PE X (.BoolOp op [a] pos) t:=λpins s σ H Q I hw=>BoolOp_one (h pins s σ H Q I hw)
theorem Cf (ha:PE X a ta) (hb:PE X (.BoolOp .And (b::rest) pos) tb):PE X (.BoolOp .And (a::b::rest) pos) (Et ta tb):=by
 intro pins s σ H Q I h
 refine BoolOp_and (thn (ha pins s σ H _ I h) λv s1 zz4=>?_)
 obtain ⟨x,H1,I1,r1,q1⟩:=zz4
 obtain ⟨c,rfl,q1⟩:=q1
 cases r1
 refine wpAny_truthy_bool ?_
 cases c with
 |true=>exact hb pins s1 σ H1 Q I1 q1
 |false=>exact ⟨.bl false,H1,I1,rfl,q1⟩
theorem Eu (ha:PE X a ta) (hb:PE X (.BoolOp .Or (b::rest) pos) tb):PE X (.BoolOp .Or (a::b::rest) pos) (GP ta tb):=by
 intro pins s σ H Q I h
 refine BoolOp_or (thn (ha pins s σ H _ I h) λv s1 zz5=>?_)
 obtain ⟨x,H1,I1,r1,q1⟩:=zz5
 obtain ⟨c,rfl,q1⟩:=q1
 cases r1
 refine wpAny_truthy_bool ?_
 cases c with
 |false=>exact hb pins s1 σ H1 Q I1 q1
 |true=>exact ⟨.bl true,H1,I1,rfl,q1⟩
end
def SqL (K:PySem.W.Frag) (H:Hp) (a:Addr) (xs:List V):Prop :=
 Rd H a (.lst xs) \/
  ∃ (o:Obj) (its:Array Value) (n:Nat),K.lookup a=some o/\o.cls=.type "list" /\ o.dict=none/\o.data=.seq its n/\its.size<=sizeLine/\al xs its.toList
def SqT (K:PySem.W.Frag) (H:Hp) (a:Addr) (xs:List V):Prop :=
 Rd H a (.tup xs) \/
  ∃ (o:Obj) (its:Array Value) (n:Nat),K.lookup a=some o/\o.cls=.type "tuple" /\ o.data=.seq its n/\its.size<=sizeLine/\al xs its.toList
def GQ:Value->Option V
 |.none=>some .non
 |.bool b=>some (.bl b)
 |.int i _=>some (.int i)
 |.str x _=>some (.str x)
 |.bytes b _=>some (.byt b)
 |.float b _=>some (.flt b)
 |.ref a=>some (.ref a)
 |.type n=>some (.ty n)
 |_=>none
theorem aq.abs {x:V}{u:Value}(r:aq x u):GQ u=some x:=by
 cases x with
 |non=>cases r;rfl
 |bl _=>cases r;rfl
 |int _=>obtain ⟨t,rfl⟩:=r;rfl
 |str _=>obtain ⟨t,rfl⟩:=r;rfl
 |byt _=>obtain ⟨t,rfl⟩:=r;rfl
 |flt _=>obtain ⟨t,rfl⟩:=r;rfl
 |ref _=>cases r;rfl
 |ty _=>cases r;rfl
theorem aq.inj {x y:V}{u:Value}(r:aq x u) (q:aq y u):x=y:=Option.some.inj (r.abs.symm.trans q.abs)
theorem al.inj:∀ {xs ys:List V}{us:List Value},al xs us->al ys us->xs=ys
 |_,_,_,.nil,.nil=>rfl
 |_,_,_,.cons r t,.cons r' t'=>by rw [r.inj r',al.inj t t']
section
variable {X:Cx}{pins:List (Addr×Obj)}{σ:St}{H:Hp}{s:Shared}{a:Addr}{xs ys:List V}
theorem SqL.of {K:PySem.W.Frag}(h:H a=some (.lst xs)):SqL K H a xs:=.inl (.inl h)
theorem SqT.of {K:PySem.W.Frag}(h:H a=some (.tup xs)):SqT K H a xs:=.inl (.inl h)
theorem Inv.list (I:Inv X pins σ H s) (h:SqL X.K H a xs):∃ its:List Value,al xs its/\PlainL s.heap a its.toArray/\xs.length<=sizeLine:=by
 rcases h with h|⟨o,its,n,hk,hc,hd,hs,hz,r⟩
 ·obtain ⟨z,its,n,r,e⟩:=h.ok I.hok
  exact ⟨its,r,⟨_,n,e,rfl,rfl,rfl⟩,z⟩
 ·refine ⟨its.toList,r,⟨o,n,I.kIn a o hk,hc,hd,by simpa using hs⟩,?_⟩
  have e:=r.length
  simp only [Array.length_toList] at e
  omega
theorem Inv.tuple (I:Inv X pins σ H s) (h:SqT X.K H a xs):∃ its:List Value,al xs its/\IsTup s.heap a its.toArray/\xs.length<=sizeLine:=by
 rcases h with h|⟨o,its,n,hk,hc,hs,hz,r⟩
 ·obtain ⟨z,its,r,p⟩:=h.ok I.hok
  exact ⟨its,r,p,z⟩
 ·refine ⟨its.toList,r,⟨o,I.kIn a o hk,hc,n,by simpa using hs⟩,?_⟩
  have e:=r.length
  simp only [Array.length_toList] at e
  omega
theorem Inv.list_inj (I:Inv X pins σ H s) (h:SqL X.K H a xs) (h':SqL X.K H a ys):xs=ys:=by
 obtain ⟨its,r,⟨o,n,e,_,_,d⟩,_⟩:=I.list h
 obtain ⟨its',r',⟨o',n',e',_,_,d'⟩,_⟩:=I.list h'
 rw [e] at e';cases e'
 rw [d] at d'
 injection d' with d1 _
 have:its=its':=by simpa using congrArg Array.toList d1
 subst this
 exact r.inj r'
end
abbrev Cx.wish (X:Cx) (E:Value->Shared->Prop):Cx:={ X with xe:=E }
abbrev Cx.nox (X:Cx):Cx:=X.wish λ_ _=>False
theorem Cx.Ok.wish {X:Cx}(ok:X.Ok) (E:Value->Shared->Prop):(X.wish E).Ok :=
 ⟨ok.mod,ok.kind,ok.glob,ok.blt,ok.above,ok.inj,ok.has,ok.cab,ok.hd,ok.frames,ok.stk,ok.exf,ok.bs,ok.bsz,ok.noex,ok.exfs,ok.funs,ok.frf⟩
theorem Cx.Ok.unwish {X:Cx}{E:Value->Shared->Prop}(ok:(X.wish E).Ok):X.Ok :=
 ⟨ok.mod,ok.kind,ok.glob,ok.blt,ok.above,ok.inj,ok.has,ok.cab,ok.hd,ok.frames,ok.stk,ok.exf,ok.bs,ok.bsz,ok.noex,ok.exfs,ok.funs,ok.frf⟩
section
variable {X:Cx}{pins:List (Addr×Obj)}{σ:St}{H:Hp}{s:Shared}{E:Value->Shared->Prop}
theorem Inv.wish (I:Inv X pins σ H s) (E:Value->Shared->Prop):Inv (X.wish E) pins σ H s:=⟨I.ok.wish E,I.os,I.bare,I.base,I.loc,I.cell,I.free,I.freeC,I.pin,I.hok,I.len⟩
theorem Inv.unwish (I:Inv (X.wish E) pins σ H s):Inv X pins σ H s:=⟨I.ok.unwish,I.os,I.bare,I.base,I.loc,I.cell,I.free,I.freeC,I.pin,I.hok,I.len⟩
theorem SP.unwish {D:Ends}{f:Flow}{s':Shared}(h:SP (X.wish E) pins D f s'):SP X pins D f s':=by
 cases f with
 |next=>obtain ⟨σ',H',I,q⟩:=h;exact ⟨σ',H',I.unwish,q⟩
 |brk=>obtain ⟨σ',H',I,q⟩:=h;exact ⟨σ',H',I.unwish,q⟩
 |cont=>obtain ⟨σ',H',I,q⟩:=h;exact ⟨σ',H',I.unwish,q⟩
 |ret u=>obtain ⟨v,σ',H',I,r,q⟩:=h;exact ⟨v,σ',H',I.unwish,r,q⟩
theorem PSs.nox {st:List Stmt}{t:TS}(h:PSs X.nox st t):PSs X st t:=λpins s σ H D I hw =>
 wpAny_mono (h pins s σ H D (I.wish _) hw) (λ_ _ q=>q.unwish) λ_ _ z=>False.elim z
end
section
variable {X:Cx}{st:Stmt}{rest:List Stmt}{t u:TS}{e:Expr}{te:TE}{pos:Pos}
def Ev:TS:=λD σ H=>D.nx σ H
def GR (t u:TS):TS:=λD σ H=>t { D with nx:=u D } σ H
theorem Aa:PSs X [] Ev:=λ_ _ σ H _ I h=>wpAny_execs_nil ⟨σ,H,I,h⟩
theorem yL (h1:PS X st t) (h2:PSs X rest u):PSs X (st::rest) (GR t u):=by
 intro pins s σ H D I h
 refine wpAny_execs_cons (thn (h1 pins s σ H { D with nx:=u D } I h) λf s1 q=>?_)
 cases f with
 |next =>
  obtain ⟨σ',H',I',q⟩:=q
  exact h2 pins s1 σ' H' D I' q
 |ret v=>exact q
 |brk=>exact q
 |cont=>exact q
theorem Ab (h1:PS X st t):PSs X [st] t:=by
 intro pins s σ H D I h
 refine wpAny_execs_cons (thn (h1 pins s σ H D I h) λf s1 q=>?_)
 cases f with
 |next=>exact wpAny_execs_nil q
 |ret v=>exact q
 |brk=>exact q
 |cont=>exact q
theorem Inv.quiet {pins:List (Addr×Obj)}{σ:St}{H:Hp}{s:Shared}(I:Inv X pins σ H s):interactive X.env=false:=by simp [interactive,I.ok.kind]
def Ew (te:TE):TS:=λD σ H=>te σ H λ_ H1=>D.nx σ H1
theorem Ac (he:PE X e te) (hs:swapsWith e none pos.line X.env=pure false:=by rfl):PS X (.Expr e pos) (Ew te):=by
 intro pins s σ H D I h
 exact wpAny_Expr_any (thn (he pins s σ H _ I h) λv s1 zz8=>by obtain ⟨x,H1,I1,r1,q1⟩:=zz8;exact ⟨σ,H1,I1,q1⟩) I.quiet hs
def GT (te:TE):TS:=λD σ H=>te σ H D.rt
theorem Cg (he:PE X e te):PS X (.Return (some e) pos) (GT te):=by
 intro pins s σ H D I h
 exact wpAny_Return_some (thn (he pins s σ H _ I h) λv s1 zz9=>by obtain ⟨x,H1,I1,r1,q1⟩:=zz9;exact ⟨x,σ,H1,I1,r1,q1⟩)
def GU (c:TT) (t u:TS):TS:=λD σ H=>c σ H λb H1=>if b=true then t D σ H1 else u D σ H1
theorem Ex {c:Expr}{a b:List Stmt}{tc:TT}(hc:PT X c tc) (ha:PSs X a t) (hb:PSs X b u):PS X (.If c a b pos) (GU tc t u):=by
 intro pins s σ H D I h
 refine wpAny_If (thn (hc pins s σ H _ I h) λd s1 zz10=>?_)
 obtain ⟨H1,I1,q1⟩:=zz10
 cases d with
 |true=>exact ha pins s1 σ H1 D I1 q1
 |false=>exact hb pins s1 σ H1 D I1 q1
end
abbrev TG:=V->St->Hp->(St->Hp->Prop)->Prop
abbrev TGs:=List V->St->Hp->(St->Hp->Prop)->Prop
def PG (X:Cx) (target:Expr) (t:TG):Prop :=
 ∀ (pins:List (Addr×Obj)) (s:Shared) (σ:St) (H:Hp) (v:V) (u:Value) (Q:St->Hp->Prop),Inv X pins σ H s->aq v u->t v σ H Q ->
  wpAny (model X.prog X.w) X.A (assign target X.env u) (λ_ s'=>∃ σ' H',Inv X pins σ' H' s'/\Q σ' H') X.xe s
def PGs (X:Cx) (ts:List Expr) (t:TGs):Prop :=
 ∀ (pins:List (Addr×Obj)) (s:Shared) (σ:St) (H:Hp) (vs:List V) (us:List Value) (Q:St->Hp->Prop),Inv X pins σ H s->al vs us->t vs σ H Q ->
  wpAny (model X.prog X.w) X.A (assignInOrder ((assignEach ts X.env).map (·.2)) us) (λ_ s'=>∃ σ' H',Inv X pins σ' H' s'/\Q σ' H') X.xe s
abbrev kq:=V->V->V->Hp->(Hp->Prop)->Prop
def eP (X:Cx) (t:kq):Prop :=
 ∀ (pins:List (Addr×Obj)) (s:Shared) (σ:St) (H:Hp) (o i v:V) (ov iv u:Value) (Q:Hp->Prop),Inv X pins σ H s->aq o ov->aq i iv->aq v u->t o i v H Q ->
  wpAny (model X.prog X.w) X.A (setItem ov iv u) (λ_ s'=>∃ H',Inv X pins σ H' s'/\Q H') X.xe s
section
variable {X:Cx}{pos:Pos}
def jZ (i:Nat):TG:=λv σ H Q=>Q (σ.set i (some v)) H
theorem Ad {i:Nat}{x:Str}(hN:X.N.Nodup) (hi:X.N[i]?=some x) (hx:Loc X.env.scope x) (hf:X.fn x=true\/X.env.scope.names.lookup x=some .local:=by first|exact .inl rfl|exact .inr rfl|assumption):PG X (.Name x pos) (jZ i):=by
 intro pins s σ H v u Q I r h
 exact wpAny_assign_Name (gP I hN hi hx r (λs' I'=>⟨_,H,I',h⟩) hf)
def GV:TGs:=λvs σ H Q=>vs=[]/\Q σ H
def uL (t:TG) (u:TGs):TGs:=λvs σ H Q=>∃ v r,vs=v::r/\t v σ H λσ' H'=>u r σ' H' Q
theorem Ae:PGs X [] GV:=by
 intro pins s σ H vs us Q I r h
 obtain ⟨e,h⟩:=h
 subst e
 cases r
 exact assignInOrder_nil ⟨σ,H,I,h⟩
theorem cE {e:Expr}{es:List Expr}{t:TG}{u:TGs}(h1:PG X e t) (h2:PGs X es u)
  (hs:(assignEach (e::es) X.env).map (·.2)=assign e X.env::(assignEach es X.env).map (·.2):=by rfl):PGs X (e::es) (uL t u):=by
 intro pins s σ H vs us Q I r h
 obtain ⟨v,vr,e1,h⟩:=h
 subst e1
 cases r with
 |cons r rr =>
  rw [hs]
  refine assignInOrder_cons (thn (h1 pins s σ H _ _ _ I r h) λ_ s1 zz11=>?_)
  obtain ⟨σ1,H1,I1,q1⟩:=zz11
  exact h2 pins s1 σ1 H1 _ _ Q I1 rr q1
def nE (K:PySem.W.Frag) (n:Nat) (t:TGs):TG:=λv σ H Q=>∃ a xs,v=.ref a/\SqT K H a xs/\xs.length=n/\t xs σ H Q
theorem Ch {es:List Expr}{k:Nat}{t:TGs}{n:Nat}(hc:X.calm=true) (h:PGs X es t)
  (hn:(assignEach es X.env).length=n:=by rfl) (hst:(assignEach es X.env).findIdx? (·.1)=none:=by rfl):PG X (.Tuple es k pos) (nE X.K n t):=by
 intro pins s σ H v u Q I r hw
 obtain ⟨a,xs,e1,hq,hl,hw⟩:=hw
 subst e1
 cases r
 obtain ⟨its,rv,ht,hz⟩:=I.tuple hq
 refine assign_Tuple_tuple (I.ok.hd hc) ht (by simp [hn,<- hl,rv.length]) hst λh' hx=>?_
 have I1:Inv X pins σ H { s with heap:=h' }:=I.kept (t':=s.toks) λb o e=>hx b o (Nat.ne_of_lt (Heap.lt_size e)) e
 exact h pins _ σ H xs _ Q I1 (by simpa using rv) hw
def gC (to ti:TE) (t:kq):TG:=λv σ H Q=>to σ H λo H1=>ti σ H1 λi H2=>t o i v H2 λH3=>Q σ H3
theorem c6 {o i:Expr}{to ti:TE}{t:kq}(ho:PE X o to) (hi:PE X i ti) (hs:eP X t)
  (ha:∀ v,assign (.Subscript o i pos) X.env v=(do
   let ov <- holding [v] (eval o X.env)
   let iv <- holding [v,ov] (eval i X.env)
   standAt pos
   holding [v,ov,iv] (setItem ov iv v)
   release [v,ov,iv] []):=by intro _;rfl):PG X (.Subscript o i pos) (gC to ti t):=by
 intro pins s σ H v u Q I r h
 rw [ha]
 refine wpAny_bind (wpAny_holding (thn (ho pins s σ H _ I h) λov s1 zz12=>?_))
 obtain ⟨x,H1,I1,r1,q1⟩:=zz12
 refine wpAny_bind (wpAny_holding (thn (hi pins s1 σ H1 _ I1 q1) λiv s2 zz13=>?_))
 obtain ⟨y,H2,I2,r2,q2⟩:=zz13
 refine wpAny_bind (wpAny_standAt (wpAny_bind (wpAny_holding (thn (hs pins s2 σ H2 x y v ov iv u _ I2 r1 r2 r q2) λ_ s3 zz14=>?_))))
 obtain ⟨H3,I3,q3⟩:=zz14
 exact wpAny_release ⟨σ,H3,I3,q3⟩
def iL (te:TE) (g:TG):TS:=λD σ H=>te σ H λx H1=>g x σ H1 D.nx
theorem c7 {tg e:Expr}{te:TE}{g:TG}(he:PE X e te) (hg:PG X tg g) (hs:swapsWithSole [tg] e pos.line X.env=pure false:=by rfl) (hw:swappedStores [tg] e X.env=pure none:=by rfl)
  (h1:(assignEach [tg] X.env).map (·.2)=[assign tg X.env]:=by rfl):PS X (.Assign [tg] e pos) (iL te g):=by
 intro pins s σ H D I h
 refine wpAny_Assign_stores (thn (he pins s σ H _ I h) λv s1 ⟨x,H1,I1,r1,q1⟩=>?_) hs hw
 rw [h1]
 exact thn (hg pins s1 σ H1 x v _ I1 r1 q1) λ_ s2 q=>q
theorem Ci {i:Nat}{x:Str}{e:Expr}{te:TE}{pos':Pos}(hN:X.N.Nodup) (hi:X.N[i]?=some x) (hx:Loc X.env.scope x) (he:PE X e te) (hs:swapsWith e (some (.Name x pos')) pos.line X.env=pure false:=by rfl) (hf:X.fn x=true\/X.env.scope.names.lookup x=some .local:=by first|exact .inl rfl|exact .inr rfl|assumption) :
  PS X (.Assign [.Name x pos'] e pos) (iL te (jZ i)):=by
 intro pins s σ H D I h
 refine wpAny_Assign_Name (thn (he pins s σ H _ I h) λv s1 ⟨y,H1,I1,r1,q1⟩=>?_) hs
 exact gP I1 hN hi hx r1 (λs2 I2=>⟨_,H1,I2,q1⟩) hf
end
section
variable {X:Cx}{pos:Pos}
def sO (c:TT) (tb:TS):TS:=λD σ H=>∃ W:Nat->St->Hp->Prop,(∃ m,W m σ H)/\∀ m σ H,W m σ H ->
 c σ H λb H1=>if b=true then ∃ N:St->Hp->Prop,(∀ σ' H',N σ' H'->∃ m',m'<m/\W m' σ' H')/\tb { D with nx:=N,ct:=N,bk:=D.nx } σ H1 else D.nx σ H1
theorem yM {c:Expr}{body:List Stmt}{tc:TT}{tb:TS}(hp:PassesOwn (model X.prog X.w) X.A X.env X.xe) (hc:PT X c tc) (hb:PSs X body tb):PS X (.While c body [] pos) (sO tc tb):=by
 intro pins s σ H D I h
 obtain ⟨W,⟨m0,w0⟩,turn⟩:=h
 refine wpAny_While (codeAny_whileLoop (λn s'=>∃ σ' H',Inv X pins σ' H' s'/\W n σ' H') ?_ m0 ⟨σ,H,I,w0⟩)
 rintro n s1 ⟨σ1,H1,I1,w1⟩
 refine wpAny_passesOwn hp (thn (hc pins s1 σ1 H1 _ I1 (turn n σ1 H1 w1)) λb s2 zz15=>?_)
 obtain ⟨H2,I2,q2⟩:=zz15
 cases b with
 |true =>
  obtain ⟨N,hN,q2⟩:=q2
  rw [if_pos rfl]
  refine wpAny_passesOwn hp (thn (hb pins s2 σ1 H2 _ I2 q2) λf s3 q3=>?_)
  cases f with
  |next =>
   obtain ⟨σ3,H3,I3,n3⟩:=q3
   obtain ⟨m',hm,w3⟩:=hN σ3 H3 n3
   exact ⟨m',hm,σ3,H3,I3,w3⟩
  |cont =>
   obtain ⟨σ3,H3,I3,n3⟩:=q3
   obtain ⟨m',hm,w3⟩:=hN σ3 H3 n3
   exact ⟨m',hm,σ3,H3,I3,w3⟩
  |brk=>exact q3
  |ret v=>exact q3
 |false =>
  rw [if_neg Bool.false_ne_true]
  exact wpAny_execs_nil ⟨σ1,H2,I2,q2⟩
end
structure It where
 go:Nat->Hp->Prop
 yld:Nat->Hp->V->Hp->Prop
 stop:Nat->Hp->Prop
def cf (X:Cx) (pins:List (Addr×Obj)) (H:Hp) (b:Addr):Prop :=
 H b=none/\b≠X.env.locals/\b∉X.fs/\(b∈X.ex\/X.s₀.heap.objs.size<=b)/\(∀ x c,X.env.cells.lookup x=some c->c≠b)/\∀ p∈X.pn++pins,p.1≠b
theorem Inv.fpOk {X:Cx}{pins:List (Addr×Obj)}{σ:St}{H H':Hp}{s:Shared}{b:Addr}(I:Inv X pins σ H s) (hb:s.heap.objs.size<=b) (hn:H' b=none):cf X pins H' b:=by
 refine ⟨hn,Nat.ne_of_gt (Nat.lt_of_lt_of_le I.lt hb),I.nofs hb,.inr (Nat.le_trans I.sz hb),λx c e z=>?_,λp hp z=>?_⟩
 ·obtain ⟨v,q⟩:=I.cell x c e
  exact absurd (Nat.lt_of_lt_of_le q.lt (by rw [z];exact hb)) (Nat.lt_irrefl _)
 ·exact absurd (Nat.lt_of_lt_of_le (Heap.lt_size (I.pin p hp).1) (by rw [z];exact hb)) (Nat.lt_irrefl _)
structure Turn (P:Program) (w:World) (K:PySem.W.Frag) (tg:Expr) (J:It) (fp:List Addr) (it:Addr) (tn:Nat->Heap->Prop):Prop where
 mem:it∈fp
 obj:∀ i h,tn i h->∀ b∈fp,∃ o,h.get? b=some o/\∀ v,o.data≠.cell v
 keep:∀ i h h',tn i h->(∀ b∈fp,∀ o,h.get? b=some o->h'.get? b=some o)->tn i h'
 item:∀ (X:Cx),X.prog=P->X.w=w->X.K=K->X.calm=true->∀ (i:Nat) (pins:List (Addr×Obj)) (s:Shared) (σ:St) (H:Hp) (E:Value->Shared->Prop),Inv X pins σ H s->(∀ b∈fp,cf X pins H b)->tn i s.heap->J.go i H ->
  wpAny (model P w) X.A (pyNext (.ref it)) (λr s1=>∃ u,r=some u /\
   wpAny (model P w) X.A (letOwnedTupleGo tg (.ref it) u) (λ_ s2=>∃ x H',Inv X pins σ H' s2/\aq x u/\J.yld i H x H'/\tn (i+1) s2.heap/\∀ b∈fp,H' b=none) E s1) E s
 done:∀ (X:Cx),X.prog=P->X.w=w->X.K=K->X.calm=true->∀ (i:Nat) (pins:List (Addr×Obj)) (s:Shared) (σ:St) (H:Hp) (E:Value->Shared->Prop),Inv X pins σ H s->(∀ b∈fp,cf X pins H b)->tn i s.heap->J.stop i H ->
  wpAny (model P w) X.A (pyNext (.ref it)) (λr s1=>r=none/\Inv X pins σ H s1) E s
 self:∀ (A:Around) (i:Nat) (s:Shared) (Q:Value->Shared->Prop) (E:Value->Shared->Prop),tn i s.heap->Q (.ref it) s->wpAny (model P w) A (pyIter (.ref it)) Q E s
abbrev TI:=St->Hp->(It->Hp->Prop)->Prop
def PIE (X:Cx) (pins:List (Addr×Obj)) (σ:St) (tg:Expr) (R:It->Hp->Prop) (itv:Value) (s2:Shared):Prop :=
 ∃ (it:Addr) (fp:List Addr) (tn:Nat->Heap->Prop) (J:It) (H':Hp),itv=.ref it/\Inv X pins σ H' s2/\Turn X.prog X.w X.K tg J fp it tn/\tn 0 s2.heap/\(∀ b∈fp,cf X pins H' b)/\R J H'
def PI (X:Cx) (tg iter:Expr) (wi:TI):Prop :=
 ∀ (pins:List (Addr×Obj)) (s:Shared) (σ:St) (H:Hp) (R:It->Hp->Prop),Inv X pins σ H s->wi σ H R ->
  wpAny (model X.prog X.w) X.A (eval iter X.env) (λv s1=>wpAny (model X.prog X.w) X.A (pyIter v) (PIE X pins σ tg R) X.xe s1) X.xe s
theorem mX {M:Model}{A:Around}{E:Value->Shared->Prop}{s:Shared}{tg:Expr}{it:Addr}{u:Value}{o:Obj}{n:String}{vs:Array Value}{Q:Unit->Shared->Prop}(ho:s.heap.get? it=some o) (hc:o.cls=.type n) (hd:o.data=.fields vs)
  (hn:["enumerate","zip","dict_itemiterator","dict_reverseitemiterator","odict_iterator","itertools.zip_longest","itertools.pairwise"].contains n=false) (hQ:Q () s):wpAny M A (letOwnedTupleGo tg (.ref it) u) Q E s:=by
 unfold letOwnedTupleGo
 cases tg<;>first
  |exact wpAny_pure hQ
  |(cases u<;>first
    |exact wpAny_pure hQ
    |(refine wpAny_bind (wpAny_load ho ?_)
      rw [hc,hd]
      show wpAny M A (if (["enumerate","zip","dict_itemiterator","dict_reverseitemiterator","odict_iterator","itertools.zip_longest","itertools.pairwise"].contains n&&vs[0]?==some (rawInt _))=true then _ else _) Q E s
      rw [if_neg (by intro h;rw [hn,Bool.false_and] at h;cases h)]
      exact wpAny_pure hQ))
def Itl (K:PySem.W.Frag) (a:Addr):It :=
 ⟨λi H=>∃ xs x,SqL K H a xs/\xs[i]?=some x,λi H x H'=>H'=H/\∀ xs,SqL K H a xs->xs[i]?=some x,λi H=>∃ xs,SqL K H a xs/\xs.length<=i⟩
def Itr (lo:Int) (n:Nat):It:=⟨λi _=>i<n,λi H x H'=>H'=H/\x=.int (lo+i),λi _=>n<=i⟩
theorem xL {P:Program}{w:World}{K:PySem.W.Frag}{tg:Expr}(a it:Addr):Turn P w K tg (Itl K a) [it] it (λi h=>h.IsListIter it a i) where
 mem:=by simp
 obj:=λi h st b hb=>by
  have e:b=it:=by simpa using hb
  subst e
  obtain ⟨o,e,c,d⟩:=st
  exact ⟨o,e,λv z=>by rw [d] at z;cases z⟩
 keep:=λi h h' st k=>st.at λo e=>k it (by simp) o e
 item:=by
  intro X hP hw hK hc i pins s σ H E I hf st hg
  subst hP hw hK
  obtain ⟨xs,x,hq,hx⟩:=hg
  obtain ⟨its,rv,p,hz⟩:=I.list hq
  obtain ⟨u,hu,ru⟩:=rv.get hx
  obtain ⟨f0,f1,f2,f3,f4,f5⟩:=hf it (by simp)
  refine wpAny_pyNext_list_item st p.isList (x:=u) (by simpa using hu) λh' st' sb=>?_
  have I1:Inv X pins σ H { s with heap:=h' }:=I.turned (t':=s.toks) (λb o hb e=>(sb.2 b hb).trans e) f0 f1 f3 f4 f5
  obtain ⟨o,e,c,d⟩:=id st'
  exact ⟨u,rfl,mX (s:={ s with heap:=h' }) e c d (by decide) ⟨x,H,I1,ru,⟨rfl,λys hy=>by rw [I.list_inj hy hq];exact hx⟩,st',λb hb=>(hf b hb).1⟩⟩
 done:=by
  intro X hP hw hK hc i pins s σ H E I hf st hg
  subst hP hw hK
  obtain ⟨xs,hq,hx⟩:=hg
  obtain ⟨its,rv,p,hz⟩:=I.list hq
  obtain ⟨f0,f1,f2,f3,f4,f5⟩:=hf it (by simp)
  have hl:=rv.length
  exact wpAny_pyNext_list_end (I.ok.hd hc) st p.isList (by simp;omega) λh' eb=>⟨rfl,I.turned (t':=s.toks) (λb o hb e=>eb b o hb e) f0 f1 f3 f4 f5⟩
 self:=λ_ _ _ _ _ st h=>wpAny_pyIter_listiter st h
theorem xq {P:Program}{w:World}{K:PySem.W.Frag}{tg:Expr}(it:Addr) (lo:Int) (n:Nat):Turn P w K tg (Itr lo n) [it] it (λi h=>IsRangeIter h it (lo+(i:Nat) * 1) ((n:Int) - (i:Nat)) 1) where
 mem:=by simp
 obj:=λi h st b hb=>by
  have e:b=it:=by simpa using hb
  subst e
  exact ⟨_,st,λv z=>by
   have z':Data.fields _=Data.cell v:=z
   cases z'⟩
 keep:=λi h h' st k=>k it (by simp) _ st
 item:=by
  intro X hP hw hK hc i pins s σ H E I hf st hg
  subst hP hw hK
  obtain ⟨f0,f1,f2,f3,f4,f5⟩:=hf it (by simp)
  have W:=Walks.range (prog:=X.prog) (w:=X.w) (I.ok.hd hc) it lo 1 n
  refine W.item i s _ _ hg st λv h' tk hv st' kk=>?_
  obtain ⟨t,rfl⟩:=hv
  have I1:Inv X pins σ H { s with heap:=h',toks:=tk }:=I.turned (λb o hb e=>kk b o (by simpa using hb) e) f0 f1 f3 f4 f5
  refine ⟨_,rfl,mX (s:={ s with heap:=h',toks:=tk }) (n:="range_iterator") st' rfl rfl (by decide) ⟨.int (lo+i),H,I1,⟨t,?_⟩,⟨rfl,rfl⟩,st',λb hb=>(hf b hb).1⟩⟩
  rw [Int.mul_one]
 done:=by
  intro X hP hw hK hc i pins s σ H E I hf st hg
  subst hP hw hK
  obtain ⟨f0,f1,f2,f3,f4,f5⟩:=hf it (by simp)
  exact wpAny_pyNext_range_end (I.ok.hd hc) st (by have:n<=i:=hg;omega) λh' eb=>⟨rfl,I.turned (t':=s.toks) (λb o hb e=>eb b o hb e) f0 f1 f3 f4 f5⟩
 self:=λ_ _ _ _ _ st h=>wpAny_pyIter_rangeiter st h
section
variable {X:Cx}{tg:Expr}
def Ey (K:PySem.W.Frag) (tl:TE):TI:=λσ H R=>tl σ H λx H1=>∃ a,x=.ref a/\(∃ xs,SqL K H1 a xs)/\R (Itl K a) H1
theorem Af {l:Expr}{tl:TE}(hl:PE X l tl):PI X tg l (Ey X.K tl):=by
 intro pins s σ H R I h
 refine thn (hl pins s σ H _ I h) λv s1 zz16=>?_
 obtain ⟨x,H1,I1,r1,q1⟩:=zz16
 obtain ⟨a,e,⟨xs,hq⟩,q⟩:=q1
 subst e
 cases r1
 obtain ⟨its,rv,p,hz⟩:=I1.list hq
 refine wpAny_pyIter_list p.isList ?_
 refine ⟨s1.heap.objs.size,[s1.heap.objs.size],_,_,H1,rfl,I1.kept (t':=s1.toks) λb o e=>Heap.get?_push_of_some _ e,xL a _,⟨_,Heap.get?_push_size _ rfl,rfl,rfl⟩,λb hb=>?_,q⟩
 have e:b=s1.heap.objs.size:=by simpa using hb
 subst e
 exact I1.fpOk (Nat.le_refl _) (I1.hok.fresh (Nat.le_refl _))
theorem yN {pins:List (Addr×Obj)}{σ:St}{H:Hp}{s:Shared}{R:It->Hp->Prop}{E:Value->Shared->Prop}{lo hi:Int}{t u v:Tok}{tk:Nat}(I:Inv X pins σ H s) (h1:-(2 ^ 62)<=lo) (h2:lo<2 ^ 62) (h3:-(2 ^ 62)<=hi) (h4:hi<2 ^ 62)
  (q:R (Itr lo (hi - lo).toNat) H):wpAny (model X.prog X.w) X.A (pyIter (.ref s.heap.objs.size)) (PIE X pins σ tg R) E { s with heap:=s.heap.push { cls:=.type "range",data:=.fields #[.int lo t,.int hi u,.int 1 v] },toks:=tk }:=by
 refine wpAny_pyIter_range (IsRange.new ..) (small_one h1 h2 h3 h4) ?_
 have I1:Inv X pins σ H { s with heap:=s.heap.push { cls:=.type "range",data:=.fields #[.int lo t,.int hi u,.int 1 v] },toks:=tk }:=I.kept λb o e=>Heap.get?_push_of_some _ e
 refine ⟨(s.heap.push { cls:=.type "range",data:=.fields #[.int lo t,.int hi u,.int 1 v] }).objs.size,[(s.heap.push { cls:=.type "range",data:=.fields #[.int lo t,.int hi u,.int 1 v] }).objs.size],_,_,H,rfl,
  I1.kept (t':=tk) λb o e=>Heap.get?_push_of_some _ e,xq _ lo (hi - lo).toNat,?_,λb hb=>?_,q⟩
 ·have e1:lo+((0:Nat):Int) * 1=lo:=by simp
  have e2:(((hi - lo).toNat:Nat):Int) - ((0:Nat):Int)=Builtin.Range.rangeSize lo hi 1:=by rw [rangeSize_one];split<;>omega
  show IsRangeIter _ _ (lo+((0:Nat):Int) * 1) ((((hi - lo).toNat:Nat):Int) - ((0:Nat):Int)) 1
  rw [e1,e2]
  exact Heap.get?_push_size _ rfl
 ·have e:b=(s.heap.push { cls:=.type "range",data:=.fields #[.int lo t,.int hi u,.int 1 v] }).objs.size:=by simpa using hb
  subst e
  exact I1.fpOk (Nat.le_refl _) (I1.hok.fresh (Nat.le_refl _))
def Ez (ta:TA):TI:=λσ H R=>ta σ H λvs H1=>∃ j:Int,vs=[.int j] /\ -(2 ^ 62)<=j/\j<2 ^ 62/\R (Itr 0 j.toNat) H1
theorem xM {a:Expr}{ta:TA}{p pos:Pos}(hg:Gl X "range") (hm:X.mg "range"=none) (ha:PA X [a] ta) (hs:starEach [a] X.env=[(false,eval a X.env)]:=by rfl):PI X tg (.Call (.Name "range" p) [a] [] pos) (Ez ta):=by
 intro pins s σ H R I h
 refine Call_ (hJ I hg hm boot_range (PyProof.Rows.callWith_type1 (thn (ha pos pins s σ H _ I h) λus s1 ⟨vs,H1,I1,r1,q1⟩=>?_) hs rfl))
 obtain ⟨j,e,q1,q2,q⟩:=q1
 subst e
 cases r1 with
 |cons r rr =>
  cases rr
  obtain ⟨t,rfl⟩:=r
  exact call_range_1 (yN I1 (by omega) (by omega) q1 q2 (by simpa using q))
def vO (wi:TI) (g:TG) (tb:TS):TS:=λD σ H=>wi σ H λJ H1=>∃ W:Nat->Nat->St->Hp->Prop,(∃ m,W 0 m σ H1)/\∀ i m σ H,W i m σ H ->
 (J.stop i H/\D.nx σ H)\/(J.go i H/\∃ N:St->Hp->Prop,(∀ σ' H',N σ' H'->∃ m',m'<m/\W (i+1) m' σ' H')/\∀ x H',J.yld i H x H'->g x σ H' λσ2 H2=>tb { D with nx:=N,ct:=N,bk:=D.nx } σ2 H2)
def hU (fp:List Addr) (h:Heap):List (Addr×Obj):=fp.filterMap λb=>(h.get? b).map λo=>(b,o)
theorem jc {fp:List Addr}{h:Heap}{b:Addr}{o:Obj}(hb:b∈fp) (e:h.get? b=some o):(b,o)∈hU fp h:=List.mem_filterMap.mpr ⟨b,hb,by rw [e];rfl⟩
theorem xN {fp:List Addr}{h:Heap}{p:Addr×Obj}(hp:p∈hU fp h):p.1∈fp/\h.get? p.1=some p.2:=by
 obtain ⟨b,hb,e⟩:=List.mem_filterMap.mp hp
 cases q:h.get? b with
 |none=>rw [q] at e;cases e
 |some o =>
  rw [q] at e
  have e':(b,o)=p:=Option.some.inj e
  subst e'
  exact ⟨hb,q⟩
theorem Inv.pinned {pins:List (Addr×Obj)}{σ:St}{H:Hp}{s:Shared}{fp:List Addr}(I:Inv X pins σ H s) (hf:∀ b∈fp,cf X pins H b) (ho:∀ b∈fp,∃ o,s.heap.get? b=some o/\∀ v,o.data≠.cell v):Inv X (pins++hU fp s.heap) σ H s :=
 I.pins_of λp hp=>(List.mem_append.mp hp).elim (λz=>I.pin p (List.mem_append_right _ z)) λz=>by
  obtain ⟨hb,e⟩:=xN z
  obtain ⟨f0,f1,f2,_⟩:=hf p.1 hb
  obtain ⟨o,e',d⟩:=ho p.1 hb
  rw [e] at e';cases e'
  exact ⟨e,f0,f1,f2,d⟩
theorem Inv.unpinned {pins pl:List (Addr×Obj)}{σ:St}{H:Hp}{s:Shared}(I:Inv X (pins++pl) σ H s):Inv X pins σ H s:=I.pins_of λp hp=>I.pin p (List.mem_append_right _ (List.mem_append_left _ hp))
theorem Cj {iter:Expr}{body:List Stmt}{wi:TI}{g:TG}{tb:TS}{pos:Pos}(hp:PassesOwn (model X.prog X.w) X.A X.env X.xe) (hc:X.calm=true) (hi:PI X tg iter wi) (hg:PG X tg g) (hb:PSs X body tb)
  (hs:∀ x,foldedSetIterable iter X.env x=pure x:=by intro _;rfl):PS X (.For tg iter body [] pos) (vO wi g tb):=by
 intro pins s σ H D I h
 refine wpAny_For (thn (hi pins s σ H _ I h) λv s1 h1=>thn h1 λitv s2 h2=>?_) hs
 obtain ⟨it,fp,tn,J,H2,e,I2,T,st2,f2,W,⟨m0,w0⟩,turn⟩:=h2
 subst e
 -- what stays true of the iterator's objects through the loop
 have stat:∀ {H':Hp},(∀ b∈fp,H' b=none)->∀ b∈fp,cf X pins H' b:=λhn b hb=>⟨hn b hb,(f2 b hb).2⟩
 refine codeAny_forLoop_any (λn s'=>∃ i σ' H',Inv X pins σ' H' s'/\tn i s'.heap/\(∀ b∈fp,H' b=none)/\W i n σ' H') ?_ m0 ⟨0,σ,H2,I2,st2,λb hb=>(f2 b hb).1,w0⟩
 rintro n s3 ⟨i,σ3,H3,I3,st3,fr3,w3⟩
 rcases turn i n σ3 H3 w3 with ⟨stop,qn⟩|⟨go,N,hN,step⟩
 ·refine wpAny_passesOwn hp (thn (T.done X rfl rfl rfl hc i pins s3 σ3 H3 X.xe I3 (stat fr3) st3 stop) λr s4 ⟨hr,I4⟩=>?_)
  subst hr
  exact wpAny_execs_nil ⟨σ3,H3,I4,qn⟩
 ·refine wpAny_passesOwn hp (thn (T.item X rfl rfl rfl hc i pins s3 σ3 H3 X.xe I3 (stat fr3) st3 go) λr s4 ⟨u,hr,h4⟩=>?_)
  subst hr
  refine wpAny_passesOwn hp (thn h4 λ_ s5 zz17=>?_)
  obtain ⟨x,H5,I5,r5,y5,st5,fr5⟩:=zz17
  have I5':=I5.pinned (stat fr5) (T.obj _ _ st5)
  refine wpAny_passesOwn hp (thn (hg _ s5 σ3 H5 x u _ I5' r5 (step x H5 y5)) λ_ s6 zz18=>?_)
  obtain ⟨σ6,H6,I6,q6⟩:=zz18
  refine wpAny_passesOwn hp (thn (hb _ s6 σ6 H6 _ I6 q6) λf s7 q7=>?_)
  have again:∀ {σ7:St}{H7:Hp},Inv X (pins++hU fp s5.heap) σ7 H7 s7->N σ7 H7->∃ m,m<n/\∃ i σ' H',Inv X pins σ' H' s7/\tn i s7.heap/\(∀ b∈fp,H' b=none)/\W i m σ' H':=fun {σ7 H7} I7 n7=>by
   obtain ⟨m',hm,w7⟩:=hN σ7 H7 n7
   refine ⟨m',hm,i+1,σ7,H7,I7.unpinned,T.keep _ _ _ st5 λb hb o e=>(I7.pin (b,o) (List.mem_append_right _ (List.mem_append_right _ (jc hb e)))).1,λb hb=>?_,w7⟩
   obtain ⟨o,e,d⟩:=T.obj _ _ st5 b hb
   exact (I7.pin (b,o) (List.mem_append_right _ (List.mem_append_right _ (jc hb e)))).2.1
  cases f with
  |next=>obtain ⟨σ7,H7,I7,n7⟩:=q7;exact again I7 n7
  |cont=>obtain ⟨σ7,H7,I7,n7⟩:=q7;exact again I7 n7
  |brk=>obtain ⟨σ7,H7,I7,q7⟩:=q7;exact ⟨σ7,H7,I7.unpinned,q7⟩
  |ret v=>obtain ⟨x7,σ7,H7,I7,r7,q7⟩:=q7;exact ⟨x7,σ7,H7,I7.unpinned,r7,q7⟩
end
abbrev R2:=V->V->Hp->VK->Prop
def OpR (X:Cx) (f:Value->Value->Sem Value) (r:R2):Prop :=
 ∀ (pins:List (Addr×Obj)) (s:Shared) (σ:St) (H:Hp) (x y:V) (v u:Value) (Q:VK),Inv X pins σ H s->aq x v->aq y u->r x y H Q ->
  wpAny (model X.prog X.w) X.A (f v u) (EP X pins σ Q) X.xe s
def UnR (X:Cx) (f:Value->Sem Value) (r:V->Hp->VK->Prop):Prop :=
 ∀ (pins:List (Addr×Obj)) (s:Shared) (σ:St) (H:Hp) (x:V) (v:Value) (Q:VK),Inv X pins σ H s->aq x v->r x H Q ->
  wpAny (model X.prog X.w) X.A (f v) (EP X pins σ Q) X.xe s
def aX (X:Cx) (f:Value) (r:List V->Hp->VK->Prop):Prop :=
 ∀ (pins:List (Addr×Obj)) (s:Shared) (σ:St) (H:Hp) (xs:List V) (us:List Value) (Q:VK),Inv X pins σ H s->al xs us->r xs H Q ->
  wpAny (model X.prog X.w) X.A (call f us) (EP X pins σ Q) X.xe s
def GW (X:Cx) (r:V->Hp->(Bool->Hp->Prop)->Prop):Prop :=
 ∀ (pins:List (Addr×Obj)) (s:Shared) (σ:St) (H:Hp) (x:V) (v:Value) (Q:Bool->Hp->Prop),Inv X pins σ H s->aq x v->r x H Q ->
  wpAny (model X.prog X.w) X.A (truthy v) (TP X pins σ Q) X.xe s
def tOp (r:R2) (ta tb:TE):TE:=λσ H Q=>ta σ H λx H1=>tb σ H1 λy H2=>r x y H2 Q
def tUn (r:V->Hp->VK->Prop) (ta:TE):TE:=λσ H Q=>ta σ H λx H1=>r x H1 Q
def rI (C:Int->Int->Prop) (g:Int->Int->V):R2:=λx y H Q=>∃ i j,x=.int i/\y=.int j/\C i j/\Q (g i j) H
def rI0 (g:Int->Int->V):R2:=λx y H Q=>∃ i j,x=.int i/\y=.int j/\Q (g i j) H
def rU (g:Int->V):V->Hp->VK->Prop:=λx H Q=>∃ i,x=.int i/\Q (g i) H
section
variable {X:Cx}{a b c:Expr}{ta tb tc:TE}{pos:Pos}
theorem nF (ha:PE X a ta) (hb:PE X b tb){pins:List (Addr×Obj)}{s:Shared}{σ:St}{H:Hp}{R:V->V->Hp->Prop}(I:Inv X pins σ H s)
  (h:ta σ H λx H1=>tb σ H1 λy H2=>R x y H2){Q:Value->Shared->Prop}{f:Value->Value->Sem Value}
  (hf:∀ v u s2 x y H2,Inv X pins σ H2 s2->aq x v->aq y u->R x y H2->wpAny (model X.prog X.w) X.A (f v u) Q X.xe s2) :
  wpAny (model X.prog X.w) X.A (eval a X.env) (λv s₁=>wpAny (model X.prog X.w) X.A (eval b X.env) (λu s₂=>wpAny (model X.prog X.w) X.A (f v u) Q X.xe s₂) X.xe s₁) X.xe s:=by
 refine thn (ha pins s σ H _ I h) λv s1 zz19=>?_
 obtain ⟨x,H1,I1,r1,q1⟩:=zz19
 refine thn (hb pins s1 σ H1 _ I1 q1) λu s2 zz20=>?_
 obtain ⟨y,H2,I2,r2,q2⟩:=zz20
 exact hf v u s2 x y H2 I2 r1 r2 q2
theorem EA {op:Operator}{r:R2}(ho:OpR X (binaryOp op) r) (ha:PE X a ta) (hb:PE X b tb):PE X (.BinOp a op b pos) (tOp r ta tb):=by
 intro pins s σ H Q I h
 exact wpAny_BinOp (nF ha hb I h λv u s2 x y H2 I2 rx ry q=>ho pins s2 σ H2 x y v u Q I2 rx ry q)
theorem EB {op:UnaryOp}{r:V->Hp->VK->Prop}(ho:UnR X (unaryOp op) r) (ha:PE X a ta):PE X (.UnaryOp op a pos) (tUn r ta):=by
 intro pins s σ H Q I h
 exact UnaryOp_ (thn (ha pins s σ H _ I h) λv s1 zz21=>by obtain ⟨x,H1,I1,r1,q1⟩:=zz21;exact ho pins s1 σ H1 x v Q I1 r1 q1)
theorem opI {f:Value->Value->Sem Value}{C:Int->Int->Prop}{g:Int->Int->Int}
  (rule:∀ (i j:Int) (t u:Tok) (s:Shared) (Q:Value->Shared->Prop) (E:Value->Shared->Prop),C i j->Q (.int (g i j) s.toks) { s with toks:=s.toks+1 }->wpAny (model X.prog X.w) X.A (f (.int i t) (.int j u)) Q E s) :
  OpR X f (rI C λi j=>.int (g i j)):=by
 intro pins s σ H x y v u Q I rx ry h
 obtain ⟨i,j,rfl,rfl,hc,q⟩:=h
 obtain ⟨t,rfl⟩:=rx
 obtain ⟨t',rfl⟩:=ry
 exact rule i j t t' s _ _ hc ⟨.int (g i j),H,I.tok _,⟨_,rfl⟩,q⟩
theorem vP {f:Value->Value->Sem Value}{g:Int->Int->Int}
  (rule:∀ (i j:Int) (t u:Tok) (s:Shared) (Q:Value->Shared->Prop) (E:Value->Shared->Prop),Q (.int (g i j) s.toks) { s with toks:=s.toks+1 }->wpAny (model X.prog X.w) X.A (f (.int i t) (.int j u)) Q E s) :
  OpR X f (rI0 λi j=>.int (g i j)):=by
 intro pins s σ H x y v u Q I rx ry h
 obtain ⟨i,j,rfl,rfl,q⟩:=h
 obtain ⟨t,rfl⟩:=rx
 obtain ⟨t',rfl⟩:=ry
 exact rule i j t t' s _ _ ⟨.int (g i j),H,I.tok _,⟨_,rfl⟩,q⟩
theorem nG {f:Value->Value->Sem Value}{g:Int->Int->Bool}
  (rule:∀ (i j:Int) (t u:Tok) (s:Shared) (Q:Value->Shared->Prop) (E:Value->Shared->Prop),Q (.bool (g i j)) s->wpAny (model X.prog X.w) X.A (f (.int i t) (.int j u)) Q E s) :
  OpR X f (rI0 λi j=>.bl (g i j)):=by
 intro pins s σ H x y v u Q I rx ry h
 obtain ⟨i,j,rfl,rfl,q⟩:=h
 obtain ⟨t,rfl⟩:=rx
 obtain ⟨t',rfl⟩:=ry
 exact rule i j t t' s _ _ ⟨.bl (g i j),H,I,rfl,q⟩
def vQ (i j:Int):Prop:=0<=j/\j<=1000000/\i.natAbs<2 ^ 64
def iM (i j:Int):Prop:=(-(2 ^ 64)<i/\i<2 ^ 64)\/(-(2 ^ 64)<j/\j<2 ^ 64)
theorem iM.ok {i j:Int}(h:iM i j):IntMulOk i j:=by
 rcases h with ⟨h1,h2⟩|⟨h1,h2⟩
 ·exact .of_left (intBits_le_64 h1 h2)
 ·exact .of_right (intBits_le_64 h1 h2)
theorem xr (k:Nat):(0:Int)<=2 ^ k:=by
 rw [two_pow_cast]
 exact Int.natCast_nonneg _
theorem Ck:OpR X (binaryOp .Add) (rI0 λi j=>.int (i+j)):=vP λ_ _ _ _ _ _ _ q=>add_int q
theorem Cl:OpR X (binaryOp .Sub) (rI0 λi j=>.int (i - j)):=vP λ_ _ _ _ _ _ _ q=>sub_int q
theorem Cn:OpR X (binaryOp .Mult) (rI iM λi j=>.int (i * j)):=opI λ_ _ _ _ _ _ _ hc q=>mul_int q hc.ok
theorem Co:OpR X (binaryOp .Mod) (rI (λ_ j=>0<j) λi j=>.int (i % j)):=opI λi j _ _ _ _ _ hc q=>by
 have h1:(0:Int)<j:=hc
 exact mod_int' (by omega) (by rw [Int.fmod_eq_emod_of_nonneg i (by omega)];exact q)
theorem Cq:OpR X (binaryOp .Pow) (rI vQ λi j=>.int (i ^ j.toNat)):=opI λ_ _ _ _ _ _ _ hc q=>pow_int_small hc.1 hc.2.1 hc.2.2 q
theorem Cr:OpR X (binaryOp .RShift) (rI (λ_ j=>0<=j) λi j=>.int (i / 2 ^ j.toNat)):=opI λi j _ _ _ _ _ hc q =>
 rshift_int hc (by rw [Int.fdiv_eq_ediv_of_nonneg i (xr _)];exact q)
theorem unI {f:Value->Sem Value}{g:Int->Int}
  (rule:∀ (i:Int) (t:Tok) (s:Shared) (Q:Value->Shared->Prop) (E:Value->Shared->Prop),Q (.int (g i) s.toks) { s with toks:=s.toks+1 }->wpAny (model X.prog X.w) X.A (f (.int i t)) Q E s) :
  UnR X f (rU λi=>.int (g i)):=by
 intro pins s σ H x v Q I rx h
 obtain ⟨i,rfl,q⟩:=h
 obtain ⟨t,rfl⟩:=rx
 exact rule i t s _ _ ⟨.int (g i),H,I.tok _,⟨_,rfl⟩,q⟩
theorem Cs:UnR X (unaryOp .USub) (rU λi=>.int (-i)):=unI λ_ _ _ _ _ q=>neg_int q
end
def vR:V->V->Bool
 |.non,.non=>true|.non,.int _=>true|.int _,.non=>true|.non,.bl _=>true|.bl _,.non=>true|.non,.str _=>true|.str _,.non=>true
 |.int _,.int _=>true|.bl _,.bl _=>true|.str _,.str _=>true|.byt _,.byt _=>true
 |.int _,.str _=>true|.str _,.int _=>true|.bl _,.str _=>true|.str _,.bl _=>true
 |_,_=>false
def rEq:R2:=λx y H Q=>vR x y=true/\Q (.bl (decide (x=y))) H
def rNe:R2:=λx y H Q=>vR x y=true/\Q (.bl (!decide (x=y))) H
theorem qW {i j:Int}:decide (V.int i=V.int j)=(i==j):=by
 rw [Bool.eq_iff_iff]
 simp
theorem sP {i j:Bool}:decide (V.bl i=V.bl j)=(i==j):=by
 rw [Bool.eq_iff_iff]
 simp
theorem qX {i j:Str}:decide (V.str i=V.str j)=(i==j):=by
 rw [Bool.eq_iff_iff]
 simp
theorem qY {i j:Array UInt8}:decide (V.byt i=V.byt j)=(i.toList==j.toList):=by
 rw [Bool.eq_iff_iff]
 cases i
 cases j
 simp
section
variable {X:Cx}{a b c:Expr}{ta tb tc:TE}{pos:Pos}
theorem aL {pins:List (Addr×Obj)}{σ:St}{H:Hp}{s:Shared}{Q:VK}{k k':Bool}(I:Inv X pins σ H s) (q:Q (.bl k) H) (e:k=k'):EP X pins σ Q (.bool k') s:=by
 subst e
 exact ⟨.bl k,H,I,rfl,q⟩
theorem mY:OpR X (compareOp .Eq) rEq:=by
 intro pins s σ H x y v u Q I rx ry h
 obtain ⟨hs,q⟩:=h
 cases x with
 |non =>
  cases rx
  cases y with
  |non=>cases ry;exact PySem.EqNone.eq_none_none (aL I q (by simp))
  |bl j=>cases ry;exact PySem.EqNone.eq_none_bool (aL I q (by simp))
  |int j=>obtain ⟨t',rfl⟩:=ry;exact PySem.EqNone.eq_none_int (aL I q (by simp))
  |str j=>obtain ⟨t',rfl⟩:=ry;exact PySem.EqNone.eq_none_str (aL I q (by simp))
  |_=>exact absurd (show false=true from hs) Bool.false_ne_true
 |bl i =>
  cases rx
  cases y with
  |non=>cases ry;exact PySem.EqNone.eq_bool_none (aL I q (by simp))
  |bl j=>cases ry;exact eq_bool (aL I q sP)
  |str j=>obtain ⟨t',rfl⟩:=ry;exact PySem.EqMixed.eq_bool_str (aL I q (by simp))
  |_=>exact absurd (show false=true from hs) Bool.false_ne_true
 |int i =>
  obtain ⟨t,rfl⟩:=rx
  cases y with
  |non=>cases ry;exact PySem.EqNone.eq_int_none (aL I q (by simp))
  |int j=>obtain ⟨t',rfl⟩:=ry;exact eq_int (aL I q qW)
  |str j=>obtain ⟨t',rfl⟩:=ry;exact PySem.EqMixed.eq_int_str (aL I q (by simp))
  |_=>exact absurd (show false=true from hs) Bool.false_ne_true
 |str i =>
  obtain ⟨t,rfl⟩:=rx
  cases y with
  |non=>cases ry;exact PySem.EqNone.eq_str_none (aL I q (by simp))
  |bl j=>cases ry;exact PySem.EqMixed.eq_str_bool (aL I q (by simp))
  |int j=>obtain ⟨t',rfl⟩:=ry;exact PySem.EqMixed.eq_str_int (aL I q (by simp))
  |str j=>obtain ⟨t',rfl⟩:=ry;exact eq_str (aL I q qX)
  |_=>exact absurd (show false=true from hs) Bool.false_ne_true
 |byt i =>
  obtain ⟨t,rfl⟩:=rx
  cases y with
  |byt j=>obtain ⟨t',rfl⟩:=ry;exact PySem.W.eq_bytes (aL I q qY)
  |_=>exact absurd (show false=true from hs) Bool.false_ne_true
 |_=>cases y<;>exact absurd (show false=true from hs) Bool.false_ne_true
theorem mZ:OpR X (compareOp .NotEq) rNe:=by
 intro pins s σ H x y v u Q I rx ry h
 obtain ⟨hs,q⟩:=h
 cases x with
 |non =>
  cases rx
  cases y with
  |non=>cases ry;exact PySem.EqNone.ne_none_none (aL I q (by simp))
  |bl j=>cases ry;exact PySem.EqNone.ne_none_bool (aL I q (by simp))
  |int j=>obtain ⟨t',rfl⟩:=ry;exact PySem.EqNone.ne_none_int (aL I q (by simp))
  |str j=>obtain ⟨t',rfl⟩:=ry;exact PySem.EqNone.ne_none_str (aL I q (by simp))
  |_=>exact absurd (show false=true from hs) Bool.false_ne_true
 |bl i =>
  cases rx
  cases y with
  |non=>cases ry;exact PySem.EqNone.ne_bool_none (aL I q (by simp))
  |bl j=>cases ry;exact ne_bool (aL I q (congrArg not sP))
  |str j=>obtain ⟨t',rfl⟩:=ry;exact PySem.EqMixed.ne_bool_str (aL I q (by simp))
  |_=>exact absurd (show false=true from hs) Bool.false_ne_true
 |int i =>
  obtain ⟨t,rfl⟩:=rx
  cases y with
  |non=>cases ry;exact PySem.EqNone.ne_int_none (aL I q (by simp))
  |int j=>obtain ⟨t',rfl⟩:=ry;exact ne_int (aL I q (congrArg not qW))
  |str j=>obtain ⟨t',rfl⟩:=ry;exact PySem.EqMixed.ne_int_str (aL I q (by simp))
  |_=>exact absurd (show false=true from hs) Bool.false_ne_true
 |str i =>
  obtain ⟨t,rfl⟩:=rx
  cases y with
  |non=>cases ry;exact PySem.EqNone.ne_str_none (aL I q (by simp))
  |bl j=>cases ry;exact PySem.EqMixed.ne_str_bool (aL I q (by simp))
  |int j=>obtain ⟨t',rfl⟩:=ry;exact PySem.EqMixed.ne_str_int (aL I q (by simp))
  |str j=>obtain ⟨t',rfl⟩:=ry;exact ne_str (aL I q (congrArg not qX))
  |_=>exact absurd (show false=true from hs) Bool.false_ne_true
 |byt i =>
  obtain ⟨t,rfl⟩:=rx
  cases y with
  |byt j=>obtain ⟨t',rfl⟩:=ry;exact PySem.W.ne_bytes (aL I q (congrArg not qY))
  |_=>exact absurd (show false=true from hs) Bool.false_ne_true
 |_=>cases y<;>exact absurd (show false=true from hs) Bool.false_ne_true
theorem EC:OpR X (compareOp .Lt) (rI0 λi j=>.bl (decide (i<j))):=nG λ_ _ _ _ _ _ _ q=>lt_int q
theorem ED:OpR X (compareOp .LtE) (rI0 λi j=>.bl (decide (i<=j))):=nG λ_ _ _ _ _ _ _ q=>le_int q
theorem EE:OpR X (compareOp .Gt) (rI0 λi j=>.bl (decide (j<i))):=nG λ_ _ _ _ _ _ _ q=>gt_int q
theorem xO:OpR X (compareOp .Lt) (λx y H Q=>∃ i j,x=.str i/\y=.str j/\Q (.bl (decide (i.cps.toList<j.cps.toList))) H):=by
 intro pins s σ H x y v u Q I rx ry h
 obtain ⟨i,j,rfl,rfl,q⟩:=h
 obtain ⟨t,rfl⟩:=rx
 obtain ⟨t',rfl⟩:=ry
 exact lt_str (aL I q rfl)
theorem xP:OpR X (compareOp .In) (λx y H Q=>∃ i j,x=.str i/\y=.str j/\Q (.bl (!(Builtin.Str.occurrences j i 0 j.length 1).isEmpty)) H):=by
 intro pins s σ H x y v u Q I rx ry h
 obtain ⟨i,j,rfl,rfl,q⟩:=h
 obtain ⟨t,rfl⟩:=rx
 obtain ⟨t',rfl⟩:=ry
 exact in_str (aL I q rfl)
theorem xa:OpR X (compareOp .NotIn) (λx y H Q=>∃ i j,x=.str i/\y=.str j/\Q (.bl (!(!(Builtin.Str.occurrences j i 0 j.length 1).isEmpty))) H):=by
 intro pins s σ H x y v u Q I rx ry h
 obtain ⟨i,j,rfl,rfl,q⟩:=h
 obtain ⟨t,rfl⟩:=rx
 obtain ⟨t',rfl⟩:=ry
 exact notIn_str (aL I q rfl)
theorem aJ (b:Expr){op:CmpOp}(h:op≠.In:=by decide) (h2:op≠.NotIn:=by decide):behindInMarks op b=false:=by
 have e1:(op==CmpOp.In)=false:=by cases op<;>first|rfl|exact absurd rfl h
 have e2:(op==CmpOp.NotIn)=false:=by cases op<;>first|rfl|exact absurd rfl h2
 cases b<;>simp [behindInMarks,e1,e2]
theorem Ag {op:CmpOp}{r:R2}(ho:OpR X (compareOp op) r) (ha:PE X a ta) (hb:PE X b tb) (hm:behindInMarks op b=false):PE X (.Compare a [op] [b] pos) (tOp r ta tb):=by
 intro pins s σ H Q I h
 exact wpAny_Compare1 (nF ha hb I h λv u s2 x y H2 I2 rx ry q=>ho pins s2 σ H2 x y v u Q I2 rx ry q) hm
def uM (t:TE):TT:=λσ H Q=>t σ H λx H'=>∃ k,x=.bl k/\Q k H'
theorem Ah {op:CmpOp}{r:R2}(ho:OpR X (compareOp op) r) (ha:PE X a ta) (hb:PE X b tb) (hm:behindInMarks op b=false):PT X (.Compare a [op] [b] pos) (uM (tOp r ta tb)):=by
 intro pins s σ H Q I h
 refine wpAny_isTrue_Compare1 (thn (ha pins s σ H _ I h) λv s1 ⟨x,H1,I1,r1,q1⟩=>thn (hb pins s1 σ H1 _ I1 q1) λu s2 ⟨y,H2,I2,r2,q2⟩ =>
  thn (ho pins s2 σ H2 x y v u _ I2 r1 r2 q2) λc s3 ⟨z,H3,I3,r3,k,e,q3⟩=>?_) hm
 subst e
 cases r3
 exact wpAny_truthy_bool ⟨H3,I3,q3⟩
def sQ (r r':R2) (ta tb tc:TE):TE:=λσ H Q=>ta σ H λx H1=>tb σ H1 λy H2=>r x y H2 λz H3=>∃ k,z=.bl k /\
 (if k=true then tc σ H3 λw' H4=>r' y w' H4 Q else Q (.bl false) H3)
theorem yO {op op':CmpOp}{r r':R2}(ho:OpR X (compareOp op) r) (ho':OpR X (compareOp op') r') (ha:PE X a ta) (hb:PE X b tb) (hc:PE X c tc)
  (hm:lastMarks [op,op'] [b,c]=false:=by with_unfolding_all rfl):PE X (.Compare a [op,op'] [b,c] pos) (sQ r r' ta tb tc):=by
 intro pins s σ H Q I h
 refine Compare_chain (thn (ha pins s σ H _ I h) λv s1 ⟨x,H1,I1,r1,q1⟩=>chain_link (thn (hb pins s1 σ H1 _ I1 q1) λu s2 ⟨y,H2,I2,r2,q2⟩ =>
  thn (ho pins s2 σ H2 x y v u _ I2 r1 r2 q2) λd s3 ⟨z,H3,I3,r3,k,e,q3⟩=>?_)) hm
 subst e
 cases r3
 refine wpAny_truthy_bool ?_
 cases k with
 |false=>exact ite_ff ⟨.bl false,H3,I3,rfl,q3⟩
 |true=>exact ite_tt (chain_last (thn (hc pins s3 σ H3 _ I3 q3) λw' s4 ⟨z',H4,I4,r4,q4⟩=>ho' pins s4 σ H4 y z' u w' Q I4 r2 r4 q4))
def vS (K:PySem.W.Frag) (x:V) (H:Hp) (k:Bool):Prop :=
 match x with
 |.non=>k=false
 |.bl b=>k=b
 |.int i=>k=(i != 0)
 |.str y=>y.length<=sizeLine/\k=((y.length:Int) != 0)
 |.byt y=>y.size<=sizeLine/\k=((y.size:Int) != 0)
 |.ref p=>(∃ xs,SqL K H p xs/\k=!xs.isEmpty)\/(∃ xs,SqT K H p xs/\k=!xs.isEmpty)\/∃ kvs,H p=some (.dK kvs)/\k=!kvs.isEmpty
 |_=>False
theorem xt {κ:Type}{kvs:List (κ×V)}{vs:List (κ×Value)}(r:KV kvs vs):(!vs.isEmpty)=!kvs.isEmpty:=by
 cases r<;>rfl
theorem pc {xs:List V}{its:List Value}(r:al xs its):(!its.toArray.isEmpty)=!xs.isEmpty:=by
 cases r<;>simp
theorem eA:(sizeLine:Nat)<2 ^ 63:=by rw [sizeLine_eq];decide
theorem Ct:GW X (λx H Q=>∃ k,vS X.K x H k/\Q k H):=by
 intro pins s σ H x v Q I rx h
 obtain ⟨k,e,q⟩:=h
 have hl:=eA
 have hs:sizeLine=16777216:=sizeLine_eq
 cases x with
 |non =>
  cases rx
  have e':k=false:=e
  subst e'
  exact truthy_none ⟨H,I,q⟩
 |bl b =>
  cases rx
  have e':k=b:=e
  subst e'
  exact wpAny_truthy_bool ⟨H,I,q⟩
 |int i =>
  obtain ⟨t,rfl⟩:=rx
  have e':k=(i != 0):=e
  subst e'
  exact PySem.P.truthy_int ⟨H,I,q⟩
 |str y =>
  obtain ⟨t,rfl⟩:=rx
  obtain ⟨hy,e'⟩:y.length<=sizeLine/\k=((y.length:Int) != 0):=e
  subst e'
  exact PySem.P.truthy_str (by omega) ⟨H,I.tok _,q⟩
 |byt y =>
  obtain ⟨t,rfl⟩:=rx
  obtain ⟨hy,e'⟩:y.size<=sizeLine/\k=((y.size:Int) != 0):=e
  subst e'
  exact PySem.W.truthy_bytes (by omega) ⟨H,I.tok _,q⟩
 |ref p =>
  cases rx
  have e':(∃ xs,SqL X.K H p xs/\k=!xs.isEmpty)\/(∃ xs,SqT X.K H p xs/\k=!xs.isEmpty)\/∃ kvs,H p=some (.dK kvs)/\k=!kvs.isEmpty:=e
  rcases e' with ⟨xs,hx,e'⟩|⟨xs,hx,e'⟩|⟨kvs,hx,e'⟩
  ·subst e'
   obtain ⟨its,r,pl,hz⟩:=I.list hx
   have hlen:=r.length
   exact wpAny_truthy_list pl.isList (by simp only [List.size_toArray];omega) ⟨H,I.tok _,by rw [pc r];exact q⟩
  ·subst e'
   obtain ⟨its,r,pl,hz⟩:=I.tuple hx
   have hlen:=r.length
   exact truthy_tuple pl (by simp only [List.size_toArray];omega) ⟨H,I.tok _,by rw [pc r];exact q⟩
  ·subst e'
   obtain ⟨hz,hS,vs,r,m⟩:kvs.length<=sizeLine/\(p==sysModules)=false/\∃ vs,KV kvs vs/\s.heap.DictOf (aP X.prog X.w) p vs:=I.hok p _ hx
   have hlen:kvs.length=vs.length:=Paired.length r
   exact wpAny_truthy_dict hS m (by omega) ⟨H,I.tok _,by rw [xt r];exact q⟩
 |_=>exact (show False from e).elim
theorem yP (ha:PE X a ta) (he:∀ whole,isTrue a X.env whole=(do let v <- whole;standAt a.pos;holding [v] (truthy v))) :
  PT X a (λσ H Q=>ta σ H λx H'=>∃ k,vS X.K x H' k/\Q k H'):=by
 intro pins s σ H Q I h
 exact isTrue_plain (thn (ha pins s σ H _ I h) λv s1 zz22=>by obtain ⟨x,H1,I1,r1,q1⟩:=zz22;exact Ct pins s1 σ H1 x v Q I1 r1 q1) (he _)
theorem xu:OpR X (binaryOp .Add) (λx y H Q=>∃ i j,x=.str i/\y=.str j/\i.length+j.length<=sizeLine/\Q (.str (i++j)) H):=by
 intro pins s σ H x y v u Q I rx ry h
 obtain ⟨i,j,rfl,rfl,hz,q⟩:=h
 obtain ⟨t,rfl⟩:=rx
 obtain ⟨t',rfl⟩:=ry
 exact add_str (λt' tk=>⟨.str (i++j),H,I.tok _,⟨_,rfl⟩,q⟩) hz
theorem bg {x:V}{us:List Value}(r:al [x] us):∃ u,us=[u]/\aq x u:=by
 cases r with
 |cons r1 r2=>cases r2;exact ⟨_,rfl,r1⟩
theorem eI {x y:V}{us:List Value}(r:al [x,y] us):∃ u w',us=[u,w']/\aq x u/\aq y w':=by
 cases r with
 |cons r1 r2 =>
  cases r2 with
  |cons r3 r4=>cases r4;exact ⟨_,_,rfl,r1,r3⟩
theorem xQ (hc:X.calm=true):aX X (.builtin "min") (λxs H Q=>∃ i j,xs=[.int i,.int j]/\Q (.int (if j<i then j else i)) H):=by
 intro pins s σ H xs us Q I r h
 obtain ⟨i,j,rfl,q⟩:=h
 obtain ⟨u,w',rfl,⟨t,rfl⟩,⟨t',rfl⟩⟩:=eI r
 refine min_two_ints (I.ok.hd hc) λh' tk k=>⟨_,H,I.kept k,?_,q⟩
 by_cases hj:j<i
 ·rw [if_pos hj,if_pos hj];exact ⟨_,rfl⟩
 ·rw [if_neg hj,if_neg hj];exact ⟨_,rfl⟩
theorem pF:aX X (.type "int") (λxs H Q=>(∃ i,xs=[.int i]/\Q (.int i) H)\/∃ k,xs=[.bl k]/\Q (.int (if k then 1 else 0)) H):=by
 intro pins s σ H xs us Q I r h
 rcases h with ⟨i,rfl,q⟩|⟨k,rfl,q⟩
 ·obtain ⟨u,rfl,t,rfl⟩:=bg r
  exact call_int_int ⟨.int i,H,I,⟨_,rfl⟩,q⟩
 ·obtain ⟨u,rfl,r1⟩:=bg r
  cases r1
  exact call_int_bool ⟨.int (if k then 1 else 0),H,I.tok _,⟨_,rfl⟩,q⟩
end
structure ObjM (h:Heap) (x dx C:Addr) (mA:Str->Option Value):Prop where
 obj:h.get? x=some (PySem.W.instObj C dx)
 ns:h.Ns1 dx mA
 ne:dx≠x
theorem xR {h:Heap}{dx:Addr}{mA:Str->Option Value}(n:h.Ns1 dx mA):∃ od,h.get? dx=some od/\∀ name,PySem.W.lookIn name od=some (mA name):=by
 obtain ⟨o,es,ep,ho,hd,hk,_,hm⟩:=n
 refine ⟨o,ho,λname=>?_⟩
 have e:=hm name
 unfold nsFind findBy at e
 rw [<- Array.find?_toList] at e
 unfold PySem.W.lookIn
 rw [hd]
 dsimp only
 split
 ·rename_i y q
  rw [q] at e
  exact congrArg some e
 ·rename_i q
  rw [q] at e
  have a:es.toList.any (·.refKey)=false:=by
   rw [List.any_eq_false]
   intro y hy
   obtain ⟨z,t,hkey⟩:=hk y (Array.mem_toList_iff.mp hy)
   simp [DictEntry.refKey,hkey]
  have a':¬ es.toList.any (·.refKey)=true:=by rw [a];exact Bool.false_ne_true
  rw [if_neg a']
  exact congrArg some e
theorem ObjM.look {h:Heap}{x dx C:Addr}{mA:Str->Option Value}(I:ObjM h x dx C mA):∃ od,PySem.W.InstAt h x (PySem.W.instObj C dx) C (some od)/\∀ name,PySem.W.lookIn name od=some (mA name) :=
 let ⟨od,ho,hl⟩:=xR I.ns
 ⟨od,⟨I.obj,rfl,rfl,ho⟩,hl⟩
section
variable {prog:Program}{w:World}{A:Around}{E:Value->Shared->Prop}{s:Shared}{K:PySem.W.Frag}{x dx C f:Addr}{mA:Str->Option Value}{name:Str}{v:Value}
theorem Ai {expr:Bool}{Q:Value->Shared->Prop}(X:K.In s.heap) (I:ObjM s.heap x dx C mA) (hg:PySem.W.plainGet K C name=true) (hh:PySem.W.hasDictIn K C=true)
  (ha:PySem.W.findIn K (.ref C) name=some none) (hv:mA name=some v) (hv':PySem.W.handedIn v=true) (h:Q v { s with toks:=s.toks+1 }) :
  wpAny (model prog w) A (getAttr (.ref x) name expr) Q E s:=by
 obtain ⟨od,J,hl⟩:=I.look
 exact PySem.W.get_value X J (PySem.W.plainGet_of hg).1 (PySem.W.findObj_own hh ha rfl (by rw [hl,hv])) hv' h
theorem yQ {pl:Sem Bool}{Q:Value×List Value->Shared->Prop}(X:K.In s.heap) (I:ObjM s.heap x dx C mA) (hg:PySem.W.plainGet K C name=true)
  (hf:PySem.W.findIn K (.ref C) name=some (some (.ref f))) (ht:PySem.W.isFn K (.ref f)=true) (hv:mA name=none) (h:Q (.ref f,[.ref x]) s) :
  wpAny (model prog w) A (getMethod (.ref x) name pl) Q E s:=by
 obtain ⟨od,J,hl⟩:=I.look
 exact PySem.W.method_fn X J (PySem.W.plainGet_of hg).1 (PySem.W.plainGet_of hg).2 hf (beq_iff_eq.mp ht) (by show (PySem.W.lookIn name od).map (·.isSome)=some false;rw [hl,hv];rfl) h
theorem Aj {ns:List Str}{Q:Unit->Shared->Prop}(X:K.In s.heap) (I:ObjM s.heap x dx C mA)
  (hs:PySem.W.findIn K (.ref C) "__setattr__"=some (some (.builtin "object.__setattr__"))) (hp:PySem.W.plainOver K C=true) (ht:PySem.W.takerIn K C name=some none) (hh:PySem.W.hasDictIn K C=true)
  (hw:PySem.Within mA ns) (hsz:ns.length<=sizeLine)
  (h:∀ h',ObjM h' x dx C (λy=>if y=name then some v else mA y)->Heap.SameBut dx s.heap h'->Q () { s with heap:=h',toks:=s.toks+2 }) :
  wpAny (model prog w) A (setAttr (.ref x) name v) Q E s:=by
 obtain ⟨od,J,hl⟩:=I.look
 refine PySem.W.set_plain X J hs (PySem.W.osa_open (s:={ s with toks:=s.toks+1 }) (r:=none) X J hp ht λb=>?_)
 obtain ⟨cd,hc,hd'⟩:=PySem.W.any_some hh
 have hx:s.heap.get? x=some ⟨.ref C,some dx,.plain,#[]⟩:=I.obj
 refine wpAny_bind (wpAny_pure (wpAny_bind (wpAny_bind (wpAny_loadPart hx (wpAny_bind (PySem.W.Looks.here (s:={ s with toks:=s.toks+1 }) (PySem.W.looks_clsIn X hc) ?_))))))
 rw [hd']
 refine wpAny_pure (a:=some dx) (wpAny_bind (wpAny_pure (wpAny_bind ?_)))
 refine wpAny_nsSet1 (s:={ s with toks:=s.toks+1 }) I.ns λh' hn2 hs2=>?_
 obtain ⟨oD,esD,epD,hoD,hdD,hcD⟩:=hn2.count (PySem.Within.cons name v hw)
 refine wpAny_bind (wpAny_lookBehind hoD (by rw [hdD];exact pastItsLine_dict (Nat.le_trans hcD (by rw [List.length_cons];omega))) ?_)
 exact wpAny_pure (h _ ⟨(hs2.2 _ (Ne.symm I.ne)).trans I.obj,hn2,I.ne⟩ hs2)
theorem yR {R:Result->Shared->Prop}{vs:List Value}{kw:List (Str×Value)}(X:K.In s.heap) (hm:PySem.W.makesIn K C=true)
  (hi:PySem.W.findIn K (.ref C) "__init__"=some (some (.ref f))) (hf:PySem.W.typeIn K (.ref f)=some (.type "function"))
  (h:codeAny (model prog w) (A.under (.builtin "type.__call__" ⟨.ref C::vs,kw⟩)) (.call (.ref f) ⟨.ref (s.heap.objs.size+1)::vs,kw⟩) (PySem.W.InitBack (s.heap.objs.size+1) R)
   { s with heap:=(s.heap.push PySem.W.emptyDict).push (PySem.W.instObj C s.heap.objs.size) }) :
  codeAny (model prog w) A (.call (.ref C) ⟨vs,kw⟩) R s:=by
 obtain ⟨hh,g,d,t,os⟩:=s
 exact PySem.W.make_core (PySem.W.makes_of X hm) (PySem.W.looks_findIn X hi) (λself=>PySem.W.bind_fn X self hf) (.inl rfl) h
end
def ba (f:Str) (v:V):List (Str×V)->List (Str×V)
 |[]=>[(f,v)]
 |(g,x)::r=>if g=f then (g,v)::r else (g,x)::ba f v r
theorem oU (f g:Str) (v:V):∀ fs:List (Str×V),(ba f v fs).lookup g=if g=f then some v else fs.lookup g
 |[]=>by
  show List.lookup g [(f,v)]=_
  by_cases h:g=f
  ·have hb:(g==f)=true:=beq_iff_eq.mpr h
   simp only [List.lookup,hb,if_pos h]
  ·have hb:(g==f)=false:=beq_eq_false_iff_ne.mpr h
   simp only [List.lookup,hb,if_neg h]
 |(k,x)::r=>by
  have ih:=oU f g v r
  rw [show ba f v ((k,x)::r)=(if k=f then (k,v)::r else (k,x)::ba f v r) from rfl]
  by_cases hk:k=f
  ·rw [if_pos hk]
   by_cases h:g=k
   ·have hb:(g==k)=true:=beq_iff_eq.mpr h
    simp only [List.lookup,hb,if_pos (h.trans hk)]
   ·have hb:(g==k)=false:=beq_eq_false_iff_ne.mpr h
    simp only [List.lookup,hb,if_neg (λe:g=f=>h (e.trans hk.symm))]
  ·rw [if_neg hk]
   by_cases h:g=k
   ·have hb:(g==k)=true:=beq_iff_eq.mpr h
    simp only [List.lookup,hb,if_neg (λe:g=f=>hk (h.symm.trans e))]
   ·have hb:(g==k)=false:=beq_eq_false_iff_ne.mpr h
    simp only [List.lookup,hb]
    exact ih
theorem kW (f:Str) (v:V):∀ fs:List (Str×V),f∈(ba f v fs).map (·.1)/\∀ g,g∈fs.map (·.1)->g∈(ba f v fs).map (·.1)
 |[]=>⟨by simp [ba],λg h=>by simp at h⟩
 |(k,x)::r=>by
  obtain ⟨i1,i2⟩:=kW f v r
  rw [show ba f v ((k,x)::r)=(if k=f then (k,v)::r else (k,x)::ba f v r) from rfl]
  by_cases hk:k=f
  ·rw [if_pos hk]
   subst hk
   exact ⟨by simp,λg h=>by simpa using h⟩
  ·rw [if_neg hk]
   refine ⟨?_,λg h=>?_⟩
   ·rw [List.map_cons]
    exact List.mem_cons_of_mem _ i1
   ·rw [List.map_cons] at h ⊢
    rcases List.mem_cons.mp h with e|e
    ·exact List.mem_cons.mpr (.inl e)
    ·exact List.mem_cons_of_mem _ (i2 g e)
theorem oV (f:Str) (v:V):∀ fs:List (Str×V),(ba f v fs).length<=fs.length+1
 |[]=>by simp [ba]
 |(k,x)::r=>by
  have ih:=oV f v r
  rw [show ba f v ((k,x)::r)=(if k=f then (k,v)::r else (k,x)::ba f v r) from rfl]
  by_cases hk:k=f
  ·rw [if_pos hk,List.length_cons,List.length_cons];omega
  ·rw [if_neg hk,List.length_cons,List.length_cons];omega
theorem bp.some_of {v:V}{o:Option Value}(r:bp (some v) o):∃ u,o=some u/\aq v u:=by
 cases o with
 |none=>exact (show False from r).elim
 |some u=>exact ⟨u,rfl,r⟩
theorem bp.none_of {o:Option Value}(r:bp none o):o=none:=by
 cases o with
 |none=>rfl
 |some u=>exact (show False from r).elim
theorem xS {v:V}{u:Value}(r:aq v u):PySem.W.handedIn u=true:=by
 cases v with
 |non=>cases (show u=Value.none from r);rfl
 |bl b=>cases (show u=Value.bool b from r);rfl
 |int i=>obtain ⟨t,e⟩:=(show ∃ t,u=Value.int i t from r);cases e;rfl
 |str x=>obtain ⟨t,e⟩:=(show ∃ t,u=Value.str x t from r);cases e;rfl
 |byt b=>obtain ⟨t,e⟩:=(show ∃ t,u=Value.bytes b t from r);cases e;rfl
 |flt b=>obtain ⟨t,e⟩:=(show ∃ t,u=Value.float b t from r);cases e;rfl
 |ref a=>cases (show u=Value.ref a from r);rfl
 |ty n=>cases (show u=Value.type n from r);rfl
section
variable {P:Program}{w:World}{H H':Hp}{h h':Heap}{a C dx:Addr}{fs fs':List (Str×V)}
theorem gY (hok:HOk P w H h) (e:H a=some (.ins C dx fs)):∃ mA,ObjM h a dx C mA/\(∀ f,bp (fs.lookup f) (mA f))/\PySem.Within mA (fs.map (·.1))/\fs.length<=1000/\H dx=some (.own a):=by
 obtain ⟨d,z,ne,ob,mA,n,r,q⟩:=(show aN P w H h a (.ins C dx fs) from hok a _ e)
 exact ⟨mA,⟨ob,n,ne⟩,r,q,z,d⟩
end
structure Cls (K:PySem.W.Frag) (C:Addr):Prop where
 pg:PySem.W.plainGet K C Str.empty=true
 hd:PySem.W.hasDictIn K C=true
 po:PySem.W.plainOver K C=true
 sa:PySem.W.findIn K (.ref C) "__setattr__"=some (some (.builtin "object.__setattr__"))
theorem Cls.get {K:PySem.W.Frag}{C:Addr}(c:Cls K C) (f:Str):PySem.W.plainGet K C f=true:=c.pg
def bG (K:PySem.W.Frag) (C:Addr) (f:Str):Prop:=PySem.W.findIn K (.ref C) f=some none
theorem bG.taker {K:PySem.W.Frag}{C:Addr}{f:Str}(n:bG K C f):PySem.W.takerIn K C f=some none:=by
 unfold PySem.W.takerIn
 rw [show PySem.W.findIn K (.ref C) f=some none from n]
 rfl
structure Con (K:PySem.W.Frag) (C:Addr) (f:Str) (v:V) (u:Value):Prop where
 at_:PySem.W.findIn K (.ref C) f=some (some u)
 rel:aq v u
 get:PySem.W.specialIn K u "__get__"=some none
 cp:PySem.W.copiedNames.contains f=false
structure Meth (K:PySem.W.Frag) (C:Addr) (m:Str) (f:Addr):Prop where
 at_:PySem.W.findIn K (.ref C) m=some (some (.ref f))
 fn:PySem.W.isFn K (.ref f)=true
 kp:PySem.W.keepIn K (.ref f)=true
section
variable {X:Cx}{pins:List (Addr×Obj)}{σ:St}{H:Hp}{s:Shared}{a C dx:Addr}{fs:List (Str×V)}{f:Str}{v:V}{A:Around}{E:Value->Shared->Prop}
theorem pf {b:Bool}{Q:Value->Shared->Prop}(I:Inv X pins σ H s) (e:H a=some (.ins C dx fs)) (c:Cls X.K C) (n:bG X.K C f) (l:fs.lookup f=some v)
  (h:∀ u s',Inv X pins σ H s'->aq v u->Q u s'):wpAny (model X.prog X.w) A (getAttr (.ref a) f b) Q E s:=by
 obtain ⟨mA,O,r,_,_,_⟩:=gY I.hok e
 obtain ⟨u,hu,ru⟩:=bp.some_of (v:=v) (o:=mA f) (by rw [<- l];exact r f)
 exact Ai I.kIn O (c.get f) c.hd n hu (xS ru) (h u _ (I.tok _) ru)
theorem kR {m:Str}{g:Addr}{pl:Sem Bool}{Q:Value×List Value->Shared->Prop}(I:Inv X pins σ H s) (e:H a=some (.ins C dx fs)) (c:Cls X.K C) (k:Meth X.K C m g) (l:fs.lookup m=none)
  (h:Q (.ref g,[.ref a]) s):wpAny (model X.prog X.w) A (getMethod (.ref a) m pl) Q E s:=by
 obtain ⟨mA,O,r,_,_,_⟩:=gY I.hok e
 have hn:mA m=none:=bp.none_of (by rw [<- l];exact r m)
 exact yQ I.kIn O (c.get m) k.at_ k.fn hn h
theorem ph {y:V}{u:Value}{Q:Unit->Shared->Prop}(I:Inv X pins σ H s) (e:H a=some (.ins C dx fs)) (c:Cls X.K C) (n:bG X.K C f) (hl:fs.length<1000) (ry:aq y u)
  (h:∀ s',Inv X pins σ (upd H a (.ins C dx (ba f y fs))) s'->Q () s'):wpAny (model X.prog X.w) A (setAttr (.ref a) f u) Q E s:=by
 obtain ⟨mA,O,r,wi,_,ho⟩:=gY I.hok e
 have hz:(fs.map (·.1)).length<=sizeLine:=by rw [List.length_map,sizeLine_eq];omega
 refine Aj I.kIn O c.sa c.po n.taker c.hd wi hz λh' O' sb=>h _ ?_
 have hd:∃ o,h'.get? dx=some o:=let ⟨o,_,_,e',_⟩:=O'.ns;⟨o,e'⟩
 refine I.write (x:=a) (e:=dx) (by rw [e];exact True.intro) (.inr ho) (λb q hb z=>(sb.2 b hb).trans z) hd ?_
 refine ⟨by rw [aB O.ne];exact ho,?_,O.ne,O'.obj,_,O'.ns,λg=>?_,λg hg=>?_⟩
 ·have:=oV f y fs;omega
 ·show bp ((ba f y fs).lookup g) (if g=f then some u else mA g)
  rw [oU]
  by_cases q:g=f
  ·rw [if_pos q,if_pos q];exact ry
  ·rw [if_neg q,if_neg q];exact r g
 ·by_cases q:g=f
  ·rw [q];exact (kW f y fs).1
  ·refine (kW f y fs).2 g (wi g λz=>hg ?_)
   show (if g=f then some u else mA g)=none
   rw [if_neg q];exact z
theorem Inv.made (I:Inv X pins σ H s):Inv X pins σ (upd (upd H s.heap.objs.size (.own (s.heap.objs.size+1))) (s.heap.objs.size+1) (.ins C s.heap.objs.size []))
  { s with heap:=(s.heap.push PySem.W.emptyDict).push (PySem.W.instObj C s.heap.objs.size) }:=by
 have e1:(s.heap.push PySem.W.emptyDict).get? s.heap.objs.size=some PySem.W.emptyDict:=Heap.get?_push_size s.heap rfl
 have e2:((s.heap.push PySem.W.emptyDict).push (PySem.W.instObj C s.heap.objs.size)).get? (s.heap.objs.size+1)=some (PySem.W.instObj C s.heap.objs.size):=by
  have:=Heap.get?_push_size (s.heap.push PySem.W.emptyDict) (o:=PySem.W.instObj C s.heap.objs.size) rfl
  rwa [Heap.size_push] at this
 have e3:(s.heap.push PySem.W.emptyDict).Ns s.heap.objs.size (λ_=>none):=⟨PySem.W.emptyDict,#[],_,e1,rfl,(λe he=>absurd he (by simp)),λ_=>rfl⟩
 have I1:=I.laid (a:=s.heap.objs.size) (o:=.own (s.heap.objs.size+1)) (h':=s.heap.push PySem.W.emptyDict) (t':=s.toks) (λb u q=>Heap.get?_push_of_some _ q) (Nat.le_refl _) ⟨_,e1⟩
 refine I1.laid (a:=s.heap.objs.size+1) (o:=.ins C s.heap.objs.size []) (t':=s.toks) (λb u q=>Heap.get?_push_of_some _ q) (Nat.le_of_eq (Heap.size_push _ _)) ?_
 have ne:s.heap.objs.size≠s.heap.objs.size+1:=Nat.ne_of_lt (Nat.lt_succ_self _)
 refine ⟨by rw [aB ne,aI],Nat.zero_le _,ne,e2,λ_=>none,(Heap.Ns1.of_empty e3).at λo q=>Heap.get?_push_of_some _ q,λ_=>True.intro,λy hy=>absurd rfl hy⟩
theorem Ak {prog:Program}{w:World}{env:Env}{e:Expr}{f:Str}{pos:Pos}{s:Shared}{Q:Value->Shared->Prop}(hb:attributeBase e f env (eval e env)=eval e env)
  (h:wpAny (model prog w) A (eval e env) (λo s₁=>wpAny (model prog w) A (getAttr o f true) Q E s₁) E s):wpAny (model prog w) A (eval (.Attribute e f pos) env) Q E s :=
 Attribute_any_ h (by rw [arm_eval_Attribute,hb])
end
def GY (K:PySem.W.Frag) (ta:TE) (f:Str):TE:=λσ H Q=>ta σ H λx H1=>∃ a C dx fs v,x=.ref a/\H1 a=some (.ins C dx fs)/\Cls K C/\bG K C f/\fs.lookup f=some v/\Q v H1
def GZ (K:PySem.W.Frag) (ta tv:TE) (f:Str):TS:=λD σ H=>tv σ H λy H1=>ta σ H1 λx H2=>∃ a C dx fs,x=.ref a/\H2 a=some (.ins C dx fs)/\Cls K C/\bG K C f/\fs.length<1000 /\
 D.nx σ (upd H2 a (.ins C dx (ba f y fs)))
def vT (X:Cx) (op:Operator) (rd:V->V->Hp->VK->Prop):Prop :=
 ∀ (pins:List (Addr×Obj)) (s:Shared) (σ:St) (H:Hp) (x y:V) (u v:Value) (Q:VK),Inv X pins σ H s->aq x u->aq y v->rd x y H Q->wpAny (model X.prog X.w) X.A (inplaceOp op u v) (EP X pins σ Q) X.xe s
def Al (K:PySem.W.Frag) (ta tv:TE) (rd:V->V->Hp->VK->Prop) (f:Str):TS:=λD σ H=>ta σ H λx H1=>∃ a C dx fs v,x=.ref a/\H1 a=some (.ins C dx fs)/\Cls K C/\bG K C f/\fs.lookup f=some v /\
 tv σ H1 λy H2=>rd v y H2 λz H3=>∃ dx' fs',H3 a=some (.ins C dx' fs')/\fs'.length<1000/\D.nx σ (upd H3 a (.ins C dx' (ba f z fs')))
section
variable {X:Cx}{o e value:Expr}{f:Str}{pos pos' tpos:Pos}{ta tv:TE}
theorem Cu (he:PE X e ta) (hb:attributeBase e f X.env (eval e X.env)=eval e X.env):PE X (.Attribute e f pos) (GY X.K ta f):=by
 intro pins s σ H Q I h
 refine Ak hb (thn (he pins s σ H _ I h) λu s1 zz23=>?_)
 obtain ⟨x,H1,I1,rx,a,C,dx,fs,v,ex,ea,c,n,l,q⟩:=zz23
 subst ex
 obtain rfl:u=Value.ref a:=rx
 exact pf I1 ea c n l λu' s2 I2 ru=>⟨v,H1,I2,ru,q⟩
theorem Cv (ha:PE X o ta) (hv:PE X value tv) (hs:swapsWith value (some (.Attribute o f pos')) pos.line X.env=pure false):PS X (.Assign [.Attribute o f pos'] value pos) (GZ X.K ta tv f):=by
 intro pins s σ H D I h
 refine plainObj_wpAny_Assign_Attribute (thn (hv pins s σ H _ I h) λu s1 ⟨y,H1,I1,ry,q⟩=>thn (ha pins s1 σ H1 _ I1 q) λov s2 ⟨x,H2,I2,rx,a,C,dx,fs,ex,ea,c,n,l,q2⟩=>?_) hs
 subst ex
 obtain rfl:ov=Value.ref a:=rx
 exact ph I2 ea c n l ry λs3 I3=>⟨σ,_,I3,q2⟩
theorem xT {op:Operator}{rd:V->V->Hp->VK->Prop}(ha:PE X o ta) (hv:PE X value tv) (hop:vT X op rd):PS X (.AugAssign (.Attribute o f tpos) op value pos) (Al X.K ta tv rd f):=by
 intro pins s σ H D I h
 refine wpAny_AugAssign_AttributeAny (thn (ha pins s σ H _ I h) λov s1 zz24=>?_)
 obtain ⟨x,H1,I1,rx,a,C,dx,fs,v,ex,ea,c,n,l,q⟩:=zz24
 subst ex
 obtain rfl:ov=Value.ref a:=rx
 refine pf I1 ea c n l λu s2 I2 ru=>thn (hv pins s2 σ H1 _ I2 q) λw3 s3 zz25=>?_
 obtain ⟨y,H2,I3,ry,q3⟩:=zz25
 refine thn (hop pins s3 σ H2 v y u w3 _ I3 ru ry q3) λw4 s4 zz26=>?_
 obtain ⟨z,H3,I4,rz,dx',fs',ea',l',q4⟩:=zz26
 exact ph I4 ea' c n l' rz λs5 I5=>⟨σ,_,I5,q4⟩
def G0:V->V->Hp->VK->Prop:=λx y H Q=>∃ i j,x=.int i/\y=.int j/\Q (.int (i+j)) H
theorem Cw:vT X .Add G0:=by
 rintro pins s σ H x y u v Q I rx ry ⟨i,j,rfl,rfl,q⟩
 obtain ⟨t,rfl⟩:=(show ∃ t,u=Value.int i t from rx)
 obtain ⟨t',rfl⟩:=(show ∃ t',v=Value.int j t' from ry)
 exact PyProof.Rows.iadd_int ⟨.int (i+j),H,I.tok _,⟨_,rfl⟩,q⟩
end
section
variable {X:Cx}{pins:List (Addr×Obj)}{σ:St}{H:Hp}{s:Shared}{A:Around}{E:Value->Shared->Prop}{Q:Value->Shared->Prop}{c:Value}{b:Bool}
inductive TyOf (K:PySem.W.Frag) (H:Hp):V->Value->Prop where
 |non:TyOf K H .non (.type "NoneType")
 |bl (x:Bool):TyOf K H (.bl x) (.type "bool")
 |int (i:Int):TyOf K H (.int i) (.type "int")
 |str (x:Str):TyOf K H (.str x) (.type "str")
 |flt (x:UInt64):TyOf K H (.flt x) (.type "float")
 |lst {a:Addr}{xs:List V}(e:H a=some (.lst xs)):TyOf K H (.ref a) (.type "list")
 |frz {a:Addr}{o:Obj}{xs:List V}(e:H a=some (.frz o (.lst xs))):TyOf K H (.ref a) (.type "list")
 |tup {a:Addr}{xs:List V}(e:H a=some (.tup xs)):TyOf K H (.ref a) (.type "tuple")
 |dK {a:Addr}{kvs:List (Key×V)}(e:H a=some (.dK kvs)):TyOf K H (.ref a) (.type "dict")
 |dT {a:Addr}{kvs:List (List Key×V)}(e:H a=some (.dT kvs)):TyOf K H (.ref a) (.type "dict")
 |ins {a C dx:Addr}{fs:List (Str×V)}(e:H a=some (.ins C dx fs)) (cl:Cls K C) (ha:PySem.W.findIn K (.ref C) "__class__"=some (some (.builtin "object.__class__")))
   (hn:PySem.W.specialIn K (.builtin "object.__class__") "__get__"=some (some (.builtin "getset_descriptor.__get__"))) (htk:PySem.W.takesIn K (.builtin "object.__class__")=some true)
   (hm:PySem.W.mroIn K C (.type "object")=some true):TyOf K H (.ref a) (.ref C)
theorem xU {x:V}{u t:Value}(I:Inv X pins σ H s) (rx:aq x u) (ty:TyOf X.K H x t) (e:PySem.W.kitOne X.K t c=some b) (h:∀ tk,Q (.bool b) { s with toks:=tk }) :
  wpAny (model X.prog X.w) A (call (.builtin "isinstance") [u,c]) Q E s:=by
 cases ty with
 |non=>cases (show u=Value.none from rx);exact PySem.W.kia_one PySem.W.kitx_none I.kIn True.intro e (λz=>nomatch z) h
 |bl y=>cases (show u=Value.bool y from rx);exact PySem.W.kia_one PySem.W.kitx_bool I.kIn True.intro e (λz=>nomatch z) h
 |int i=>obtain ⟨t,q⟩:=(show ∃ t,u=Value.int i t from rx);cases q;exact PySem.W.kia_one PySem.W.kitx_int I.kIn True.intro e (λz=>nomatch z) h
 |str y=>obtain ⟨t,q⟩:=(show ∃ t,u=Value.str y t from rx);cases q;exact PySem.W.kia_one PySem.W.kitx_str I.kIn True.intro e (λz=>nomatch z) h
 |flt y=>obtain ⟨t,q⟩:=(show ∃ t,u=Value.float y t from rx);cases q;exact PySem.W.kia_one PySem.W.kitx_float I.kIn True.intro e (λz=>nomatch z) h
 |@lst a xs ea =>
  cases (show u=Value.ref a from rx)
  obtain ⟨_,_,n,_,h1⟩:=(show aN X.prog X.w H s.heap a (.lst xs) from I.hok a _ ea)
  exact PySem.W.kia_one PySem.W.kitx_list I.kIn ⟨_,h1,rfl⟩ e (λz=>nomatch z) h
 |@frz a ob xs ea =>
  cases (show u=Value.ref a from rx)
  obtain ⟨_,_,_,n,_,h1⟩:=(show aN X.prog X.w H s.heap a (.frz ob (.lst xs)) from I.hok a _ ea)
  exact PySem.W.kia_one PySem.W.kitx_list I.kIn ⟨_,h1,rfl⟩ e (λz=>nomatch z) h
 |@tup a xs ea =>
  cases (show u=Value.ref a from rx)
  obtain ⟨_,_,_,p⟩:=(show aN X.prog X.w H s.heap a (.tup xs) from I.hok a _ ea)
  obtain ⟨o,h1,h2,_⟩:=p
  exact PySem.W.kia_one PySem.W.kitx_tuple I.kIn ⟨o,h1,h2⟩ e (λz=>nomatch z) h
 |@dK a kvs ea =>
  cases (show u=Value.ref a from rx)
  obtain ⟨_,_,vs,_,p⟩:=(show aN X.prog X.w H s.heap a (.dK kvs) from I.hok a _ ea)
  obtain ⟨o,es,ep,h1,h2,_⟩:=p
  exact PySem.W.kia_one PySem.W.kitx_dict I.kIn ⟨o,h1,h2.1⟩ e (λz=>nomatch z) h
 |@dT a kvs ea =>
  cases (show u=Value.ref a from rx)
  obtain ⟨_,_,xs,_,o,es,ep,h1,h2,_⟩:=(show aN X.prog X.w H s.heap a (.dT kvs) from I.hok a _ ea)
  exact PySem.W.kia_one PySem.W.kitx_dict I.kIn ⟨o,h1,h2.1⟩ e (λz=>nomatch z) h
 |@ins a C dx fs ea cl ha hn htk hm =>
  cases (show u=Value.ref a from rx)
  obtain ⟨mA,O,_⟩:=gY I.hok ea
  obtain ⟨od,J,_⟩:=O.look
  exact PySem.W.kia_one (PySem.W.kitx_own (cl.get _) cl.hd ha hn htk hm) I.kIn J e (λz=>nomatch z) h
end
structure Room (k:Nat) (A:Around):Prop where
 hd:A.handled=none
 dp:A.depth+3 * k+5<recursionLimit
 un:A.units+16 * k+200<cLine
 gd:A.guards=some []
theorem Room.mono {j k:Nat}{A:Around}(r:Room k A) (h:j<=k):Room j A:=⟨r.hd,by have:=r.dp;omega,by have:=r.un;omega,r.gd⟩
theorem Room.m {j k:Nat} {A:Around} (r:Room k A) (h:j<=k:=by decide):Room j A:=r.mono h
theorem Room.deeper {k:Nat}{A:Around}(r:Room (k+1) A) (env:Env):Room k (A.deeper env) :=
 ⟨r.hd,by have:=r.dp;show A.depth+1+3 * k+5<_;omega,by have:=r.un;show A.units+3+16 * k+200<_;omega,r.gd⟩
theorem Room.in1 {k:Nat}{A:Around}(r:Room (k+1) A):Room k A.in1 :=
 ⟨r.hd,by have:=r.dp;show A.depth+3 * k+5<_;omega,by have:=r.un;show A.units+1+16 * k+200<_;omega,r.gd⟩
theorem xv {A:Around}{C:Addr}{us:List Value}{kw:List (Str×Value)}:(A.under (.builtin "type.__call__" ⟨.ref C::us,kw⟩)).depth=A.depth+1:=by
 first|rfl|simp [Around.under,Code.weight,Code.isCreation,Code.isGuard,Code.isCaller,Code.frames,Code.isFrame,guardIds]
theorem xw {A:Around}{C:Addr}{us:List Value}{kw:List (Str×Value)}:(A.under (.builtin "type.__call__" ⟨.ref C::us,kw⟩)).units=A.units+1:=by
 first|rfl|simp [Around.under,Code.cUnits,Code.frames,Code.isFrame]
theorem xk {A:Around}{C:Addr}{us:List Value}{kw:List (Str×Value)}:(A.under (.builtin "type.__call__" ⟨.ref C::us,kw⟩)).guards=A.guards:=by
 first|rfl|simp [Around.under,Code.isGuard,guardIds]
theorem Room.make {k:Nat}{A:Around}(r:Room (k+1) A) (C:Addr) (us:List Value) (kw:List (Str×Value)):Room k (A.under (.builtin "type.__call__" ⟨.ref C::us,kw⟩)) :=
 ⟨r.hd,by have:=r.dp;rw [xv];omega,by have:=r.un;rw [xw];omega,by rw [xk];exact r.gd⟩
theorem Room.depth {k:Nat}{A:Around}(r:Room k A):A.depth<recursionLimit:=by have:=r.dp;omega
theorem Room.units {k:Nat}{A:Around}(r:Room k A):A.units+64<cLine:=by have:=r.un;omega
def dn:TA:=λ_ H Q=>Q [] H
def j3 (ta:TE) (tr:TA):TA:=λσ H Q=>ta σ H λx H1=>tr σ H1 λxs H2=>Q (x::xs) H2
section
variable {X:Cx}{e:Expr}{es:List Expr}{te:TE}{t:TA}{pos:Pos}
theorem sR:PA X [] dn:=λ_ _ _ _ H Q I h=>Calls.spliced_nil ⟨[],H,I,.nil,h⟩
theorem qZ (ha:PE X e te) (hr:PA X es t) (hs:starEach (e::es) X.env=(false,eval e X.env)::starEach es X.env:=by rfl):PA X (e::es) (j3 te t):=by
 intro pos pins s σ H Q I h
 rw [hs]
 show wpAny _ _ (spliced ((false,eval e X.env)::backTo pos (starEach es X.env))) _ _ s
 refine Calls.spliced_cons (thn (ha pins s σ H _ I h) λu s1 zz27=>?_)
 obtain ⟨x,H1,I1,r1,q1⟩:=zz27
 exact thn (hr pos pins s1 σ H1 _ I1 q1) λus s2 zz28=>by obtain ⟨xs,H2,I2,r2,q2⟩:=zz28;exact ⟨x::xs,H2,I2,.cons r1 r2,q2⟩
def G6 (t:TA):TE:=λσ H Q=>t σ H λxs H1=>xs.length<=sizeLine/\∀ p,H1 p=none->Q (.ref p) (upd H1 p (.tup xs))
def G7 (t:TA):TE:=λσ H Q=>t σ H λxs H1=>xs.length<=sizeLine/\∀ p,H1 p=none->Q (.ref p) (upd H1 p (.lst xs))
theorem Cy {x1}(h:PA X es t):PE X (.Tuple es x1 pos) (G6 t):=by
 intro pins s σ H Q I hq
 refine wpAny_Tuple_spliced (thn (h pos pins s σ H _ I hq) λus s1 ⟨xs,H1,I1,r,z,q⟩=>⟨by rw [<- r.length];exact z,?_⟩)
 have hf:H1 s1.heap.objs.size=none:=I1.hok.fresh (Nat.le_refl _)
 refine ⟨.ref s1.heap.objs.size,upd H1 s1.heap.objs.size (.tup xs),I1.laid (t':=s1.toks) (λb u e=>Heap.get?_push_of_some _ e) (Nat.le_refl _) ?_,rfl,q _ hf⟩
 exact ⟨z,us,r,⟨_,Heap.get?_push_size _ rfl,rfl,_,rfl⟩⟩
theorem sS (h:PA X es t):PE X (.List es pos) (G7 t):=by
 intro pins s σ H Q I hq
 refine wpAny_List_spliced (thn (h pos pins s σ H _ I hq) λus s1 ⟨xs,H1,I1,r,z,q⟩=>⟨by rw [<- r.length];exact z,?_⟩)
 have hf:H1 s1.heap.objs.size=none:=I1.hok.fresh (Nat.le_refl _)
 refine ⟨.ref s1.heap.objs.size,upd H1 s1.heap.objs.size (.lst xs),I1.laid (t':=s1.toks) (λb u e=>Heap.get?_push_of_some _ e) (Nat.le_refl _) ?_,rfl,q _ hf⟩
 exact ⟨z,us,0,r,Heap.get?_push_size _ rfl⟩
end
abbrev Sp:=List V->Hp->VK->XK->Prop
abbrev CXT:=List Env->Hp->Shared->XK->Value->Shared->Prop
structure Env0 (P:Program) (w:World) (K:PySem.W.Frag) (mg:Str->Option Value) (base:Heap) (A:Around) (outer:List Env) (s:Shared) (H:Hp):Prop where
 frames:A.frames=some outer
 mod:Mod K mg base
 bs:∀ b o,base.get? b=some o->s.heap.get? b=some o/\H b=none
 bsz:base.objs.size<=s.heap.objs.size
 funs:s.heap.FunFrames base outer
 frf:∀ b∈frs outer,H b=none
 hok:HOk P w H s.heap
 bare:AllBare s.gens
def CE (outer:List Env) (P:Program) (w:World) (H:Hp) (s:Shared) (Q:VK) (u:Value) (s':Shared):Prop :=
 ∃ v H',s'.os=s.os/\AllBare s'.gens/\Un (frs outer) [] H H' s.heap s'.heap/\HOk P w H' s'.heap/\aq v u/\Q v H'
def CR (CX:CXT) (outer:List Env) (P:Program) (w:World) (H:Hp) (s:Shared) (Q:VK) (E:XK) (r:Result) (s':Shared):Prop :=
 match r with
 |.ok (.ret u)=>CE outer P w H s Q u s'
 |.ok _=>False
 |.error e=>CX outer H s E e s'
structure FnOk (P:Program) (w:World) (K:PySem.W.Frag) (mg:Str->Option Value) (base:Heap) (CX:CXT) (k:Nat) (f:Addr) (fd:FuncData) (ps:List Str) (sp:Sp):Prop where
 len:∀ vs H Q E,sp vs H Q E->vs.length=ps.length
 run:∀ (A:Around) (outer:List Env) (s:Shared) (H:Hp) (args:Args) (us:List Value) (vs:List V) (Q:VK) (E:XK),Room k A->Env0 P w K mg base A outer s H->BindsTo s fd args (ps.zip us)->al vs us->sp vs H Q E ->
  codeAny (model P w) A (.call (.ref f) args) (CR CX outer P w H s Q E) s
theorem FnOk.mono {P:Program}{w:World}{K:PySem.W.Frag}{mg:Str->Option Value}{base:Heap}{CX:CXT}{j k:Nat}{f:Addr}{fd:FuncData}{ps:List Str}{sp:Sp}(F:FnOk P w K mg base CX j f fd ps sp) (h:j<=k) :
  FnOk P w K mg base CX k f fd ps sp:=⟨F.len,λA outer s H args us vs Q E hr=>F.run A outer s H args us vs Q E (hr.mono h)⟩
theorem FnOk.imp {P:Program}{w:World}{K:PySem.W.Frag}{mg:Str->Option Value}{base:Heap}{CX:CXT}{k:Nat}{f:Addr}{fd:FuncData}{ps:List Str}{sp sp':Sp}(F:FnOk P w K mg base CX k f fd ps sp)
  (h:∀ vs H Q E,sp' vs H Q E->sp vs H Q E):FnOk P w K mg base CX k f fd ps sp' :=
 ⟨λvs H Q E q=>F.len vs H Q E (h _ _ _ _ q),λA outer s H args us vs Q E hr he hb hv hs=>F.run A outer s H args us vs Q E hr he hb hv (h _ _ _ _ hs)⟩
theorem Env0.make {P:Program}{w:World}{K:PySem.W.Frag}{mg:Str->Option Value}{base:Heap}{A:Around}{outer:List Env}{s:Shared}{H:Hp}(e:Env0 P w K mg base A outer s H) (C:Addr) (us:List Value) (kw:List (Str×Value)) :
  Env0 P w K mg base (A.under (.builtin "type.__call__" ⟨.ref C::us,kw⟩)) outer s H:=⟨by first|exact e.frames|(simpa [Around.under,Code.envs,Code.isFrame,pushEnvs] using e.frames),e.mod,e.bs,e.bsz,e.funs,e.frf,e.hok,e.bare⟩
theorem Env0.in1 {P:Program}{w:World}{K:PySem.W.Frag}{mg:Str->Option Value}{base:Heap}{A:Around}{outer:List Env}{s:Shared}{H:Hp}(e:Env0 P w K mg base A outer s H) :
  Env0 P w K mg base A.in1 outer s H:=⟨e.frames,e.mod,e.bs,e.bsz,e.funs,e.frf,e.hok,e.bare⟩
section
variable {X:Cx}{pins:List (Addr×Obj)}{σ:St}{H:Hp}{s s':Shared}
theorem Inv.env0 (I:Inv X pins σ H s):Env0 X.prog X.w X.K X.mg X.base X.A X.stack s H :=
 ⟨I.ok.frames,I.ok.mod,I.bs,Nat.le_trans I.ok.bsz I.sz,I.stack,I.stkFree,I.hok,I.bare⟩
theorem Inv.after {Q:VK}{u:Value}(I:Inv X pins σ H s) (h:CE X.stack X.prog X.w H s Q u s'):EP X pins σ Q u s':=by
 obtain ⟨v,H',os,bare,un,hok,r,q⟩:=h
 obtain ⟨hh,g,d,t,os'⟩:=s'
 obtain rfl:os'=s.os:=os
 exact ⟨v,H',I.call (h':=hh) (g':=g) (d':=d) (t':=t) (ch:=[]) un hok bare (λb z=>absurd z (by simp)),r,q⟩
end
def m3 (sp:Sp) (dvs:List V) (E:XK) (t:TA):TE:=λσ H Q=>t σ H λvs H1=>sp (vs++dvs) H1 Q E
def uN (C:Addr) (sp:Sp) (dvs:List V) (E:XK) (t:TA):TE:=λσ H Q=>t σ H λvs H1=>∀ x dx,H1 x=none->H1 dx=none->dx≠x ->
 sp (.ref x::(vs++dvs)) (upd (upd H1 dx (.own x)) x (.ins C dx [])) (λv H2=>v=.non/\Q (.ref x) H2) E
def ay (K:PySem.W.Frag) (fd:FuncData) (ps:List Str) (ds:List Value):Prop :=
 ∀ (s:Shared) (us:List Value),K.In s.heap->(us++ds).length=ps.length->BindsTo s fd ⟨us,[]⟩ (ps.zip (us++ds))
theorem ay.all {K:PySem.W.Frag}{fd:FuncData}{ps:List Str}(h:∀ us:List Value,us.length=ps.length->bindArgs fd ⟨us,[]⟩=pure (ps.zip us)):ay K fd ps []:=λs us _ hl=>by
 rw [List.append_nil] at hl ⊢
 exact .of_eq (h us hl)
def eB (CX:CXT) (X:Cx) (E:XK):Prop:=∀ (pins:List (Addr×Obj)) (σ:St) (H:Hp) (s:Shared) (e:Value) (s':Shared),Inv X pins σ H s->CX X.stack H s E e s'->X.xe e s'
section
variable {X:Cx}{CX:CXT}{k:Nat}{f C:Addr}{fd:FuncData}{ps:List Str}{sp:Sp}{dvs:List V}{ds:List Value}{E:XK}{x m:Str}{p pos apos:Pos}{e o:Expr}{es:List Expr}{ta:TE}{t:TA}
theorem mB {pins:List (Addr×Obj)}{σ:St}{H:Hp}{s:Shared}{Q:VK}{us:List Value}{vs:List V}(F:FnOk X.prog X.w X.K X.mg X.base CX k f fd ps sp) (hr:Room k X.A) (hb:ay X.K fd ps ds) (hd:al dvs ds) (hx:eB CX X E)
  (I:Inv X pins σ H s) (r:al vs us) (h:sp (vs++dvs) H Q E):wpAny (model X.prog X.w) X.A (call (.ref f) us) (EP X pins σ Q) X.xe s:=by
 have r2:al (vs++dvs) (us++ds):=r.append hd
 have hl:(us++ds).length=ps.length:=by rw [<- r2.length];exact F.len _ _ _ _ h
 refine wpAny_call (codeAny_mono (F.run X.A X.stack s H ⟨us,[]⟩ (us++ds) (vs++dvs) Q E hr I.env0 (hb s us I.kIn hl) r2 h) λr s' hq=>?_)
 cases r with
 |error e=>exact hx pins σ H s e s' I hq
 |ok fl =>
  cases fl with
  |ret u=>exact I.after hq
  |next=>exact False.elim hq
  |brk=>exact False.elim hq
  |cont=>exact False.elim hq
theorem Am (F:FnOk X.prog X.w X.K X.mg X.base CX k f fd ps sp) (hr:Room k X.A) (hg:Gl X x) (hm:X.mg x=some (.ref f)) (hk:PySem.W.keepIn X.K (.ref f)=true) (hb:ay X.K fd ps ds) (hd:al dvs ds) (hx:eB CX X E)
  (ha:PA X (e::es) t) (hdb:(x==("__debug__":Str))=false:=by decide) (he:starEach (e::es) X.env=(false,eval e X.env)::starEach es X.env:=by rfl) (hpl:(backTo pos (starEach es X.env)).any (·.1)=false:=by rfl) :
  PE X (.Call (.Name x p) (e::es) [] pos) (m3 sp dvs E t):=by
 intro pins s σ H Q I h
 refine wpAny_Call_Name_kw (eg I hg hm ?_ hdb)
 refine PySem.W.callWith_K (h₀:=X.base) I.ok.mod.kin hk (thn (ha pos pins s σ H _ I h) λus s1 ⟨vs,H1,I1,r,q⟩=>⟨I1.kIn,?_⟩) he hpl
 exact mB F hr hb hd hx I1 r q
structure Mk (K:PySem.W.Frag) (C f:Addr):Prop where
 makes:PySem.W.makesIn K C=true
 init:PySem.W.findIn K (.ref C) "__init__"=some (some (.ref f))
 fn:PySem.W.isFn K (.ref f)=true
 kp:PySem.W.keepIn K (.ref C)=true
theorem yS {pins:List (Addr×Obj)}{σ:St}{H:Hp}{s:Shared}{Q:VK}{us:List Value}{vs:List V}(M:Mk X.K C f) (F:FnOk X.prog X.w X.K X.mg X.base CX k f fd ps sp) (hr:Room (k+1) X.A) (hb:ay X.K fd ps ds) (hd:al dvs ds)
  (hx:eB CX X E) (I:Inv X pins σ H s) (r:al vs us)
  (h:∀ x dx,H x=none->H dx=none->dx≠x->sp (.ref x::(vs++dvs)) (upd (upd H dx (.own x)) x (.ins C dx [])) (λv H2=>v=.non/\Q (.ref x) H2) E) :
  wpAny (model X.prog X.w) X.A (call (.ref C) us) (EP X pins σ Q) X.xe s:=by
 have hq:=h (s.heap.objs.size+1) s.heap.objs.size (I.hok.fresh (Nat.le_succ _)) (I.hok.fresh (Nat.le_refl _)) (Nat.ne_of_lt (Nat.lt_succ_self _))
 have I2:=Inv.made (C:=C) I
 have r2:al (V.ref (s.heap.objs.size+1)::(vs++dvs)) (Value.ref (s.heap.objs.size+1)::(us++ds)):=.cons rfl (r.append hd)
 have hl:(Value.ref (s.heap.objs.size+1)::us++ds).length=ps.length:=by
  have e:=r2.length
  rw [F.len _ _ _ _ hq] at e
  exact e.symm
 refine wpAny_call (yR (f:=f) I.kIn M.makes M.init (beq_iff_eq.mp M.fn) (codeAny_mono (F.run _ X.stack _ _ ⟨Value.ref (s.heap.objs.size+1)::us,[]⟩ (Value.ref (s.heap.objs.size+1)::(us++ds)) _ _ E (hr.make C us [])
  (I2.env0.make C us []) (hb _ (Value.ref (s.heap.objs.size+1)::us) I2.kIn hl) r2 hq) λr s' hq'=>?_))
 cases r with
 |error e=>exact hx pins σ _ _ e s' I2 hq'
 |ok fl =>
  cases fl with
  |ret u =>
   obtain ⟨v,H',I3,rv,ev,q3⟩:=I2.after hq'
   subst ev
   exact ⟨rv,⟨V.ref (s.heap.objs.size+1),H',I3,rfl,q3⟩⟩
  |next=>exact False.elim hq'
  |brk=>exact False.elim hq'
  |cont=>exact False.elim hq'
theorem yT (M:Mk X.K C f) (F:FnOk X.prog X.w X.K X.mg X.base CX k f fd ps sp) (hr:Room (k+1) X.A) (hg:Gl X x) (hm:X.mg x=some (.ref C)) (hb:ay X.K fd ps ds) (hd:al dvs ds) (hx:eB CX X E)
  (hdb:(x==("__debug__":Str))=false:=by decide):PE X (.Call (.Name x p) [] [] pos) (uN C sp dvs E dn):=by
 intro pins s σ H Q I h
 refine wpAny_Call_Name_kw (eg I hg hm ?_ hdb)
 exact PySem.W.callWith_K0 I.kIn M.kp (yS (us:=[]) M F hr hb hd hx I .nil h)
end
def PK (X:Cx) (kws:List Keyword) (t:TA):Prop :=
 ∀ (pos:Pos) (pins:List (Addr×Obj)) (s:Shared) (σ:St) (H:Hp) (Q:List V->Hp->Prop),Inv X pins σ H s->t σ H Q->wpAny (model X.prog X.w) X.A (evalAll ((backToKw pos (keywordEach kws X.env)).map (·.2))) (AP X pins σ Q) X.xe s
section
variable {X:Cx}{CX:CXT}{k:Nat}{f C:Addr}{fd:FuncData}{ps ks:List Str}{sp:Sp}{E:XK}{x m:Str}{p pos apos kpos:Pos}{e o:Expr}{es:List Expr}{kws:List Keyword}{te ta:TE}{t tk:TA}{nm:Option Str}
theorem sT:PK X [] dn:=λ_ _ _ _ H Q I h=>wpAny_evalAll_nil ⟨[],H,I,.nil,h⟩
theorem re (ha:PE X e te) (hr:PK X kws t):PK X (⟨nm,e,kpos⟩::kws) (j3 te t):=by
 intro pos pins s σ H Q I h
 show wpAny _ _ (evalAll ((do let v <- eval e X.env;standAt pos;pure v)::(backToKw pos (keywordEach kws X.env)).map (·.2))) _ _ s
 refine wpAny_evalAll_cons (wpAny_bind (thn (ha pins s σ H _ I h) λu s1 zz29=>?_))
 obtain ⟨x,H1,I1,r1,q1⟩:=zz29
 refine wpAny_bind (wpAny_standAt (wpAny_pure ?_))
 exact thn (hr pos pins s1 σ H1 _ I1 q1) λus s2 zz30=>by obtain ⟨xs,H2,I2,r2,q2⟩:=zz30;exact ⟨x::xs,H2,I2,.cons r1 r2,q2⟩
structure KBinds (K:PySem.W.Frag) (fd:FuncData) (ps ks:List Str) (g:List Value->List Value->List Value) (gV:List V->List V->List V):Prop where
 to:∀ (s:Shared) (us ws:List Value),K.In s.heap->(g us ws).length=ps.length->BindsTo s fd ⟨us,ks.zip ws⟩ (ps.zip (g us ws))
 rel:∀ {vs:List V}{us:List Value}{zs:List V}{ws:List Value},al vs us->al zs ws->al (gV vs zs) (g us ws)
variable {g:List Value->List Value->List Value}{gV:List V->List V->List V}
end
structure FnScope (N P:List Str) (sc:Scope):Prop where
 kind:sc.kind=.function
 co:sc.isCoroutine=false
 gen:sc.isGenerator=false
 nd:N.Nodup
 pre:N.take P.length=P
 par:∀ x∈P,sc.names.lookup x=some .local\/sc.names.lookup x=some .cell
 nofree:∀ y∈sc.names,y.2≠.free
theorem pG {kindOf:Str->Option NameKind}{x:Str}:∀ {binds:List (Str×Value)}{m:Str->Option Value},(∀ v,(x,v)∉binds)->bindL kindOf binds m x=m x
 |[],_,_=>rfl
 |(n,v)::r,m,h=>by
  unfold bindL
  rw [pG λw hw=>h w (List.mem_cons_of_mem _ hw)]
  split
  ·have:x≠n:=by rintro rfl;exact h v List.mem_cons_self
   simp [this]
  ·rfl
theorem pH {kindOf:Str->Option NameKind}{x:Str}:∀ {binds:List (Str×Value)}{m:Str->Option Value},(∀ v,(x,v)∉binds)->bindC kindOf binds m x=m x
 |[],_,_=>rfl
 |(n,v)::r,m,h=>by
  unfold bindC
  rw [pH λw hw=>h w (List.mem_cons_of_mem _ hw)]
  split
  ·rfl
  ·have:x≠n:=by rintro rfl;exact h v List.mem_cons_self
   simp [this]
theorem pI {kindOf:Str->Option NameKind}{x:Str}{v:Value}:∀ {P:List Str}{vs:List Value}{i:Nat}{m:Str->Option Value},P.Nodup->P[i]?=some x->vs[i]?=some v->kindOf x=some .local ->
  bindL kindOf (P.zip vs) m x=some v
 |[],_,_,_,_,h,_,_=>by simp at h
 |_::_,[],_,_,_,_,h,_=>by simp at h
 |p::P,w::vs,0,m,nd,h1,h2,hk=>by
  simp at h1 h2;subst h1;subst h2
  show bindL kindOf ((p,w)::P.zip vs) m p=_
  unfold bindL
  rw [pG λv hv=>(List.nodup_cons.mp nd).1 (List.of_mem_zip hv).1,if_pos hk]
  simp
 |p::P,w::vs,i+1,m,nd,h1,h2,hk=>by
  show bindL kindOf ((p,w)::P.zip vs) m x=_
  unfold bindL
  exact pI (i:=i) (List.nodup_cons.mp nd).2 (by simpa using h1) (by simpa using h2) hk
theorem pJ {kindOf:Str->Option NameKind}{x:Str}{v:Value}:∀ {P:List Str}{vs:List Value}{i:Nat}{m:Str->Option Value},P.Nodup->P[i]?=some x->vs[i]?=some v->kindOf x≠some .local ->
  bindC kindOf (P.zip vs) m x=some v
 |[],_,_,_,_,h,_,_=>by simp at h
 |_::_,[],_,_,_,_,h,_=>by simp at h
 |p::P,w::vs,0,m,nd,h1,h2,hk=>by
  simp at h1 h2;subst h1;subst h2
  show bindC kindOf ((p,w)::P.zip vs) m p=_
  unfold bindC
  rw [pH λv hv=>(List.nodup_cons.mp nd).1 (List.of_mem_zip hv).1,if_neg hk]
  simp
 |p::P,w::vs,i+1,m,nd,h1,h2,hk=>by
  show bindC kindOf ((p,w)::P.zip vs) m x=_
  unfold bindC
  exact pJ (i:=i) (List.nodup_cons.mp nd).2 (by simpa using h1) (by simpa using h2) hk
def bO (N:List Str) (vs:List V):St:=vs.map some++List.replicate (N.length - vs.length) none
def cq (CX:CXT) (P:Program) (w:World) (K:PySem.W.Frag) (mg:Str->Option Value) (base:Heap) (N:List Str) (qual:Str) (scope:Scope) (f:Addr) (cd:Value) (A:Around) (outer:List Env) (s:Shared) (H:Hp) (E:XK):Cx where
 prog:=P
 w:=w
 K:=K
 mg:=mg
 base:=base
 A:=A.deeper (envOfC qual scope s.heap.objs.size f cd)
 N:=N
 s₀:=s
 H₀:=H
 env:=envOfC qual scope s.heap.objs.size f cd
 outer:=outer
 stack:=envOfC qual scope s.heap.objs.size f cd::outer
 ex:=[]
 calm:=true
 fn:=λ_=>true
 pn:=[]
 xe:=λe s'=>wpAny (model P w) (A.deeper (envOfC qual scope s.heap.objs.size f cd)) (leaving (envOfC qual scope s.heap.objs.size f cd) e) (λ_ s''=>CX outer H s E e s'') (λe' s''=>CX outer H s E e' s'') s'
theorem qc {sc:Scope}{n:Nat}{x:Str}(h:sc.names.lookup x=some .cell):∃ c,(cellsFrom n sc.names []).lookup x=some c:=by
 have q:=PySem.W.cellsFrom_some sc.names n [] (.inl h)
 exact Option.isSome_iff_exists.mp q
theorem xV {CX:CXT}{P:Program}{w:World}{K:PySem.W.Frag}{mg:Str->Option Value}{base:Heap}{N ps:List Str}{qual:Str}{scope:Scope}{f:Addr}{cd:Value}{A:Around}{outer:List Env}{s s1:Shared}{H:Hp}{E:XK}{us:List Value}{vs:List V}
  (S:FnScope N ps scope) (hd:A.handled=none) (e0:Env0 P w K mg base A outer s H) (hl:vs.length=ps.length) (r:al vs us)
  (x:InCallC s s.heap.objs.size (bindL (envOfC qual scope s.heap.objs.size f cd).kindOf (ps.zip us) λ_=>none) (cellsFrom (s.heap.objs.size+1) scope.names []) (bindC (envOfC qual scope s.heap.objs.size f cd).kindOf (ps.zip us) λ_=>none) s1) :
  Inv (cq CX P w K mg base N qual scope f cd A outer s H E) [] (bO N vs) H s1:=by
 have hpl:ps.length<=N.length:=by have:=congrArg List.length S.pre;rw [List.length_take] at this;omega
 obtain ⟨h1,tk,rfl,hk⟩:=x.done
 have noA:∀ b:Addr,b∉(cq CX P w K mg base N qual scope f cd A outer s H E).ex:=λb z=>absurd (show b∈([]:List Addr) from z) (by simp)
 refine ⟨⟨e0.mod,S.kind,rfl,rfl,Nat.le_refl _,λy z c h1 h2=>?_,λy hy=>?_,λy c _ h=>?_,λ_=>hd,Around.frames_deeper e0.frames,.inr ⟨rfl,rfl⟩,λb z=>absurd z (noA b),e0.bs,e0.bsz,λb _ _=>noA b,λb z=>absurd z (noA b),e0.funs,e0.frf⟩,
  rfl,e0.bare,Un.kept hk,⟨_,x.toInCall.ns,λi y v h1 h2 h3=>?_⟩,λy c h=>⟨_,x.cell y c h⟩,e0.hok.fresh (Nat.le_refl _),λy c h=>?_,λp hp=>absurd (show p∈([]:List (Addr×Obj)) from hp) (by simp),e0.hok.kept hk,?_⟩
 ·exact name_of_addr x.apart (PySem.mem_of_lookup h1) (PySem.mem_of_lookup h2)
 ·have hy:scope.names.lookup y=some .cell\/scope.names.lookup y=some .free:=hy
  rcases hy with hy|hy
  ·exact qc hy
  ·exact absurd rfl (S.nofree _ (PySem.mem_of_lookup hy))
 ·exact Nat.le_of_lt (x.above y c (PySem.mem_of_lookup h))
 ·have hi:i<vs.length:=by
   unfold bO at h2
   by_cases hi:i<vs.length
   ·exact hi
   ·rw [List.getElem?_append_right (by simpa using hi)] at h2
    rw [List.getElem?_replicate] at h2
    split at h2<;>cases h2
  have ha:vs[i]?=some v:=by
   unfold bO at h2
   rw [List.getElem?_append_left (by simpa using hi),List.getElem?_map] at h2
   cases e:vs[i]? with
   |none=>rw [e] at h2;cases h2
   |some a=>rw [e] at h2;cases h2;rfl
  obtain ⟨u,hu,rv⟩:=r.get ha
  have hp:ps[i]?=some y:=by
   rw [<- S.pre,List.getElem?_take_of_lt (by omega)];exact h1
  have ndP:ps.Nodup:=by rw [<- S.pre];exact S.nd.sublist (List.take_sublist _ _)
  refine ⟨u,rv,?_⟩
  rcases S.par y (List.mem_of_getElem? hp) with k|k
  ·exact .inl ⟨k,pI ndP hp hu k⟩
  ·obtain ⟨c,e⟩:=qc (n:=s.heap.objs.size+1) k
   refine .inr ⟨.inl k,c,e,?_⟩
   have q:=x.cell y c e
   rw [pJ ndP hp hu (by show scope.names.lookup y≠_;rw [k];decide)] at q
   exact q
 ·exact e0.hok.fresh (Nat.le_of_lt (x.above y c (PySem.mem_of_lookup h)))
 ·unfold bO
  show _=N.length
  rw [List.length_append,List.length_map,List.length_replicate]
  omega
theorem m5 {CX:CXT}{P:Program}{w:World}{K:PySem.W.Frag}{mg:Str->Option Value}{base:Heap}{k:Nat}{f:Addr}{name qual:Str}{params:Arguments}{body:List Stmt}{scope:Scope}{dV kV doc pm cdv ct oc:Value}{an od:Option Addr}
  {osl:Array (Option Value)}{N ps:List Str}{sp:Sp}(lk:K.lookup f=some ⟨oc,od,.func (PySem.W.fnOf name qual params body scope dV kV doc pm an cdv ct),osl⟩) (hcd:PySem.W.codeIn K cdv qual=true) (S:FnScope N ps scope)
  (len:∀ vs H Q E,sp vs H Q E->vs.length=ps.length)
  (hbody:∀ (A:Around) (outer:List Env) (s:Shared) (H:Hp) (vs:List V) (Q:VK) (E:XK),Room k (A.deeper (envOfC qual scope s.heap.objs.size f cdv))->sp vs H Q E ->
   ∃ t,PSs (cq CX P w K mg base N qual scope f cdv A outer s H E) body t/\t { nx:=λ_ H'=>Q .non H',rt:=Q } (bO N vs) H) :
  FnOk P w K mg base CX (k+1) f (PySem.W.fnOf name qual params body scope dV kV doc pm an cdv ct) ps sp:=by
 refine ⟨len,λA outer s H args us vs Q E hr e0 hb r hsp=>?_⟩
 have hl:=len _ _ _ _ hsp
 have KX:K.In s.heap:=e0.mod.kin.keeps λb o e=>(e0.bs b o e).1
 have lim:s.heap.NoLimit:=e0.mod.nolimit.keeps λb o e=>(e0.bs b o e).1
 have hkind:∀ y∈ps.zip us,scope.names.lookup y.1=some .local\/(scope.names.lookup y.1=some .cell/\((cellsFrom (s.heap.objs.size+1) scope.names []).lookup y.1).isSome=true):=λzz31 hy=>by
  obtain ⟨n,v⟩:=zz31
  rcases S.par n (List.of_mem_zip hy).1 with q|q
  ·exact .inl q
  ·exact .inr ⟨q,PySem.W.cellsFrom_some _ _ _ (.inl q)⟩
 refine codeAny_call_function hr.depth (KX _ _ lk) rfl S.co S.gen rfl (PySem.W.codeRec_of KX hcd) (hb _ _ _ _ ?_)
 refine wpAny_newFunctionEnv_cells S.kind hkind λenv he s1 x=>?_
 subst he
 refine ⟨lim.keeps x.toInCall.keep,codeAny_func ?_⟩
 obtain ⟨t,ht,hq⟩:=hbody A outer s H vs Q E (hr.deeper _) hsp
 have I:Inv (cq CX P w K mg base N qual scope f cdv A outer s H E) [] (bO N vs) H s1:=xV S hr.hd e0 hl r x
 refine wpAny_mono (ht [] s1 (bO N vs) H _ I hq) (λfl s' hs=>?_) λe s' hs=>hs
 have fin:∀ {σ':St}{H':Hp}{v:V}{u:Value},Inv (cq CX P w K mg base N qual scope f cdv A outer s H E) [] σ' H' s'->aq v u->Q v H'->CE outer P w H s Q u s' :=
  fun {σ' H' v u} J rv q=>⟨v,H',J.os,J.bare,J.base,J.hok,rv,q⟩
 cases fl with
 |ret u =>
  obtain ⟨v,σ',H',J,rv,q⟩:=hs
  exact fin J rv q
 |next =>
  obtain ⟨σ',H',J,q⟩:=hs
  exact fin (v:=V.non) (u:=Value.none) J rfl q
 |brk =>
  obtain ⟨_,_,_,q⟩:=hs
  exact False.elim q
 |cont =>
  obtain ⟨_,_,_,q⟩:=hs
  exact False.elim q
section
variable {X:Cx}{x:Str}{p pos:Pos}{e:Expr}{es:List Expr}{t:TA}{id T:String}{r:List V->Hp->VK->Prop}
def tCB (r:List V->Hp->VK->Prop) (t:TA):TE:=λσ H Q=>t σ H λvs H1=>r vs H1 Q
theorem yU (hc:aX X (.builtin id) r) (hg:Gl X x) (hm:X.mg x=none) (hv:bootBuiltins x=some (.builtin id)) (ha:PA X (e::es) t) (hn:x ≠ "__name__":=by decide) (hdb:(x==("__debug__":Str))=false:=by decide)
  (he:starEach (e::es) X.env=(false,eval e X.env)::starEach es X.env:=by rfl) (hpl:(backTo pos (starEach es X.env)).any (·.1)=false:=by rfl):PE X (.Call (.Name x p) (e::es) [] pos) (tCB r t):=by
 intro pins s σ H Q I h
 refine wpAny_Call_Name_kw (hJ I hg hm hv ?_ hn hdb)
 exact PyProof.Rows.callWith_builtin1 (thn (ha pos pins s σ H _ I h) λus s1 zz32=>by obtain ⟨vs,H1,I1,r1,q1⟩:=zz32;exact hc pins s1 σ H1 vs us Q I1 r1 q1) he hpl
theorem xW (hc:aX X (.type T) r) (hg:Gl X x) (hm:X.mg x=none) (hv:bootBuiltins x=some (.type T)) (ha:PA X (e::es) t) (hn:x ≠ "__name__":=by decide) (hdb:(x==("__debug__":Str))=false:=by decide)
  (he:starEach (e::es) X.env=(false,eval e X.env)::starEach es X.env:=by rfl) (hpl:(backTo pos (starEach es X.env)).any (·.1)=false:=by rfl):PE X (.Call (.Name x p) (e::es) [] pos) (tCB r t):=by
 intro pins s σ H Q I h
 refine wpAny_Call_Name_kw (hJ I hg hm hv ?_ hn hdb)
 exact PyProof.Rows.callWith_type1 (thn (ha pos pins s σ H _ I h) λus s1 zz33=>by obtain ⟨vs,H1,I1,r1,q1⟩:=zz33;exact hc pins s1 σ H1 vs us Q I1 r1 q1) he hpl
end
end L2
namespace HT
open PySem PyProof.Rows
section
open PySem.SeqAt
open PySem.AutoSeq1 (wpAny_loadPart')
open PySem.MeetsSeq PySem.MeetsSeq2 PySem.MeetsSeq3
end
section
variable {prog:Program}{w:World}{A:Around}{E:Value->Shared->Prop}{s:Shared}
def sIx (n d:Nat):Option Int->Nat
 |none=>d
 |some v=>if v<0 then (v+(n:Int)).toNat else min v.toNat n
theorem sIx_none (n d:Nat):sIx n d none=d:=rfl
theorem sIx_nat (n d k:Nat):sIx n d (some (k:Int))=min k n:=by
 show (if (k:Int)<0 then ((k:Int)+(n:Int)).toNat else min (k:Int).toNat n)=min k n
 rw [if_neg (by omega),Int.toNat_natCast]
end
end HT
namespace L2
open PySem PySem.Spec PyProof.Rows
abbrev TO:=St->Hp->(Option Int->Hp->Prop)->Prop
def PO (X:Cx) (e:Option Expr) (t:TO):Prop :=
 ∀ (pins:List (Addr×Obj)) (s:Shared) (σ:St) (H:Hp) (Q:Option Int->Hp->Prop),Inv X pins σ H s->t σ H Q ->
  wpAny (model X.prog X.w) X.A (evalPart e X.env) (λu s'=>∃ o H',Inv X pins σ H' s'/\IsPart u o/\Q o H') X.xe s
def An:TO:=λ_ H Q=>Q none H
def EF (t:TE):TO:=λσ H Q=>t σ H λx H1=>∃ i,x=.int i/\Q (some i) H1
section
variable {X:Cx}{e:Expr}{te:TE}{lo hi:Option Expr}{tl th:TO}{pos p2:Pos}
theorem Ao:PO X none An:=by
 intro pins s σ H Q I h
 rw [evalPart_none]
 exact wpAny_pure ⟨none,H,I,.none,h⟩
theorem Ap (h:PE X e te):PO X (some e) (EF te):=by
 intro pins s σ H Q I hw
 rw [evalPart_some]
 refine thn (h pins s σ H _ I hw) λu s1 zz34=>?_
 obtain ⟨x,H1,I1,r1,q1⟩:=zz34
 obtain ⟨i,rfl,q⟩:=q1
 obtain ⟨t,rfl⟩:=r1
 exact ⟨some i,H1,I1,.int i t,q⟩
def SlR (X:Cx) (r:V->Option Int->Option Int->Hp->VK->Prop):Prop :=
 ∀ (pins:List (Addr×Obj)) (s:Shared) (σ:St) (H:Hp) (x:V) (v vl vu:Value) (lo hi:Option Int) (sl:Addr) (Q:VK),Inv X pins σ H s->aq x v->s.heap.IsSliceOf sl vl vu .none->IsPart vl lo->IsPart vu hi->r x lo hi H Q ->
  ∃ T id,typeLookup (.type T) "__getitem__"=pure (some (.builtin id))/\s.TypeIs v T/\wpAny (model X.prog X.w) X.A (getItem v (.ref sl)) (EP X pins σ Q) X.xe s
def tSl (r:V->Option Int->Option Int->Hp->VK->Prop) (te:TE) (tl th:TO):TE:=λσ H Q=>te σ H λx H1=>tl σ H1 λl H2=>th σ H2 λu H3=>r x l u H3 Q
theorem yV {r:V->Option Int->Option Int->Hp->VK->Prop}(hr:SlR X r) (he:PE X e te) (hl:PO X lo tl) (hu:PO X hi th):PE X (.Subscript e (.Slice lo hi none p2) pos) (tSl r te tl th):=by
 intro pins s σ H Q I h
 refine Subscript_ (thn (he pins s σ H _ I h) λv s1 zz35=>?_)
 obtain ⟨x,H1,I1,r1,q1⟩:=zz35
 refine wpAny_Slice (thn (hl pins s1 σ H1 _ I1 q1) λvl s2 zz36=>?_)
 obtain ⟨l,H2,I2,pl,q2⟩:=zz36
 refine thn (hu pins s2 σ H2 _ I2 q2) λvu s3 zz37=>?_
 obtain ⟨u,H3,I3,pu,q3⟩:=zz37
 rw [evalPart_none]
 refine wpAny_pure ?_
 have I4:Inv X pins σ H3 { s3 with heap:=s3.heap.push { cls:=.type "slice",data:=.fields #[vl,vu,.none] } }:=I3.kept (t':=s3.toks) λb ob q=>Heap.get?_push_of_some _ q
 obtain ⟨T,id,hT,ht,hg⟩:=hr pins { s3 with heap:=s3.heap.push { cls:=.type "slice",data:=.fields #[vl,vu,.none] } } σ H3 x v vl vu l u s3.heap.objs.size Q I4 r1 (Heap.IsSliceOf.new ..) pl pu q3
 show wpAny (model X.prog X.w) X.A (subscriptTail e (.Slice lo hi none p2) v (.ref s3.heap.objs.size)) (EP X pins σ Q) X.xe { s3 with heap:=s3.heap.push { cls:=.type "slice",data:=.fields #[vl,vu,.none] } }
 exact tail_any (ops:=[.ref s3.heap.objs.size,v]) ht hT hg (by with_unfolding_all rfl)
def gD (xs:List V) (lo hi:Option Int):List V:=(xs.drop (HT.sIx xs.length 0 lo)).take (HT.sIx xs.length xs.length hi - HT.sIx xs.length 0 lo)
theorem xl (xs:List V) (lo hi:Option Int):(gD xs lo hi).length<=xs.length:=by
 unfold gD
 rw [List.length_take,List.length_drop]
 omega
end
def ixN (n:Nat) (i:Int):Option Nat:=if 0<=i then (if i<n then some i.toNat else none) else if -(n:Int)<=i then some (i+n).toNat else none
def atI {α:Type}(xs:List α) (i:Int):Option α:=(ixN xs.length i).bind λj=>xs[j]?
theorem rg {n:Nat}{i:Int}{j:Nat}(h:ixN n i=some j):seqIndex? i n=some j/\j<n /\ -(n:Int)<=i/\i<n:=by
 unfold ixN at h
 by_cases h0:0<=i
 ·rw [if_pos h0] at h
  by_cases h1:i<n
  ·rw [if_pos h1] at h
   have e:i.toNat=j:=Option.some.inj h
   exact ⟨by rw [seqIndex_of h0 h1,e],by omega,by omega,h1⟩
  ·rw [if_neg h1] at h;cases h
 ·rw [if_neg h0] at h
  by_cases h1:-(n:Int)<=i
  ·rw [if_pos h1] at h
   have e:(i+n).toNat=j:=Option.some.inj h
   exact ⟨by rw [seqIndex_neg (by omega) h1,e],by omega,h1,by omega⟩
  ·rw [if_neg h1] at h;cases h
theorem lN {α:Type}{xs:List α}{i:Int}{v:α}(h:atI xs i=some v):∃ j,seqIndex? i xs.length=some j/\xs[j]?=some v/\j<xs.length /\ -(xs.length:Int)<=i/\i<xs.length:=by
 unfold atI at h
 cases e:ixN xs.length i with
 |none=>rw [e] at h;cases h
 |some j =>
  rw [e] at h
  obtain ⟨h1,h2,h3,h4⟩:=rg e
  exact ⟨j,h1,h,h2,h3,h4⟩
theorem Aq {α:Type}{xs:List α}{j:Nat}{v:α}(h:xs[j]?=some v):atI xs (j:Int)=some v:=by
 have hj:j<xs.length:=(List.getElem?_eq_some_iff.mp h).1
 have e:ixN xs.length (j:Int)=some j:=by
  unfold ixN
  rw [if_pos (by omega),if_pos (by omega)];simp
 unfold atI;rw [e];exact h
def rh (b:Expr):Prop:=∀ o i,subscripted b false o i=operate [o,i] (getItem o i)
def IxR (X:Cx) (r:R2):Prop :=
 ∀ (value slice:Expr) (pins:List (Addr×Obj)) (s:Shared) (σ:St) (H:Hp) (x y:V) (v u:Value) (Q:VK),Inv X pins σ H s->aq x v->aq y u->r x y H Q ->
  subscripted slice false v u=operate [v,u] (getItem v u)->wpAny (model X.prog X.w) X.A (subscriptTail value slice v u) (EP X pins σ Q) X.xe s
def MtR (X:Cx) (id:String) (r:V->List V->Hp->VK->Prop):Prop :=
 ∀ (pins:List (Addr×Obj)) (s:Shared) (σ:St) (H:Hp) (x:V) (xs:List V) (v:Value) (us:List Value) (Q:VK),Inv X pins σ H s->aq x v->al xs us->r x xs H Q ->
  wpAny (model X.prog X.w) X.A (call (.builtin id) (v::us)) (EP X pins σ Q) X.xe s
section
variable {X:Cx}{a b:Expr}{ta tb:TE}{pos:Pos}
theorem EG {r:R2}(hr:IxR X r) (ha:PE X a ta) (hb:PE X b tb) (hs:rh b):PE X (.Subscript a b pos) (tOp r ta tb):=by
 intro pins s σ H Q I h
 exact Subscript_ (nF ha hb I h λv u s2 x y H2 I2 rx ry q=>hr a b pins s2 σ H2 x y v u Q I2 rx ry q (hs _ _))
def G8 (K:PySem.W.Frag):R2:=λx y H Q=>∃ p xs i v,x=.ref p/\y=.int i/\SqL K H p xs/\atI xs i=some v/\Q v H
def G9 (K:PySem.W.Frag):R2:=λx y H Q=>∃ p xs i v,x=.ref p/\y=.int i/\SqT K H p xs/\atI xs i=some v/\Q v H
def G':R2:=λx y H Q=>∃ z i c,x=.str z/\y=.int i/\z.length<=sizeLine/\atI z.cps.toList i=some c/\Q (.str ⟨#[c]⟩) H
theorem Ar:IxR X (G8 X.K):=by
 intro value slice pins s σ H x y v u Q I rx ry h hs
 obtain ⟨p,xs,i,z,rfl,rfl,hq,he,q⟩:=h
 cases rx
 obtain ⟨t,rfl⟩:=ry
 obtain ⟨its,r,pl,hz⟩:=I.list hq
 obtain ⟨j,h1,h2,h3,h4,h5⟩:=lN he
 obtain ⟨w,ew,rw'⟩:=r.get h2
 have hl:=r.length
 have hn:=eA
 have fin:EP X pins σ Q w s:=⟨z,H,I,rw',q⟩
 by_cases h0:0<=i
 ·have hj:i.toNat=j:=by
   rw [seqIndex_of h0 h5] at h1
   exact Option.some.inj h1
  exact item_listR pl.isList h0 (by omega) (by rw [hj];simpa using ew) fin hs
 ·have hj:(i+(its.toArray.size:Int)).toNat=j:=by
   rw [seqIndex_neg (by omega) h4] at h1
   rw [List.size_toArray,<- hl]
   exact Option.some.inj h1
  exact subscriptTail_builtinR (x:=w) pl.isList.typeIs slot_list_getitem.lookup
   (wpAny_getItem_list_neg (Q:=λr s'=>r=w/\EP X pins σ Q r s') pl.isList (by omega) (by rw [List.size_toArray]<;>omega) (by omega) (by rw [hj];simpa using ew) ⟨rfl,fin⟩) hs
theorem Cz:IxR X (G9 X.K):=by
 intro value slice pins s σ H x y v u Q I rx ry h hs
 obtain ⟨p,xs,i,z,rfl,rfl,hq,he,q⟩:=h
 cases rx
 obtain ⟨t,rfl⟩:=ry
 obtain ⟨its,r,pl,hz⟩:=I.tuple hq
 obtain ⟨j,h1,h2,h3,h4,h5⟩:=lN he
 obtain ⟨w,ew,rw'⟩:=r.get h2
 have hl:=r.length
 have hn:=eA
 have fin:EP X pins σ Q w s:=⟨z,H,I,rw',q⟩
 exact subscriptTail_builtinR (x:=w) pl.typeIs slot_tuple_getitem.lookup
  (getItem_tuple (j:=j) (Q:=λr s'=>r=w/\EP X pins σ Q r s') pl (by omega) (by omega) (by rw [List.size_toArray,<- hl];exact h1) (by simpa using ew) ⟨rfl,fin⟩) hs
theorem CA:IxR X G':=by
 intro value slice pins s σ H x y v u Q I rx ry h hs
 obtain ⟨z,i,c,rfl,rfl,hz,he,q⟩:=h
 obtain ⟨t,rfl⟩:=rx
 obtain ⟨t',rfl⟩:=ry
 obtain ⟨j,h1,h2,h3,h4,h5⟩:=lN he
 have hl:z.cps.toList.length=z.length:=by simp [Str.length]
 rw [hl] at h1 h4 h5
 have hn:=eA
 exact tail_any (typeIs_str s z t) slot_str_getitem.lookup (getItem_str (c:=c) (by
  have e1:decide (i < -(2 ^ 63:Int))=false:=decide_eq_false (by omega)
  have e2:decide (i≥2 ^ 63)=false:=decide_eq_false (by omega)
  rw [e1,e2,Bool.or_false]) (by rw [h1];simpa using h2) ⟨.str ⟨#[c]⟩,H,I.tok _,⟨_,rfl⟩,q⟩) hs
theorem xx (its:List Value) (n j:Nat) (u:Value):Obj.mapSeq (·.setIfInBounds j u) { cls:=.type "list",data:=.seq its.toArray n }={ cls:=.type "list",data:=.seq (its.set j u).toArray n }:=by
 simp [Obj.mapSeq]
theorem Inv.lst {pins:List (Addr×Obj)}{σ:St}{H:Hp}{s:Shared}{p:Addr}{xs:List V}(I:Inv X pins σ H s) (h:H p=some (.lst xs)) :
  ∃ (its:List Value) (n:Nat),al xs its/\s.heap.get? p=some { cls:=.type "list",data:=.seq its.toArray n }/\xs.length<=sizeLine:=by
 obtain ⟨z,its,n,r,e⟩:=I.hok p _ h
 exact ⟨its,n,r,e,z⟩
theorem Inv.lstUpd {pins:List (Addr×Obj)}{σ:St}{H:Hp}{s:Shared}{p:Addr}{xs ys:List V}{its its':List Value}{n n':Nat}{f:Obj->Obj}(I:Inv X pins σ H s) (h:H p=some (.lst xs))
  (ho:s.heap.get? p=some { cls:=.type "list",data:=.seq its.toArray n }) (hf:f { cls:=.type "list",data:=.seq its.toArray n }={ cls:=.type "list",data:=.seq its'.toArray n' }) (r:al ys its') (hz:ys.length<=sizeLine) (t:Nat) :
  Inv X pins σ (upd H p (.lst ys)) { s with heap:=s.heap.update p f,toks:=t }:=by
 have e:(s.heap.update p f).get? p=some { cls:=.type "list",data:=.seq its'.toArray n' }:=by
  rw [Heap.get?_update_self f ho (by rw [hf]<;>rfl),hf]
 refine I.write (x:=p) (e:=p) (by rw [h];trivial) (.inl rfl) (λb u hb q=>(Heap.get?_update_other _ _ (Ne.symm hb)).trans q) ⟨_,e⟩ ?_
 exact ⟨hz,its',n',r,e⟩
def EH:V->V->V->Hp->(Hp->Prop)->Prop:=λo i v H Q=>∃ p xs k j,o=.ref p/\i=.int k/\H p=some (.lst xs)/\ixN xs.length k=some j/\Q (upd H p (.lst (xs.set j v)))
theorem yW:eP X EH:=by
 intro pins s σ H o i v ov iv u Q I ro ri rv h
 obtain ⟨p,xs,k,j,rfl,rfl,hp,hj,q⟩:=h
 cases ro
 obtain ⟨t,rfl⟩:=ri
 obtain ⟨its,n,r,ho,hz⟩:=I.lst hp
 obtain ⟨h1,h2,h3,h4⟩:=rg hj
 have hl:=r.length
 have hn:=eA
 have I':Inv X pins σ (upd H p (.lst (xs.set j v))) { s with heap:=s.heap.update p (Obj.mapSeq (·.setIfInBounds j u)) } :=
  I.lstUpd hp ho (xx its n j u) (r.set rv j) (by rw [List.length_set];exact hz) s.toks
 by_cases h0:0<=k
 ·have hk:k.toNat=j:=by
   rw [seqIndex_of h0 h4] at h1
   exact Option.some.inj h1
  exact PySem.W.ki_setAt ho h0 (by omega) (by rw [List.size_toArray,<- hl];exact h4) (by rw [hk];exact ⟨_,I',q⟩)
 ·have hk:(k+(its.toArray.size:Int)).toNat=j:=by
   rw [seqIndex_neg (by omega) h3] at h1
   rw [List.size_toArray,<- hl]
   exact Option.some.inj h1
  exact PySem.W.ki_setBack ho (by omega) (by rw [List.size_toArray,<- hl];exact h3) (by omega) (by rw [hk];exact ⟨_,I',q⟩)
theorem xb (lo hi:Option Int) (n:Nat):(sliceBounds lo hi none n).1=((HT.sIx n 0 lo:Nat):Int)/\(sliceBounds lo hi none n).2.1=((HT.sIx n n hi:Nat):Int)/\(sliceBounds lo hi none n).2.2=1:=by
 refine ⟨?_,?_,rfl⟩
 ·cases lo with
  |none=>simp [sliceBounds,HT.sIx]
  |some i =>
   simp only [sliceBounds,HT.sIx,Option.getD_none,show (1:Int)>0 by decide,if_true]
   by_cases h:i<0
   ·simp only [h,if_true]<;>omega
   ·simp only [h,if_false]<;>omega
 ·cases hi with
  |none=>simp [sliceBounds,HT.sIx]
  |some i =>
   simp only [sliceBounds,HT.sIx,Option.getD_none,show (1:Int)>0 by decide,if_true]
   by_cases h:i<0
   ·simp only [h,if_true]<;>omega
   ·simp only [h,if_false]<;>omega
theorem wZ (its:List Value) (lo hi:Option Int):slicePick its.toArray lo hi none=((its.drop (HT.sIx its.length 0 lo)).take (HT.sIx its.length its.length hi - HT.sIx its.length 0 lo)).toArray:=by
 obtain ⟨h1,h2,h3⟩:=xb lo hi its.toArray.size
 unfold slicePick
 rw [h1,h2,h3]
 simp only [sliceRange_one,pick_run,List.size_toArray]<;>rfl
def vU (K:PySem.W.Frag):V->Option Int->Option Int->Hp->VK->Prop:=λx lo hi H Q=>∃ a xs,x=.ref a/\SqL K H a xs/\∀ p,H p=none->Q (.ref p) (upd H p (.lst (gD xs lo hi)))
theorem Au:SlR X (vU X.K):=by
 intro pins s σ H x v vl vu lo hi sl Q I rx hs pl pu h
 obtain ⟨a,xs,rfl,hx,q⟩:=h
 cases rx
 obtain ⟨its,r,ht,hz⟩:=I.list hx
 have hlen:=r.length
 refine ⟨"list",_,slot_list_getitem.lookup,ht.isList.typeIs,?_⟩
 refine wpAny_getItem_list_slice ht.isList hs pl pu .none (by simp) ?_ (by rw [List.size_toArray]<;>omega)
 rw [wZ,<- hlen]
 refine ⟨.ref s.heap.objs.size,_,I.laid (t':=s.toks) (o:=.lst (gD xs lo hi)) (λb ob q=>Heap.get?_push_of_some _ q) (Nat.le_refl _) ?_,rfl,q _ (I.hok.fresh (Nat.le_refl _))⟩
 exact ⟨Nat.le_trans (xl xs lo hi) hz,_,0,(r.drop (HT.sIx xs.length 0 lo)).take (HT.sIx xs.length xs.length hi - HT.sIx xs.length 0 lo),Heap.get?_push_size _ rfl⟩
def cK:V->Bool
 |.non=>true
 |.bl _=>true
 |.int _=>true
 |.str _=>true
 |_=>false
def eqV:V->V->Bool
 |.non,.non=>true
 |.bl a,.bl b=>a==b
 |.bl a,.int b=>(if a then 1 else 0)==b
 |.int a,.bl b=>a==(if b then 1 else 0)
 |.int a,.int b=>a==b
 |.str a,.str b=>a==b
 |_,_=>false
theorem CB {A:Around}{s:Shared}{y x:V}{u v:Value}(ry:aq y u) (rx:aq x v) (fy:cK y=true) (fx:cK x=true):SeqAt.EqAt A s u v (eqV y x):=by
 cases y with
 |non =>
  cases ry
  cases x with
  |non=>cases rx;exact SeqAt.EqAt.same _
  |bl b=>cases rx;exact SeqAt.EqAt.none_bool b
  |int b=>obtain ⟨t,rfl⟩:=rx;exact SeqAt.EqAt.none_int b t
  |str b=>obtain ⟨t,rfl⟩:=rx;exact SeqAt.EqAt.none_str b t
  |_=>exact absurd (show false=true from fx) Bool.false_ne_true
 |bl a =>
  cases ry
  cases x with
  |non=>cases rx;exact SeqAt.EqAt.bool_none a
  |bl b=>cases rx;exact SeqAt.EqAt.bool_bool a b
  |int b=>obtain ⟨t,rfl⟩:=rx;exact SeqAt.EqAt.bool_int a b t
  |str b=>obtain ⟨t,rfl⟩:=rx;exact SeqAt.EqAt.bool_str a b t
  |_=>exact absurd (show false=true from fx) Bool.false_ne_true
 |int a =>
  obtain ⟨t',rfl⟩:=ry
  cases x with
  |non=>cases rx;exact SeqAt.EqAt.int_none a t'
  |bl b=>cases rx;exact SeqAt.EqAt.int_bool a t' b
  |int b=>obtain ⟨t,rfl⟩:=rx;exact SeqAt.EqAt.int_int a t' b t
  |str b=>obtain ⟨t,rfl⟩:=rx;exact SeqAt.EqAt.int_str a t' b t
  |_=>exact absurd (show false=true from fx) Bool.false_ne_true
 |str a =>
  obtain ⟨t',rfl⟩:=ry
  cases x with
  |non=>cases rx;exact SeqAt.EqAt.str_none a t'
  |bl b=>cases rx;exact SeqAt.EqAt.str_bool a t' b
  |int b=>obtain ⟨t,rfl⟩:=rx;exact SeqAt.EqAt.str_int a t' b t
  |str b=>obtain ⟨t,rfl⟩:=rx;exact SeqAt.EqAt.str_str a t' b t
  |_=>exact absurd (show false=true from fx) Bool.false_ne_true
 |_=>exact absurd (show false=true from fy) Bool.false_ne_true
def eqU (x:V) (u:Value):Bool:=match u with
 |.none=>eqV .non x
 |.bool b=>eqV (.bl b) x
 |.int i _=>eqV (.int i) x
 |.str z _=>eqV (.str z) x
 |_=>false
theorem sU {x y:V}{u:Value}(r:aq y u) (f:cK y=true):eqU x u=eqV y x:=by
 cases y with
 |non=>cases r;rfl
 |bl b=>cases r;rfl
 |int i=>obtain ⟨t,rfl⟩:=r;rfl
 |str z=>obtain ⟨t,rfl⟩:=r;rfl
 |_=>exact absurd (show false=true from f) Bool.false_ne_true
theorem gZ {x:V}:∀ {xs:List V}{us:List Value},al xs us->xs.all cK=true->us.any (eqU x)=xs.any λy=>eqV y x
 |_,_,.nil,_=>rfl
 |y::xs,u::us,.cons r t,f=>by
  rw [List.all_cons,Bool.and_eq_true] at f
  rw [List.any_cons,List.any_cons,sU r f.1,gZ t f.2]
theorem gQ {A:Around}{s:Shared}{x:V}{v:Value}(rx:aq x v) (fx:cK x=true):∀ {xs:List V}{us:List Value},al xs us->xs.all cK=true->∀ u∈us,SeqAt.EqAt A s u v (eqU x u)
 |_,_,.nil,_=>λu hu=>by cases hu
 |y::xs,u::us,.cons r t,f=>λu' hu=>by
  rw [List.all_cons,Bool.and_eq_true] at f
  rcases List.mem_cons.mp hu with rfl|hu
  ·rw [sU r f.1];exact CB r rx f.1 fx
  ·exact gQ rx fx t f.2 u' hu
def inV (x:V) (xs:List V):Bool:=xs.any λy=>eqV y x
def rIn (K:PySem.W.Frag) (neg:Bool):R2:=λx y H Q=>∃ p xs,y=.ref p/\(SqL K H p xs\/SqT K H p xs)/\cK x=true/\xs.all cK=true/\Q (.bl (if neg then !inV x xs else inV x xs)) H
theorem pK:OpR X (compareOp .In) (rIn X.K false):=by
 intro pins s σ H x y v u Q I rx ry h
 obtain ⟨p,xs,rfl,hq,fx,fs,q⟩:=h
 cases ry
 rcases hq with hq|hq
 ·obtain ⟨its,r,pl,hz⟩:=I.list hq
  refine SeqAt.in_listAt (eqU x) pl.isList (λw hw=>gQ rx fx r fs w (by simpa using hw)) ⟨.bl _,H,I,rfl,?_⟩
  rw [show its.toArray.any (eqU x)=its.any (eqU x) by simp,gZ r fs]
  exact q
 ·obtain ⟨its,r,pl,hz⟩:=I.tuple hq
  refine SeqAt.in_tupleAt (eqU x) pl (λw hw=>gQ rx fx r fs w (by simpa using hw)) ⟨.bl _,H,I,rfl,?_⟩
  rw [show its.toArray.any (eqU x)=its.any (eqU x) by simp,gZ r fs]
  exact q
theorem oF:OpR X (compareOp .NotIn) (rIn X.K true):=by
 intro pins s σ H x y v u Q I rx ry h
 obtain ⟨p,xs,rfl,hq,fx,fs,q⟩:=h
 cases ry
 rcases hq with hq|hq
 ·obtain ⟨its,r,pl,hz⟩:=I.list hq
  refine SeqAt.notIn_listAt (eqU x) pl.isList (λw hw=>gQ rx fx r fs w (by simpa using hw)) ⟨.bl _,H,I,rfl,?_⟩
  rw [show its.toArray.any (eqU x)=its.any (eqU x) by simp,gZ r fs]
  exact q
 ·obtain ⟨its,r,pl,hz⟩:=I.tuple hq
  refine SeqAt.notIn_tupleAt (eqU x) pl (λw hw=>gQ rx fx r fs w (by simpa using hw)) ⟨.bl _,H,I,rfl,?_⟩
  rw [show its.toArray.any (eqU x)=its.any (eqU x) by simp,gZ r fs]
  exact q
theorem oG:aX X (.builtin "len") (λxs H Q=>∃ p ys,xs=[.ref p]/\(SqL X.K H p ys\/SqT X.K H p ys)/\Q (.int ys.length) H):=by
 intro pins s σ H xs us Q I r h
 obtain ⟨p,ys,rfl,hq,q⟩:=h
 obtain ⟨u,rfl,rx⟩:=bg r
 cases rx
 have hn:=eA
 rcases hq with hq|hq
 ·obtain ⟨its,r',pl,hz⟩:=I.list hq
  have hlen:=r'.length
  exact Calls.call_len_list pl.isList (by simp only [List.size_toArray]<;>omega) ⟨.int ys.length,H,I.tok _,⟨s.toks+1,by rw [List.size_toArray,hlen]⟩,q⟩
 ·obtain ⟨its,r',pl,hz⟩:=I.tuple hq
  have hlen:=r'.length
  exact len_tuple pl (by simp only [List.size_toArray]<;>omega) ⟨.int ys.length,H,I.tok _,⟨s.toks+1,by rw [List.size_toArray,hlen]⟩,q⟩
theorem xc:aX X (.builtin "len") (λxs H Q=>∃ z,xs=[.str z]/\z.length<=sizeLine/\Q (.int z.length) H):=by
 intro pins s σ H xs us Q I r h
 obtain ⟨z,rfl,hz,q⟩:=h
 obtain ⟨u,rfl,t,rfl⟩:=bg r
 have hn:=eA
 exact len_str (by omega) ⟨.int z.length,H,I.tok _,⟨_,rfl⟩,q⟩
theorem oH:aX X (.type "list") (λxs H Q=>∃ p ys,xs=[.ref p]/\(SqL X.K H p ys\/SqT X.K H p ys)/\∀ l,H l=none->Q (.ref l) (upd H l (.lst ys))):=by
 intro pins s σ H xs us Q I r h
 obtain ⟨p,ys,rfl,hq,q⟩:=h
 obtain ⟨u,rfl,rx⟩:=bg r
 cases rx
 have fin:∀ (its:List Value),al ys its->ys.length<=sizeLine->∀ (h':Heap) (c':Nat),(∀ b o',s.heap.get? b=some o'->h'.get? b=some o') ->
   h'.get? s.heap.objs.size=some { cls:=.type "list",dict:=none,data:=.seq its.toArray c',slots:=#[] }->EP X pins σ Q (.ref s.heap.objs.size) { s with heap:=h' }:=λits r' hz h' c' kp e =>
  ⟨.ref s.heap.objs.size,_,I.laid (t':=s.toks) kp (Nat.le_refl _) (show aN X.prog X.w _ h' _ (.lst ys) from ⟨hz,its,c',r',e⟩),rfl,q _ (I.hok.fresh (Nat.le_refl _))⟩
 rcases hq with hq|hq
 ·obtain ⟨its,r',pl,hz⟩:=I.list hq
  have hlen:=r'.length
  obtain ⟨o,ho,hc,n,hd⟩:=pl.isList
  exact call_list_seq p (.inl rfl) ho hc hd (λh' c' kp e=>fin its r' hz h' c' kp e) (by simp only [List.size_toArray]<;>omega)
 ·obtain ⟨its,r',pl,hz⟩:=I.tuple hq
  have hlen:=r'.length
  obtain ⟨o,ho,hc,n,hd⟩:=pl
  exact call_list_seq p (.inr rfl) ho hc hd (λh' c' kp e=>fin its r' hz h' c' kp e) (by simp only [List.size_toArray]<;>omega)
def tyV (K:PySem.W.Frag) (T:String) (x:V) (H:Hp):Prop:=match x with
 |.str _=>T="str"
 |.int _=>T="int"
 |.ref p=>(T="list" /\ ∃ xs,SqL K H p xs)\/(T="tuple" /\ ∃ o,K.lookup p=some o/\o.cls=.type "tuple" /\ o.dict=none) \/
   (T="dict" /\ ((∃ kvs,H p=some (.dK kvs))\/∃ kvs,H p=some (.dT kvs)))\/(T="set" /\ ∃ S n,H p=some (.set S n))
 |_=>False
theorem sV {pins:List (Addr×Obj)}{σ:St}{H:Hp}{s:Shared}{T:String}{x:V}{v:Value}(I:Inv X pins σ H s) (r:aq x v) (ty:tyV X.K T x H) :
  s.TypeIs v T/\∀ a,v=.ref a->∃ ob,s.heap.get? a=some ob/\ob.dict=none:=by
 cases x with
 |str z =>
  obtain ⟨t,rfl⟩:=r
  cases (show T="str" from ty)
  exact ⟨typeIs_str s z t,λ_ e=>nomatch e⟩
 |int i =>
  obtain ⟨t,rfl⟩:=r
  cases (show T="int" from ty)
  exact ⟨typeIs_int s i t,λ_ e=>nomatch e⟩
 |ref p =>
  cases r
  rcases ty with ⟨rfl,xs,hq⟩|⟨rfl,o,hk,hc,hd⟩|⟨rfl,hk⟩|⟨rfl,S,n,hk⟩
  ·obtain ⟨its,_,pl,_⟩:=I.list hq
   refine ⟨pl.isList.typeIs,λa e=>?_⟩
   cases e
   obtain ⟨o,n,e,c,hd,_⟩:=pl
   exact ⟨o,e,hd⟩
  ·refine ⟨⟨o,I.kIn p o hk,hc⟩,λa e=>?_⟩
   cases e
   exact ⟨o,I.kIn _ o hk,hd⟩
  ·have z:∃ o,s.heap.get? p=some o/\o.ExactDict:=by
    rcases hk with ⟨kvs,hk⟩|⟨kvs,hk⟩
    ·obtain ⟨_,_,_,_,o,_,_,e,ex,_⟩:=I.hok p _ hk
     exact ⟨o,e,ex⟩
    ·obtain ⟨_,_,_,_,o,_,_,e,ex,_⟩:=I.hok p _ hk
     exact ⟨o,e,ex⟩
   obtain ⟨o,e,ex⟩:=z
   refine ⟨⟨o,e,ex.1⟩,λa e2=>?_⟩
   cases e2
   exact ⟨o,e,ex.2.1⟩
  ·obtain ⟨o,_,_,_,e,ex,_⟩:=I.hok p _ hk
   refine ⟨⟨o,e,ex.1⟩,λa e2=>?_⟩
   cases e2
   exact ⟨o,e,ex.2.1⟩
 |_=>exact False.elim ty
def kA (K:PySem.W.Frag) (T:String) (r:V->List V->Hp->VK->Prop) (to:TE):TE:=λσ H Q=>to σ H λx H1=>tyV K T x H1/\r x [] H1 Q
def tBM (K:PySem.W.Frag) (T:String) (r:V->List V->Hp->VK->Prop) (to:TE) (t:TA):TE:=λσ H Q=>to σ H λx H1=>tyV K T x H1/\t σ H1 λxs H2=>r x xs H2 Q
variable {o e:Expr}{es:List Expr}{to:TE}{t:TA}{name:Str}{apos cpos:Pos}{T id:String}{r:V->List V->Hp->VK->Prop}
theorem sW (pa:PlainAttrs T) (slot:Slot T name id) (hty:typeOf (.builtin id)=pure (.type "method_descriptor")) (hm:MtR X id r) (ho:PE X o to)
  (hbase:attributeBase o name X.env (eval o X.env)=eval o X.env:=by rfl) (hline:(apos.endLine==cpos.line)=true:=by rfl):PE X (.Call (.Attribute o name apos) [] [] cpos) (kA X.K T r to):=by
 intro pins s σ H Q I h
 refine wpAny_Call_method0_late hbase hline (thn (ho pins s σ H _ I h) λv s1 zz38=>?_)
 obtain ⟨x,H1,I1,r1,ty,q1⟩:=zz38
 obtain ⟨h1,h2⟩:=sV I1 r1 ty
 exact ⟨T,id,pa,slot,hty,h1,h2,Calls.callWith_builtin rfl (PySem.evalArgs_none (hm pins s1 σ H1 x [] v [] Q I1 r1 .nil q1))⟩
theorem bI (pa:PlainAttrs T) (slot:Slot T name id) (hty:typeOf (.builtin id)=pure (.type "method_descriptor")) (hm:MtR X id r) (ho:PE X o to) (ha:PA X (e::es) t)
  (hbase:attributeBase o name X.env (eval o X.env)=eval o X.env:=by rfl)
  (hfew:((backTo cpos (starEach (e::es) X.env)).all (λx=>!x.1)&&(backToKw cpos (keywordEach [] X.env)).all (λx=>x.1.isSome)
   && decide ((e::es).length+([]:List Keyword).length+(if ([]:List Keyword).isEmpty then 0 else 1)<30))=true:=by rfl)
  (hline:(apos.endLine==cpos.line)=true:=by rfl) (hs:starEach (e::es) X.env=(false,eval e X.env)::starEach es X.env:=by rfl) (hplain:(backTo cpos (starEach es X.env)).any (·.1)=false:=by rfl) :
  PE X (.Call (.Attribute o name apos) (e::es) [] cpos) (tBM X.K T r to t):=by
 intro pins s σ H Q I h
 refine wpAny_Call_method_late hbase hfew hline rfl (thn (ho pins s σ H _ I h) λv s1 zz39=>?_)
 obtain ⟨x,H1,I1,r1,ty,q1⟩:=zz39
 obtain ⟨h1,h2⟩:=sV I1 r1 ty
 refine ⟨T,id,pa,slot,hty,h1,h2,?_⟩
 have hA:=ha cpos pins s1 σ H1 _ I1 q1
 rw [hs] at hA ⊢
 refine Calls.callWith_builtin (by show (false || (backTo cpos (starEach es X.env)).any (·.1))=false;rw [hplain]<;>rfl) (Calls.evalArgs_plain ?_)
 exact thn hA λus s2 zz40=>by obtain ⟨vs,H2,I2,r2,q2⟩:=zz40;exact hm pins s2 σ H2 x vs v us Q I2 r1 r2 q2
end
def MtM (X:Cx) (id:String) (r:V->List V->Hp->VK->Prop):Prop :=
 ∀ (pins:List (Addr×Obj)) (s:Shared) (σ:St) (H:Hp) (x:V) (xs:List V) (v:Value) (us:List Value) (Q:VK),Inv X pins σ H s->aq x v->al xs us->r x xs H Q ->
  wpAny (model X.prog X.w) X.A (call (.builtin id) (v::us)) (EP X pins σ Q) X.xe s
theorem al.one:∀ {x:V}{us:List Value},al [x] us->∃ u,us=[u]/\aq x u
 |_,_,.cons r .nil=>⟨_,rfl,r⟩
theorem al.zero:∀ {us:List Value},al [] us->us=[]
 |_,.nil=>rfl
theorem al.dropLast {xs:List V}{us:List Value}(h:al xs us):al xs.dropLast us.dropLast:=by
 induction h with
 |nil=>exact .nil
 |cons r t ih =>
  cases t with
  |nil=>exact .nil
  |cons q t'=>exact .cons r ih
theorem al.rep {xs:List V}{us:List Value}(h:al xs us):∀ k:Nat,al (List.replicate k xs).flatten (List.replicate k us).flatten
 |0=>.nil
 |k+1=>by
  rw [List.replicate_succ,List.replicate_succ,List.flatten_cons,List.flatten_cons]
  exact al.append h (al.rep h k)
theorem xy {α:Type}(l:List α):l.eraseIdx (l.length - 1)=l.dropLast:=by
 induction l with
 |nil=>rfl
 |cons a r ih =>
  cases r with
  |nil=>rfl
  |cons b r =>
   have e:(a::b::r).length - 1=((b::r).length - 1)+1:=by
    have h1:(a::b::r).length=r.length+2:=rfl
    have h2:(b::r).length=r.length+1:=rfl
    omega
   rw [e,List.eraseIdx_cons_succ,ih]
   all_goals rfl
theorem pL (its:List Value):∀ (k:Nat) (acc:List Value),
  List.foldl (λx1 x2=>x1++x2) acc.toArray (List.replicate k its.toArray)=(acc++(List.replicate k its).flatten).toArray
 |0,acc=>by simp
 |k+1,acc=>by
  have e:acc.toArray++its.toArray=(acc++its).toArray:=by simp
  have e2:(acc++its)++(List.replicate k its).flatten=acc++(List.replicate (k+1) its).flatten:=by
   rw [List.replicate_succ,List.flatten_cons,List.append_assoc]
  rw [<- e2,<- pL its k (acc++its),<- e,List.replicate_succ,List.foldl_cons]
section
variable {X:Cx}{pins:List (Addr×Obj)}{σ:St}{H:Hp}{s:Shared}{l b:Addr}{xs ys zs:List V}
theorem Inv.lset {its its':List Value}{n:Nat}{f:Array Value->Array Value}{t':Nat}(I:Inv X pins σ H s) (hH:H l=some (.lst xs))
  (e:s.heap.get? l=some { cls:=.type "list",data:=.seq its.toArray n }) (hf:f its.toArray=its'.toArray) (hv:al ys its') (hz:ys.length<=sizeLine) :
  Inv X pins σ (upd H l (.lst ys)) { s with heap:=s.heap.update l (Obj.mapSeq f),toks:=t' }:=by
 have q:=PySem.IsL.update e f
 rw [hf] at q
 refine I.write (x:=l) (e:=l) (by rw [hH];exact trivial) (.inl rfl) (λb' u hb hu=>(Heap.get?_update_other s.heap (Obj.mapSeq f) (Ne.symm hb)).trans hu) ⟨_,q⟩ ?_
 exact ⟨hz,its',_,hv,q⟩
theorem Inv.lnew {its:List Value}{t':Nat}(I:Inv X pins σ H s) (hv:al ys its) (hz:ys.length<=sizeLine) :
  Inv X pins σ (upd H s.heap.objs.size (.lst ys)) { s with heap:=s.heap.push { cls:=.type "list",data:=.seq its.toArray },toks:=t' } :=
 I.laid (λ_ _ q=>Heap.get?_push_of_some _ q) (Nat.le_refl _) ⟨hz,its,0,hv,Heap.get?_push_size _ rfl⟩
theorem Inv.fresh (I:Inv X pins σ H s):H s.heap.objs.size=none:=I.hok.fresh (Nat.le_refl _)
theorem Inv.lstM (I:Inv X pins σ H s) (hH:H l=some (.lst xs)):xs.length<=sizeLine/\∃ (its:List Value) (n:Nat),al xs its/\xs.length=its.length/\s.heap.get? l=some { cls:=.type "list",data:=.seq its.toArray n }:=by
 obtain ⟨z,its,n,r,e⟩:=I.hok l _ hH
 exact ⟨z,its,n,r,r.length,e⟩
theorem qd {n:Nat}(h:n<=sizeLine):Builtin.List.listTooLong n=false:=by
 unfold Builtin.List.listTooLong
 exact decide_eq_false (by omega)
end
section
variable {X:Cx}
def Av:V->List V->Hp->VK->Prop:=λx vs H Q=>∃ l xs y,x=.ref l/\vs=[y]/\H l=some (.lst xs)/\xs.length<sizeLine/\Q .non (upd H l (.lst (xs++[y])))
theorem pM:MtM X "list.append" Av:=by
 intro pins s σ H x vs v us Q I rx rv h
 obtain ⟨l,xs,y,rfl,rfl,hH,hz,q⟩:=h
 cases rx
 obtain ⟨u,rfl,ru⟩:=rv.one
 obtain ⟨z,its,n,r,hl,e⟩:=I.lstM hH
 refine call_meets F.slot_list_append ⟨_,e,rfl⟩ F.entry_list_append (F.args_list_append_2 _ _) (PySem.list_append l its.toArray n u (by rw [List.size_toArray];omega)) ⟨e,?_⟩
 refine ⟨.non,_,I.lset (its':=its++[u]) hH e (by simp) (r.append (.cons ru .nil)) ?_,rfl,q⟩
 rw [List.length_append,List.length_singleton]
 omega
def Aw:V->List V->Hp->VK->Prop:=λx vs H Q=>∃ l b xs zs,x=.ref l/\vs=[.ref b]/\H l=some (.lst xs)/\H b=some (.lst zs)/\xs.length+zs.length<=sizeLine/\Q .non (upd H l (.lst (xs++zs)))
theorem xX:MtM X "list.extend" Aw:=by
 intro pins s σ H x vs v us Q I rx rv h
 obtain ⟨l,b,xs,zs,rfl,rfl,hH,hB,hz,q⟩:=h
 cases rx
 obtain ⟨u,rfl,ru⟩:=rv.one
 cases ru
 obtain ⟨z,its,n,r,hl,e⟩:=I.lstM hH
 obtain ⟨z2,its2,n2,r2,hl2,e2⟩:=I.lstM hB
 have hsz:its.toArray.size+its2.toArray.size<=sizeLine:=by rw [List.size_toArray,List.size_toArray];omega
 have hlong:¬ (!its.toArray.isEmpty&&Builtin.List.listTooLong (its.toArray.size+its2.toArray.size))=true:=by
  rw [qd hsz,Bool.and_false]
  exact Bool.false_ne_true
 refine call_meets F.slot_list_extend ⟨_,e,rfl⟩ F.entry_list_extend (F.args_list_extend_2 _ _)
  (AutoSeq1.list_extend_list_list_0 l its.toArray n b its2.toArray n2 hlong (by rw [List.size_toArray];omega) (by omega)) ⟨e,e2,?_⟩
 refine ⟨.non,_,I.lset (its':=its++its2) hH e (by simp) (r.append r2) ?_,rfl,q⟩
 rw [List.length_append]
 omega
def Ha:V->List V->Hp->VK->Prop:=λx vs H Q=>∃ l xs y,x=.ref l/\vs=[]/\H l=some (.lst xs)/\xs[xs.length - 1]?=some y/\Q y (upd H l (.lst xs.dropLast))
theorem CC:MtM X "list.pop" Ha:=by
 intro pins s σ H x vs v us Q I rx rv h
 obtain ⟨l,xs,y,rfl,rfl,hH,hy,q⟩:=h
 cases rx
 have hus:=rv.zero
 subst hus
 obtain ⟨z,its,n,r,hl,e⟩:=I.lstM hH
 obtain ⟨u,hu,ru⟩:=r.get hy
 have hy':its.toArray[its.toArray.size - 1]?=some u:=by
  show its.toArray[its.length - 1]?=some u
  rw [<- Array.getElem?_toList,<- hl]
  exact hu
 refine call_meets F.slot_list_pop ⟨_,e,rfl⟩ F.entry_list_pop (F.args_list_pop_1 _) (MeetsSeq.list_pop_last l its.toArray n u hy' (by rw [List.size_toArray];omega)) ⟨e,?_⟩
 refine ⟨y,_,I.lset (its':=its.dropLast) hH e ?_ r.dropLast ?_,ru,q⟩
 ·show its.toArray.eraseIdxIfInBounds (its.toArray.size - 1)=its.dropLast.toArray
  rw [List.size_toArray,List.eraseIdxIfInBounds_toArray,xy]
 ·rw [List.length_dropLast]
  omega
def Hb:R2:=λx y H Q=>∃ l b xs zs,x=.ref l/\y=.ref b/\H l=some (.lst xs)/\H b=some (.lst zs)/\xs.length+zs.length<=sizeLine/\∀ p,H p=none->Q (.ref p) (upd H p (.lst (xs++zs)))
theorem CD:OpR X (binaryOp .Add) Hb:=by
 intro pins s σ H x y v u Q I rx ry h
 obtain ⟨l,b,xs,zs,rfl,rfl,hH,hB,hz,q⟩:=h
 cases rx
 cases ry
 obtain ⟨z,its,n,r,hl,e⟩:=I.lstM hH
 obtain ⟨z2,its2,n2,r2,hl2,e2⟩:=I.lstM hB
 refine PySem.P.add_list e e2 ?_ (by rw [List.size_toArray,List.size_toArray];omega)
 have ea:its.toArray++its2.toArray=(its++its2).toArray:=by simp
 rw [ea]
 exact ⟨.ref _,_,I.lnew (t':=s.toks) (r.append r2) (by rw [List.length_append];omega),rfl,q _ I.fresh⟩
def Hd:R2:=λx y H Q=>∃ l k xs,x=.ref l/\y=.int k/\H l=some (.lst xs) /\ -(2 ^ 63)<=k/\k<2 ^ 63/\xs.length * k.toNat<=sizeLine /\
 ∀ p,H p=none->Q (.ref p) (upd H p (.lst (List.replicate k.toNat xs).flatten))
theorem Ax {α:Type}(xs:List α) (k:Nat):(List.replicate k xs).flatten.length=k * xs.length:=by
 induction k with
 |zero=>simp
 |succ k ih=>rw [List.replicate_succ,List.flatten_cons,List.length_append,ih,Nat.succ_mul,Nat.add_comm]
theorem CF:OpR X (binaryOp .Mult) Hd:=by
 intro pins s σ H x y v u Q I rx ry h
 obtain ⟨l,k,xs,rfl,rfl,hH,h1,h2,hz,q⟩:=h
 cases rx
 obtain ⟨t,rfl⟩:=ry
 obtain ⟨z,its,n,r,hl,e⟩:=I.lstM hH
 have hlen:its.toArray.size * k.toNat<=sizeLine:=by rw [List.size_toArray,<- hl];exact hz
 have hcap:¬ its.toArray.size * k.toNat>(2 ^ 63 - 1) / 8:=by
  have:(sizeLine:Nat)<=(2 ^ 63 - 1) / 8:=by decide
  omega
 have hfit:¬ (!Builtin.List.listFitsIndex k)=true:=by
  rw [fitsIndex_both h1 h2]
  exact Bool.false_ne_true
 have hlong:¬ Builtin.List.listTooLong (its.toArray.size * k.toNat)=true:=by
  rw [qd hlen]
  exact Bool.false_ne_true
 have hnew:List.foldl (λx1 x2=>x1++x2) #[] (List.replicate (if its.toArray.isEmpty=true then 0 else k.toNat) its.toArray)=(List.replicate k.toNat its).flatten.toArray:=by
  have f0:∀ m:Nat,List.foldl (λx1 x2=>x1++x2) #[] (List.replicate m its.toArray)=(List.replicate m its).flatten.toArray:=λm=>by
   have:=pL its m []
   rw [List.nil_append] at this
   exact this
  rw [f0]
  cases its with
  |nil=>simp
  |cons a r'=>rw [if_neg (by simp)]
 refine wpAny_binaryOp_repeat_ref (T:="list") (U:="int") (by decide) ⟨_,e,rfl⟩ (λs'=>typeIs_int s' k t) noFill_list_mul F.fills_int_mul F.slot_int_rmul repeat_list F.slot_int_index.lookup
  (call_meets F.slot_int_rmul (typeIs_int s k t) F.entry_int_rmul (F.args_int_rmul_2 _ _) (int___rmul___int_list k t l its.toArray n)
   ⟨e,rfl,⟨_,e,rfl⟩,call_meets F.slot_list_mul ⟨_,e,rfl⟩ F.entry_list_mul (F.args_list_mul_2 _ _) (AutoListH.list___mul___list_int_3 l its.toArray n k t hfit hcap hlong) ⟨e,?_⟩⟩)
 rw [hnew]
 exact ⟨.ref _,_,I.lnew (t':=s.toks) (r.rep k.toNat) (by rw [Ax,Nat.mul_comm];exact hz),rfl,q _ I.fresh⟩
end
section
variable {prog:Program}{w:World}{A:Around}{E:Value->Shared->Prop}{s:Shared}
end
section
variable {X:Cx}
end
end L2
namespace Att
open PySem PySem.W PySem.Calls PyProof.Rows
theorem wT {P:Params}{h:Heap}:∀ (ns:List Int) (vs:List Value),WellAll P h vs (ns.map WData.int)->IntsAre vs ns:=by
 intro ns
 induction ns with
 |nil =>
  intro vs w
  rw [List.map_nil] at w
  cases w
  exact .nil
 |cons n ns ih =>
  intro vs w
  rw [List.map_cons] at w
  cases w with
  |cons a b =>
   cases a
   exact .cons _ _ (ih _ b)
theorem xY {l:OpenLaw}{n:Nat}(hn:l.most=some n){P:Params}{h:Heap}{args:List WData}{vals:List Value}
  (hpre:l.row.toRowW.claim.pre args=true) (hwl:WellAll P h vals args) :
  ∃ a vs ns,vals=[Value.ref a]/\args=[WData.list (ns.map WData.int)]/\h.get? a=some { cls:=.type "list",data:=.seq vs.toArray }/\IntsAre vs ns/\ns.length<=n:=by
 have hsh:WShape.hasAll [] args [.list .int]=true:=(pre_splitW hpre).1
 have hc:l.pre.holds [] { args:=args }=true:=(pre_splitW hpre).2
 obtain ⟨d,r,rfl,h1,h2⟩:=hasAllW_cons hsh
 obtain rfl:=hasAllW_nil h2
 obtain ⟨xs,rfl,h3⟩:=hasW_list h1
 obtain ⟨ns,rfl⟩:=items_int h3
 have hlen:ns.length<=n:=by
  unfold OpenLaw.pre at hc
  have h4:(WTm.not (.lt (.lit (.int (n:Int))) (.len (.arg 0)))).holds [] { args:=[.list (ns.map .int)] }=true:=by
   have h4:=(holds_andW hc).1
   rw [hn] at h4
   exact h4
  have h5:=condW_of h4 (w_not (w_lt w_lit (w_len_list (w_arg rfl))))
  rw [List.length_map] at h5
  refine Nat.le_of_not_lt λq=>?_
  have q':(n:Int)<((ns.length:Nat):Int):=by omega
  first
   |(rw [decide_eq_true q'] at h5;exact absurd h5 (by decide))
   |(simp at h5;omega)
 cases hwl with
 |cons w1 w2 =>
  cases w2
  cases w1 with
  |list ho hall=>exact ⟨_,_,ns,rfl,rfl,ho,wT ns _ hall,hlen⟩
theorem xZ (l:OpenLaw) (args:List WData):l.row.toRowW.claim.post args (.bool true) args=true :=
 postW_of (r:=l.row.toRowW) (X:=(true==true))
  (show WShape.has [] (.bool true) .bool=true by first|rfl|decide|simp [WShape.has,WShape.arms,WShape.armsAll])
  (show (WTm.eq .res (.lit (.bool true))).value [] { args:=args,res:=some (.bool true),after:=args }=some (.bool (true==true)) from w_eq_bool (w_res rfl) w_lit) rfl
theorem attach_call {l:OpenLaw}{n:Nat}{q:Program}{loose:List Str}{XP:(Str->Option Value)->Heap->Prop}{YP:World->Heap->Prop}{d:DefRec}
  (hn:l.most=some n) (hdf:d.params.defaults=[])
  (call:∀ (w:World) (s₀ s₁:Shared) (mg mb:Str->Option Value) (fa:Addr) (o:Obj) (pm cd doc:Value) (a:Addr) (vs:List Value) (ns:List Int),
   Ground q loose [] XP w s₀ mg mb s₁.heap->YP w s₁.heap ->
   s₁.heap.get? fa=some o->o.data=.func (docDef d.name d.params d.body d.scope pm cd doc)->s₁.heap.CodeRec cd d.name->mg d.name=some (.ref fa) ->
   s₁.heap.get? a=some { cls:=.type "list",data:=.seq vs.toArray }->IntsAre vs ns->ns.length<=n->s₁.gens=#[] ->
   codeAny (model l.prog w) callerA (.call (.ref fa) ⟨[.ref a],[]⟩) (λr s'=>r=.ok (.ret (.bool true))/\OldK s₁.heap s'.heap/\s'.os=s₁.os/\AllBare s'.gens) s₁) :
  WalkO q loose XP YP l.row.toRowW d [] (λf vs=>PySem.call f vs):=by
 intro w s₀ s₁ mg mb G Y fa o pm cd doc dV kV ho hd hcd hD hmg hg args vals as hpre hlay hrd hwl hlo
 obtain rfl:dV=.none:=Dflts.none hD hdf
 obtain rfl:kV=.none:=Dflts.noKw hD
 obtain ⟨a,vs,ns,rfl,rfl,hobj,hints,hlen⟩:=xY hn hpre hwl
 refine enter_call (codeAny_mono (call w s₀ s₁ mg mb fa o pm cd doc a vs ns G Y ho (fd_plain hd) hcd hmg hobj hints hlen hg) λr s' hq=>?_)
 obtain ⟨rfl,h2,h3,h4⟩:=hq
 exact ⟨.inl ⟨.bool true,.bool true,[],rfl,λ_=>rfl,.bool true,xZ l _,λ_=>⟨List.Pairwise.nil,λ_ hm=>(nomatch hm)⟩⟩,h2,h3,h4⟩
section
variable {prog:Program}{w:World}{A:Around}{E:Value->Shared->Prop}{s:Shared}{K:Frag}
end
end Att
namespace L2
open PySem PySem.Spec PyProof.Rows
theorem pN:∀ {vs:List Value}{ns:List Int},IntsAre vs ns->al (ns.map V.int) vs
 |_,_,.nil=>.nil
 |_,_,.cons n t h=>.cons ⟨t,rfl⟩ (pN h)
def kB (H:Hp):Prop:=∀ b,H b=none\/∃ o xs,H b=some (.frz o (.lst xs))
theorem yX {P:Program}{w:World}{K:PySem.W.Frag}{mg mb:Str->Option Value}{CX:CXT}{k:Nat}{fa a:Addr}{fd:FuncData}{x:Str}{sp:Sp}{s₁:Shared}{vs:List Value}{ns:List Int}
  (KX:K.In s₁.heap) (hns:s₁.heap.Ns mainGlobals mg) (hb:s₁.heap.Ns builtinsNs mb) (hbb:∀ x:Str,x ≠ "__name__"->mb x=bootBuiltins x) (hlim:s₁.heap.NoLimit) (hg:s₁.gens=#[])
  (ha:s₁.heap.get? a=some { cls:=.type "list",data:=.seq vs.toArray }) (hi:IntsAre vs ns) (hl:ns.length<=sizeLine) (hr:Room k callerA)
  (F:∀ base:Heap,K.In base->base.Ns mainGlobals mg->FnOk P w K mg base CX k fa fd [x] sp) (hbind:∀ (s:Shared) (u:Value),BindsTo s fd ⟨[u],[]⟩ [(x,u)])
  (hsp:∀ H:Hp,kB H->SqL K H a (ns.map V.int)->sp [.ref a] H (λv _=>v=.bl true) λ_ _ _=>False)
  (hCX:∀ H e s',CX [] H s₁ (λ_ _ _=>False) e s'->False) :
  codeAny (model P w) callerA (.call (.ref fa) ⟨[.ref a],[]⟩) (λr s'=>r=.ok (.ret (.bool true))/\OldK s₁.heap s'.heap/\s'.os=s₁.os/\AllBare s'.gens) s₁:=by
 have rv:=pN hi
 have lenV:=hi.length
 -- from an abstract heap in which nothing but the script may be tracked
 have core:∀ H:Hp,kB H->SqL K H a (ns.map V.int)->HOk P w H s₁.heap->(∀ b,H b≠none->b=a)->(H a≠none->K.lookup a=none) ->
   codeAny (model P w) callerA (.call (.ref fa) ⟨[.ref a],[]⟩) (λr s'=>r=.ok (.ret (.bool true))/\OldK s₁.heap s'.heap/\s'.os=s₁.os/\AllBare s'.gens) s₁:=by
  intro H hO hS hok hA hK
  have base_of:∀ {b:Addr}{o:Obj},s₁.heap.get? b=some o->H b=none->(dm s₁.heap H).get? b=some o:=λe n=>yK e n
  have noA:∀ {b:Addr}{o:Obj}{es:Array DictEntry}{ep:Nat},s₁.heap.get? b=some o->o.data=.dict es ep->H b=none:=fun {b o es ep} e d=>by
   cases q:H b with
   |none=>rfl
   |some u =>
    have e':b=a:=hA b (by rw [q];simp)
    subst e'
    rw [ha] at e;cases e
    have d':Data.seq vs.toArray _=Data.dict es ep:=d
    cases d'
  have nsK:∀ {b:Addr}{m:Str->Option Value},s₁.heap.Ns b m->(dm s₁.heap H).Ns b m:=fun {b m} ⟨o,es,ep,e,d,r⟩=>⟨o,es,ep,base_of e (noA e d),d,r⟩
  have hKb:K.In (dm s₁.heap H):=λb o e=>base_of (KX b o e) (by
   cases q:H b with
   |none=>rfl
   |some u =>
    have e':b=a:=hA b (by rw [q];simp)
    subst e'
    rw [hK (by rw [q];simp)] at e;cases e)
  have hM:Mod K mg (dm s₁.heap H):=⟨hKb,nsK hns,⟨mb,nsK hb,hbb⟩,let ⟨mc,h1,h2⟩:=hlim;⟨mc,nsK h1,h2⟩⟩
  have e0:Env0 P w K mg (dm s₁.heap H) callerA [] s₁ H:=⟨rfl,hM,λb o e=>z6 e,Nat.le_of_eq (xJ _ _),trivial,λb hb=>absurd (show b∈([]:List Addr) from hb) (by simp),hok,.of_eq hg⟩
  refine codeAny_mono ((F _ hKb (nsK hns)).run callerA [] s₁ H ⟨[.ref a],[]⟩ [.ref a] [.ref a] _ _ hr e0 (hbind s₁ (.ref a)) (.cons rfl .nil) (hsp H hO hS)) λr s' h=>?_
  cases r with
  |error e=>exact (hCX H e s' h).elim
  |ok fl =>
   cases fl with
   |next=>exact False.elim h
   |brk=>exact False.elim h
   |cont=>exact False.elim h
   |ret u =>
    obtain ⟨v,H',os,bare,un,hok',r',q⟩:=h
    have q':v=.bl true:=q
    subst q'
    obtain rfl:u=Value.bool true:=r'
    refine ⟨rfl,OldK.of_keep λb o e=>?_,os,bare⟩
    cases q:H b with
    |none=>exact un.keep b o e q (by intro z;exact absurd (show b∈([]:List Addr) from z) (by simp)) (by simp)
    |some u =>
     rcases hO b with z|⟨ob,xs,z⟩
     ·rw [q] at z;cases z
     ·have z2:=un.frzs b ob _ z
      obtain ⟨e1,_⟩:=hok b _ z
      obtain ⟨e2,_⟩:=hok' b _ z2
      rw [e] at e1;cases e1
      exact e2
 cases hk:K.lookup a with
 |some o =>
  -- the script is one of the module's own objects
  have e:=KX a o hk
  rw [ha] at e
  cases e
  refine core (λ_=>none) (λ_=>.inl rfl) (.inr ⟨_,vs.toArray,_,hk,rfl,rfl,rfl,by rw [List.size_toArray,lenV];exact hl,by simpa using rv⟩) (λb u z=>by have z':(none:Option HO)=some u:=z;cases z') (λb z=>absurd rfl z) λz=>absurd rfl z
 |none =>
  refine core (λb=>if b=a then some (.frz { cls:=.type "list",data:=.seq vs.toArray } (.lst (ns.map V.int))) else none) (λb=>?_) (.inl (.inr ⟨{ cls:=.type "list",data:=.seq vs.toArray },if_pos rfl⟩)) (λb u z=>?_) (λb z=>?_) λ_=>hk
  ·by_cases hb:b=a
   ·exact .inr ⟨_,_,if_pos hb⟩
   ·exact .inl (if_neg hb)
  ·by_cases hb:b=a
   ·have z':=(if_pos hb).symm.trans z
    cases z'
    subst hb
    exact ⟨ha,by rw [List.length_map];exact hl,vs,_,rv,ha⟩
   ·have z':=(if_neg hb).symm.trans z
    cases z'
  ·by_cases hb:b=a
   ·exact hb
   ·exact absurd (if_neg hb) z
theorem Ay {l:PySem.W.OpenLaw}{n k:Nat}{q:Program}{loose:List Str}{XP:(Str->Option Value)->Heap->Prop}{YP:World->Heap->Prop}{d:DefRec}{K:Params->PySem.W.Frag}{CX:World->CXT}{sp:World->Sp}{x:Str}
  (hn:l.most=some n) (hn2:n<=sizeLine) (hdf:d.params.defaults=[]) (hr:Room k callerA)
  (hY:∀ (w:World) (h:Heap),YP w h->(K w.params).In h)
  (F:∀ (w:World) (mg:Str->Option Value) (fa:Addr) (h:Heap),(K w.params).In h->h.Ns mainGlobals mg->mg d.name=some (.ref fa) ->
   ∃ fd:FuncData,(∀ (s:Shared) (u:Value),BindsTo s fd ⟨[u],[]⟩ [(x,u)]) /\
    ∀ base:Heap,(K w.params).In base->base.Ns mainGlobals mg->FnOk l.prog w (K w.params) mg base (CX w) k fa fd [x] (sp w))
  (hsp:∀ (w:World) (H:Hp) (a:Addr) (ns:List Int),ns.length<=n->kB H->SqL (K w.params) H a (ns.map V.int)->sp w [.ref a] H (λv _=>v=.bl true) λ_ _ _=>False)
  (hCX:∀ (w:World) (H:Hp) (s:Shared) (e:Value) (s':Shared),CX w [] H s (λ_ _ _=>False) e s'->False) :
  PySem.W.WalkO q loose XP YP l.row.toRowW d [] (λf vs=>PySem.call f vs):=by
 refine Att.attach_call hn hdf λw s₀ s₁ mg mb fa o pm cd doc a vs ns G Y ho hd hcd hmg hobj hints hlen hg=>?_
 have KX:=hY w _ Y
 obtain ⟨fd,hb,hF⟩:=F w mg fa _ KX G.T.g hmg
 exact yX KX G.T.g G.T.b G.T.builtins G.T.nolimit hg hobj hints (Nat.le_trans hlen hn2) hr hF hb (λH hO hS=>hsp w H a ns hlen hO hS) λH e s'=>hCX w H s₁ e s'
abbrev CX0:CXT:=λ_ _ _ _ _ _=>False
abbrev E0:XK:=λ_ _ _=>False
theorem iz {X:Cx}:eB CX0 X E0:=λ_ _ _ _ _ _ _ h=>h.elim
structure Fun (K:PySem.W.Frag) (x qual:Str) (st:Stmt) (f:Addr) (fd:FuncData):Prop where
 ex:∃ (oc:Value) (od:Option Addr) (kV doc pm:Value) (an:Option Addr) (cdv ct:Value) (osl:Array (Option Value)),
  fd=PySem.W.fnOf x qual (aA st) (av st) (aj st) .none kV doc pm an cdv ct/\K.lookup f=some ⟨oc,od,.func fd,osl⟩/\PySem.W.codeIn K cdv qual=true
 kp:PySem.W.keepIn K (.ref f)=true
section
variable {P:Program}{w:World}{K:PySem.W.Frag}{mg:Str->Option Value}{base:Heap}
theorem Fun.ok {x qual:Str}{st:Stmt}{f:Addr}{fd:FuncData}{N ps:List Str}{k:Nat}{sp:Sp}(F:Fun K x qual st f fd) (S:FnScope N ps (aj st)) (len:∀ vs H Q E,sp vs H Q E->vs.length=ps.length)
  (hbody:∀ (cdv:Value) (A:Around) (outer:List Env) (s:Shared) (H:Hp) (vs:List V) (Q:VK) (E:XK),Room k (A.deeper (envOfC qual (aj st) s.heap.objs.size f cdv))->sp vs H Q E ->
   ∃ t,PSs (cq CX0 P w K mg base N qual (aj st) f cdv A outer s H E).nox (av st) t/\t { nx:=λ_ H'=>Q .non H',rt:=Q } (bO N vs) H):FnOk P w K mg base CX0 (k+1) f fd ps sp:=by
 obtain ⟨oc,od,kV,doc,pm,an,cdv,ct,osl,rfl,lk,hcd⟩:=F.ex
 refine m5 lk hcd S len λA outer s H vs Q E hr hsp=>?_
 obtain ⟨t,h,q⟩:=hbody cdv A outer s H vs Q E hr hsp
 exact ⟨t,h.nox,q⟩
theorem Fun.binds {x qual:Str}{st:Stmt}{f:Addr}{fd:FuncData}{ps:List Str}(F:Fun K x qual st f fd)
  (h:∀ (kV doc pm:Value) (an:Option Addr) (cdv ct:Value) (us:List Value),us.length=ps.length->bindArgs (PySem.W.fnOf x qual (aA st) (av st) (aj st) .none kV doc pm an cdv ct) ⟨us,[]⟩=pure (ps.zip us)):ay K fd ps []:=by
 obtain ⟨oc,od,kV,doc,pm,an,cdv,ct,osl,rfl,lk,hcd⟩:=F.ex
 exact .all (h kV doc pm an cdv ct)
theorem aV {x qual:Str}{st:Stmt}{f:Addr}{oc:Value}{od an:Option Addr}{osl:Array (Option Value)}{kV doc pm cdv ct:Value}(l:K.lookup f=some ⟨oc,od,.func (PySem.W.fnOf x qual (aA st) (av st) (aj st) .none kV doc pm an cdv ct),osl⟩)
  (c:PySem.W.codeIn K cdv qual=true) (k:PySem.W.keepIn K (.ref f)=true):Fun K x qual st f (PySem.W.fnOf x qual (aA st) (av st) (aj st) .none kV doc pm an cdv ct):=⟨⟨oc,od,kV,doc,pm,an,cdv,ct,osl,rfl,l,c⟩,k⟩
end
theorem iA {A:Around}{k:Nat}(hr:Room k A):A.units+1<cLine:=Nat.lt_of_le_of_lt (Nat.add_le_add_left (by decide:1<=64) _) hr.units
section
variable {X:Cx}
end
def HK (H H':Hp):Prop:=∀ b o,H b=some o->H' b=some o
def CG:Expr->Bool
 |.Starred ..=>true
 |_=>false
theorem ae {e:Expr}{es:List Expr}{env:Env}(h:CG e=false):starEach (e::es) env=(false,eval e env)::starEach es env:=by
 cases e<;>first|rfl|cases h
section
variable {X:Cx}
theorem yY:OpR X (binaryOp .FloorDiv) (rI (λ_ j=>0<j/\j<18446744073709551616) λi j=>.int (i / j)):=opI λi j _ _ _ _ _ hc q=>by
 have h1:(0:Int)<j:=hc.1
 have h2:j<18446744073709551616:=hc.2
 refine floordiv_int (by omega) (by rw [Int.fdiv_eq_ediv_of_nonneg i (by omega)];exact q) (.inl (PyProof.noPylong_of_log2 ?_))
 have h0:j.natAbs≠0:=by omega
 have h3:j.natAbs<2 ^ 64:=by
  have e:(2:Nat) ^ 64=18446744073709551616:=by decide
  omega
 have h4:j.natAbs.log2<64:=(Nat.log2_lt h0).mpr h3
 omega
def Az (K:PySem.W.Frag):List V->Hp->VK->Prop:=λxs H Q=>∃ x c t b,xs=[x,c]/\(∃ u,aq c u/\(∀ z,aq c z->z=u)/\PySem.W.kitOne K t u=some b)/\TyOf K H x t/\Q (.bl b) H
theorem xm:aX X (.builtin "isinstance") (Az X.K):=by
 intro pins s σ H xs us Q I r h
 obtain ⟨x,c,t,b,rfl,⟨u,rc,hu,e⟩,ty,q⟩:=h
 obtain ⟨u1,u2,rfl,r1,r2⟩:=eI r
 obtain rfl:=hu _ r2
 exact xU I r1 ty e λtk=>⟨.bl b,H,I.tok tk,rfl,q⟩
end
def Kp (p:Addr) (H H':Hp):Prop:=∀ b o,H b=some o->b≠p->H' b=some o
def HJ (H:Hp) (p:Addr):Prop:=∃ a b c d:Int,H p=some (.lst [.int a,.int b,.int c,.int d])
structure Df (K:PySem.W.Frag) (mg:Str->Option Value) (x:Str) (f:Addr) (fd:FuncData) (ps:List Str):Prop where
 hm:mg x=some (.ref f)
 kp:PySem.W.keepIn K (.ref f)=true
 b:ay K fd ps []
def Oth (p:Addr) (H H':Hp):Prop:=∀ b,b≠p->H' b=H b
def jj:Sp:=λvs H Q _=>∃ c t:Int,vs=[.int c,.int t]/\0<=c/\c<4611686018427387904/\0<=t/\Q (.int (c / 2 ^ t.toNat)) H
def el:Sp:=λvs H Q _=>∃ (t:Addr) (c e f:Int),vs=[.ref t,.int f]/\H t=some (.tup [.int c,.int e])/\e<=f/\Q (.int (c / 2 ^ (f - e).toNat)) H
def jK:Sp:=λvs H Q _=>∃ (t:Addr) (c e f n:Int),vs=[.ref t,.int f,.int n]/\H t=some (.tup [.int c,.int e])/\e<=f /\
 ∀ p,H p=none->Q (.ref p) (upd H p (.tup [.int (c / 2 ^ (f - e).toNat+n),.int f]))
section
variable {prog:Program}{w:World}{A:Around}{R:Result->Shared->Prop}{s:Shared}
theorem xn {elt target iter:Expr}{ifs:List Expr}{scope:Scope}{pos:Pos}{it acc:Value}{env:Env}(I:Nat->Shared->Prop)
  (turn:∀ n s,I n s->wpAny (model prog w) A (pyNext it) (λr s₁=>match r with
   |none=>R (.ok .next) s₁
   |some v=>wpAny (model prog w) A (letOwnedTupleGo target it v) (λ_ s₁'=>wpAny (model prog w) A (assign target env v) (λ_ s₂ =>
     wpAny (model prog w) A (forIn ifs true λc r=>if r=true then do let ok <- isTrue c env (eval c env);pure (ForInStep.yield ok) else pure (ForInStep.yield r)) (λok s₃ =>
      if ok=true then wpAny (model prog w) A (eval elt env) (λx s₄ =>
       wpAny (model prog w) A (call (.builtin "list.append") [acc,x]) (λ_ s₅=>∃ m,m<n/\I m s₅) (λ_ _=>False) s₄) (λ_ _=>False) s₃
      else ∃ m,m<n/\I m s₃) (λ_ _=>False) s₂) (λ_ _=>False) s₁') (λ_ _=>False) s₁) (λ_ _=>False) s)
  (n:Nat) (h:I n s) :
  codeAny (model prog w) A (.compLoop (.ListComp elt [⟨target,iter,ifs,0⟩] scope pos) 0 it acc env) R s:=by
 refine codeAny_loop rfl I (λn s hI=>?_) n h
 show wpAny _ A ((compTurn (.ListComp elt [⟨target,iter,ifs,0⟩] scope pos) 0 it acc env).onRaise (λx=>do noteFrame x env;theTreesLotGoes x)) _ _ s
 refine wpAny_noted ?_
 rw [compTurn_list]
 refine wpAny_bind (wpAny_standAt (wpAny_bind (wpAny_mono (turn n s hI) (λr s₁ h₁=>?_) λ_ _ h'=>h'.elim)))
 cases r with
 |none=>exact wpAny_pure h₁
 |some v =>
  refine wpAny_bind (wpAny_mono h₁ (λ_ s₁' h₁'=>?_) λ_ _ h'=>h'.elim)
  refine wpAny_bind (wpAny_mono h₁' (λ_ s₂ h₂=>wpAny_bind (wpAny_mono h₂ (λok s₃ h₃=>?_) λ_ _ h'=>h'.elim)) λ_ _ h'=>h'.elim)
  cases ok with
  |false=>exact wpAny_pure ⟨rfl,h₃⟩
  |true =>
   exact wpAny_bind (wpAny_bind (wpAny_mono h₃ (λx s₄ h₄=>wpAny_bind (wpAny_mono h₄ (λ_ s₅ h₅=>wpAny_pure (wpAny_pure ⟨rfl,h₅⟩)) λ_ _ h'=>h'.elim)) λ_ _ h'=>h'.elim))
end
def dP (cells:List (Str×Addr)):List (Str×NameKind)->List (Str×Addr)->List (Str×Addr)
 |[],cs=>cs
 |(n,k)::r,cs=>dP cells r (if k==.free then (match cells.lookup n with|some a=>(n,a)::cs|none=>cs) else cs)
def cu (scope:Scope) (env:Env):List (Str×Addr):=dP env.cells scope.names []
theorem rj (env:Env):∀ (ns:List (Str×NameKind)) (cs:List (Str×Addr)),(∀ y∈ns,y.2=.free->∃ a,env.cells.lookup y.1=some a) ->
  (forIn ns cs λ(x:Str×NameKind) (r:List (Str×Addr))=>(if (x.2==NameKind.free)=true then (do let a <- cellOf env x.1;pure (ForInStep.yield ((x.1,a)::r))) else pure (ForInStep.yield r):Sem (ForInStep (List (Str×Addr)))))=(pure (dP env.cells ns cs):Sem (List (Str×Addr)))
 |[],cs,_=>rfl
 |(n,k)::r,cs,h=>by
  rw [List.forIn_cons]
  have ih:=λcs'=>rj env r cs' λy hy=>h y (List.mem_cons_of_mem _ hy)
  by_cases hk:(k==NameKind.free)=true
  ·obtain ⟨a,ha⟩:=h (n,k) List.mem_cons_self (by simpa using hk)
   have ha':env.cells.lookup n=some a:=ha
   have e:cellOf env n=pure a:=by unfold cellOf;rw [ha']
   simp only [hk,if_true,e,pure_bind]
   rw [ih]
   show _=pure (dP env.cells r (if k==.free then (match env.cells.lookup n with|some a=>(n,a)::cs|none=>cs) else cs))
   rw [hk,ha']
   rfl
  ·have hk':(k==NameKind.free)=false:=by simpa using hk
   simp only [hk',Bool.false_eq_true,if_false,pure_bind]
   rw [ih]
   show _=pure (dP env.cells r (if k==.free then (match env.cells.lookup n with|some a=>(n,a)::cs|none=>cs) else cs))
   rw [hk']
   rfl
theorem AA {scope:Scope}{env:Env}(h:∀ y∈scope.names,y.2=.free->∃ a,env.cells.lookup y.1=some a):closureFor scope env=pure (cu scope env):=by
 have e:=rj env scope.names [] h
 unfold closureFor cu
 show (forIn scope.names ([]:List (Str×Addr)) _ >>= λcs=>pure cs)=_
 rw [bind_pure]
 exact e
theorem qf (cells:List (Str×Addr)){x:Str}{c:Addr}:∀ (ns:List (Str×NameKind)) (cs:List (Str×Addr)),(∀ c,cs.lookup x=some c->cells.lookup x=some c)->(dP cells ns cs).lookup x=some c->cells.lookup x=some c
 |[],cs,h,e=>h c e
 |(n,k)::r,cs,h,e=>by
  refine qf cells r _ (λc' e'=>?_) e
  by_cases hk:(k==NameKind.free)=true
  ·rw [if_pos hk] at e'
   cases ha:cells.lookup n with
   |none=>rw [ha] at e';exact h c' e'
   |some a =>
    rw [ha] at e'
    by_cases hx:x==n
    ·have hx':x=n:=by simpa using hx
     subst hx'
     simp only [List.lookup_cons,beq_self_eq_true] at e'
     rw [<- e'];exact ha
    ·have hx':(x==n)=false:=by simpa using hx
     simp only [List.lookup_cons,hx'] at e'
     exact h c' e'
  ·rw [if_neg hk] at e'
   exact h c' e'
theorem gM (cells:List (Str×Addr)){x:Str}{a:Addr}(ha:cells.lookup x=some a):∀ (ns:List (Str×NameKind)) (cs:List (Str×Addr)),(cs.lookup x=some a\/ns.lookup x=some .free)->(∀ c,cs.lookup x=some c->c=a)->(dP cells ns cs).lookup x=some a
 |[],cs,h,_=>by
  rcases h with h|h
  ·exact h
  ·simp at h
 |(n,k)::r,cs,h,hu=>by
  have step:(if k==.free then (match cells.lookup n with|some a=>(n,a)::cs|none=>cs) else cs)=cs\/∃ b,k=.free/\cells.lookup n=some b/\(if k==.free then (match cells.lookup n with|some a=>(n,a)::cs|none=>cs) else cs)=(n,b)::cs:=by
   by_cases hk:(k==NameKind.free)=true
   ·rw [if_pos hk]
    cases hb:cells.lookup n with
    |none=>exact .inl rfl
    |some b=>exact .inr ⟨b,by simpa using hk,rfl,rfl⟩
   ·exact .inl (by rw [if_neg hk])
  show (dP cells r _).lookup x=some a
  by_cases hx:x=n
  ·subst hx
   rcases step with e|⟨b,hk,hb,e⟩
   ·rw [e]
    refine gM cells ha r cs ?_ hu
    rcases h with h|h
    ·exact .inl h
    ·simp only [List.lookup_cons,beq_self_eq_true] at h
     injection h with h
     subst h
     rw [if_pos (by decide),ha] at e
     have:(x,a)::cs=cs:=e
     exact absurd (congrArg List.length this) (by simp)
   ·rw [e]
    rw [ha] at hb
    injection hb with hb
    subst hb
    refine gM cells ha r _ (.inl (by simp)) λc hc=>?_
    simp at hc
    exact hc.symm
  ·have hxb:(x==n)=false:=by simpa using hx
   rcases step with e|⟨b,hk,hb,e⟩
   ·rw [e]
    refine gM cells ha r cs ?_ hu
    rcases h with h|h
    ·exact .inl h
    ·simp only [List.lookup_cons,hxb] at h
     exact .inr h
   ·rw [e]
    refine gM cells ha r _ ?_ λc hc=>?_
    ·rcases h with h|h
     ·exact .inl (by simp only [List.lookup_cons,hxb];exact h)
     ·simp only [List.lookup_cons,hxb] at h
      exact .inr h
    ·simp only [List.lookup_cons,hxb] at hc
     exact hu c hc
def fW (sc scope:Scope):Bool:=(scope.kind==.function)&&scope.names.all λy=>(y.2 != .cell)&&((y.2 != .local) || (scope.names.lookup y.1==some .local)) &&
 ((y.2 != .free) || ((scope.names.lookup y.1==some .free)&&((sc.names.lookup y.1==some .cell) || (sc.names.lookup y.1==some .free))))
def eJ (N Nc:List Str) (scope:Scope) (n:Nat) (caps:List Nat):Bool:=(n+caps.length==Nc.length)&&(List.range caps.length).all λj=>(Nc[n+j]?==(caps[j]?).bind λi=>N[i]?)&&((Nc[n+j]?).bind (λy=>scope.names.lookup y)==some NameKind.free)
def fX (n:Nat) (caps:List Nat) (σ:St):St:=List.replicate n none++caps.map λi=>(σ[i]?).join
def Cx.comp (X:Cx) (scope:Scope) (Nc:List Str) (C:Addr) (s₀:Shared) (H₀:Hp) (ex:List Addr):Cx :=
 { X with N:=Nc,s₀:=s₀,H₀:=H₀,env:=compEnvC scope (cu scope X.env) C X.env,outer:=X.stack,ex:=ex,fn:=λ_=>false,pn:=[],xe:=λ_ _=>False }
theorem oI {env:Env}:∀ {names:List (Str×NameKind)}{x:Str},names.lookup x=some .free ->
  (names.map λ(n,k)=>if (k==NameKind.free&&env.scope.kind==.function&&env.kindOf n==some .cell) then (n,NameKind.cell) else (n,k)).lookup x=some .cell \/
  (names.map λ(n,k)=>if (k==NameKind.free&&env.scope.kind==.function&&env.kindOf n==some .cell) then (n,NameKind.cell) else (n,k)).lookup x=some .free
 |[],_,h=>by simp at h
 |(n,k)::r,x,h=>by
  have ih:=@oI env r x
  show List.lookup x ((if (k==NameKind.free&&env.scope.kind==.function&&env.kindOf n==some .cell)=true then (n,NameKind.cell) else (n,k))::_)=_\/List.lookup x ((if (k==NameKind.free&&env.scope.kind==.function&&env.kindOf n==some .cell)=true then (n,NameKind.cell) else (n,k))::_)=_
  cases hx:x==n with
  |true =>
   simp only [List.lookup_cons,hx] at h
   cases h
   by_cases hc:(NameKind.free==NameKind.free&&env.scope.kind==.function&&env.kindOf n==some .cell)=true
   ·rw [if_pos hc];simp [List.lookup_cons,hx]
   ·rw [if_neg hc];simp [List.lookup_cons,hx]
  |false =>
   simp only [List.lookup_cons,hx] at h
   by_cases hc:(k==NameKind.free&&env.scope.kind==.function&&env.kindOf n==some .cell)=true
   ·rw [if_pos hc];simp only [List.lookup_cons,hx];exact ih h
   ·rw [if_neg hc];simp only [List.lookup_cons,hx];exact ih h
theorem oJ {env:Env}:∀ {names:List (Str×NameKind)}{x:Str},(∀ y∈names,y.2≠.cell) ->
  ((names.map λ(n,k)=>if (k==NameKind.free&&env.scope.kind==.function&&env.kindOf n==some .cell) then (n,NameKind.cell) else (n,k)).lookup x=some .cell \/
  (names.map λ(n,k)=>if (k==NameKind.free&&env.scope.kind==.function&&env.kindOf n==some .cell) then (n,NameKind.cell) else (n,k)).lookup x=some .free)->names.lookup x=some .free
 |[],_,_,h=>by simp at h
 |(n,k)::r,x,hc,h=>by
  have ih:=@oJ env r x λy hy=>hc y (List.mem_cons_of_mem _ hy)
  have hk:k≠.cell:=hc (n,k) List.mem_cons_self
  have h':List.lookup x ((if (k==NameKind.free&&env.scope.kind==.function&&env.kindOf n==some .cell)=true then (n,NameKind.cell) else (n,k))::_)=some NameKind.cell\/List.lookup x ((if (k==NameKind.free&&env.scope.kind==.function&&env.kindOf n==some .cell)=true then (n,NameKind.cell) else (n,k))::_)=some NameKind.free:=h
  cases hx:x==n with
  |true =>
   simp only [List.lookup_cons,hx]
   by_cases hq:(k==NameKind.free&&env.scope.kind==.function&&env.kindOf n==some .cell)=true
   ·have:k=.free:=by
     simp only [Bool.and_eq_true] at hq
     simpa using hq.1.1
    rw [this]
   ·rw [if_neg hq] at h'
    simp only [List.lookup_cons,hx] at h'
    rcases h' with h'|h'
    ·injection h' with h';exact absurd h' hk
    ·exact h'
  |false =>
   simp only [List.lookup_cons,hx]
   by_cases hq:(k==NameKind.free&&env.scope.kind==.function&&env.kindOf n==some .cell)=true
   ·rw [if_pos hq] at h'
    simp only [List.lookup_cons,hx] at h'
    exact ih h'
   ·rw [if_neg hq] at h'
    simp only [List.lookup_cons,hx] at h'
    exact ih h'
structure CompSc (X:Cx) (scope:Scope):Prop where
 kind:scope.kind=.function
 nocell:∀ y∈scope.names,y.2≠.cell
 loc:∀ y∈scope.names,y.2=.local->scope.names.lookup y.1=some .local
 fr:∀ x,scope.names.lookup x=some .free->X.env.kindOf x=some .cell\/X.env.kindOf x=some .free
 fr2:∀ y∈scope.names,y.2=.free->X.env.kindOf y.1=some .cell\/X.env.kindOf y.1=some .free
theorem mem_of_lookup {α β:Type}[BEq α] [LawfulBEq α]:∀ {l:List (α×β)}{x:α}{b:β},l.lookup x=some b->(x,b)∈l
 |[],_,_,h=>by simp at h
 |(n,k)::r,x,b,h=>by
  cases hx:x==n with
  |true =>
   simp only [List.lookup_cons,hx] at h
   injection h with h
   have:x=n:=by simpa using hx
   subst this;subst h
   exact List.mem_cons_self
  |false =>
   simp only [List.lookup_cons,hx] at h
   exact List.mem_cons_of_mem _ (mem_of_lookup h)
theorem pO {X:Cx}{scope:Scope}(h:fW X.env.scope scope=true):CompSc X scope:=by
 unfold fW at h
 rw [Bool.and_eq_true] at h
 obtain ⟨h1,h2⟩:=h
 rw [List.all_eq_true] at h2
 have h3:∀ y∈scope.names,y.2=.free->X.env.kindOf y.1=some .cell\/X.env.kindOf y.1=some .free:=λy hy e=>by
  have q:=h2 y hy
  simp only [Bool.and_eq_true,e,bne_self_eq_false,Bool.false_or,Bool.or_eq_true,beq_iff_eq] at q
  exact q.2.2
 refine ⟨by simpa using h1,λy hy e=>?_,λy hy e=>?_,λx e=>h3 _ (mem_of_lookup e) rfl,h3⟩
 ·have q:=h2 y hy
  simp [e] at q
 ·have q:=h2 y hy
  simp only [Bool.and_eq_true,e,bne_self_eq_false,Bool.false_or,beq_iff_eq] at q
  exact q.1.2
section
variable {X:Cx}{pins:List (Addr×Obj)}{σ:St}{H:Hp}{s:Shared}{scope:Scope}{Nc:List Str}{fp:List Addr}{C:Addr}
theorem fY {env:Env}{x:Str}{c:Addr}(h:(cu scope env).lookup x=some c):env.cells.lookup x=some c :=
 qf env.cells scope.names [] (λc e=>by simp at e) h
theorem rl {env:Env}{x:Str}{c:Addr}(h:env.cells.lookup x=some c) (hf:scope.names.lookup x=some .free):(cu scope env).lookup x=some c :=
 gM env.cells h scope.names [] (.inr hf) (λc e=>by simp at e)
theorem CompSc.clos (S:CompSc X scope) (ok:X.Ok):closureFor scope X.env=pure (cu scope X.env) :=
 AA λy hy e=>ok.has y.1 (S.fr2 y hy e)
theorem AB (I:Inv X pins σ H s) (S:CompSc X scope) (hf:∀ b∈fp,cf X pins H b) (hC:s.heap.objs.size<=C) (hCf:C∉fp):(X.comp scope Nc C s H fp).Ok where
 mod:=I.ok.mod
 kind:=S.kind
 glob:=I.ok.glob
 blt:=I.ok.blt
 above:=hC
 inj:=λx y c h1 h2=>I.ok.inj x y c (fY h1) (fY h2)
 has:=λx h=>by
  have e:scope.names.lookup x=some .free:=oJ S.nocell h
  obtain ⟨c,hc⟩:=I.ok.has x (S.fr x e)
  exact ⟨c,rl hc e⟩
 cab:=λx c h=>by cases h
 hd:=I.ok.hd
 frames:=I.ok.frames
 stk:=.inl rfl
 exf:=λb hb=>⟨λe=>hCf ((show b=C from e) ▸ (show b∈fp from hb)),λx c h=>(hf b hb).2.2.2.2.1 x c (fY h)⟩
 bs:=I.bs
 bsz:=Nat.le_trans I.ok.bsz I.sz
 noex:=λb o e hb=>by
  rcases (hf b hb).2.2.2.1 with z|z
  ·exact I.ok.noex b o e z
  ·exact absurd (Nat.lt_of_lt_of_le (Heap.lt_size e) (Nat.le_trans I.ok.bsz z)) (Nat.lt_irrefl _)
 exfs:=λb hb hs=>by
  rcases List.mem_cons.mp (I.stkSub b hs) with z|z
  ·exact (hf b hb).2.1 z
  ·exact (hf b hb).2.2.1 z
 funs:=I.stack
 frf:=I.stkFree
theorem xz {n:Nat}{caps:List Nat}{h₁:Heap}{tk:Nat}(I:Inv X pins σ H s) (S:CompSc X scope) (hcp:eJ X.N Nc scope n caps=true) (hf:∀ b∈fp,cf X pins H b) (hlt:∀ b∈fp,b<s.heap.objs.size)
  (hns:h₁.Ns (s.heap.objs.size+1) λ_=>none) (old:∀ b o,s.heap.get? b=some o->h₁.get? b=some o) (hD:h₁.get? s.heap.objs.size=some { cls:=.type "list",data:=.seq #[] 0 }) :
  Inv (X.comp scope Nc (s.heap.objs.size+1) s H fp) [] (fX n caps σ) (upd H s.heap.objs.size (.lst [])) { s with heap:=h₁,toks:=tk }:=by
 have hCf:s.heap.objs.size+1∉fp:=λz=>Nat.not_succ_lt_self (hlt _ z)
 unfold eJ at hcp
 rw [Bool.and_eq_true,List.all_eq_true] at hcp
 obtain ⟨hl,hc⟩:=hcp
 have hl':n+caps.length=Nc.length:=by simpa using hl
 refine ⟨AB I S hf (Nat.le_succ _) hCf,rfl,I.bare,Un.laid old (Nat.le_refl _) I.fresh,⟨_,hns,?_⟩,?_,?_,?_,?_,I.hok.laid old (Nat.le_refl _) ⟨Nat.zero_le _,[],0,.nil,hD⟩,?_⟩
 ·intro i x v hN hv _
  have hi:n<=i:=by
   rcases Nat.lt_or_ge i n with z|z
   ·exfalso
    have hv':(List.replicate n (none:Option V)++caps.map λi=>(σ[i]?).join)[i]?=some (some v):=hv
    rw [List.getElem?_append_left (by simpa using z)] at hv'
    simp [z] at hv'
   ·exact z
  obtain ⟨j,rfl⟩:∃ j,i=n+j:=⟨i - n,by omega⟩
  have hv':(List.replicate n (none:Option V)++caps.map λi=>(σ[i]?).join)[n+j]?=some (some v):=hv
  rw [List.getElem?_append_right (by simp)] at hv'
  have e1:n+j - (List.replicate n (none:Option V)).length=j:=by simp
  rw [e1,List.getElem?_map] at hv'
  cases ec:caps[j]? with
  |none=>rw [ec] at hv';cases hv'
  |some i0 =>
   rw [ec] at hv'
   have hv2:(σ[i0]?).join=some v:=by simpa using hv'
   have hv3:σ[i0]?=some (some v):=by
    cases es:σ[i0]? with
    |none=>rw [es] at hv2;cases hv2
    |some o=>rw [es] at hv2;simp at hv2;rw [hv2]
   have hj:j<caps.length:=(List.getElem?_eq_some_iff.mp ec).1
   have q:=hc j (List.mem_range.mpr hj)
   have hN':Nc[n+j]?=some x:=hN
   rw [Bool.and_eq_true,hN',ec] at q
   obtain ⟨q1,q2⟩:=q
   have q1':X.N[i0]?=some x:=by simpa using (beq_iff_eq.mp q1).symm
   have q2':scope.names.lookup x=some .free:=by simpa using q2
   obtain ⟨m,_,hm⟩:=I.loc
   have hk:=S.fr x q2'
   obtain ⟨u,ru,lk⟩:=hm i0 x v q1' hv3 (.inr hk)
   refine ⟨u,ru,?_⟩
   rcases lk with ⟨kl,_⟩|⟨_,c,hcl,ic⟩
   ·rcases hk with z|z
    ·rw [kl] at z;cases z
    ·rw [kl] at z;cases z
   ·exact .inr ⟨oI q2',c,rl hcl q2',ic.keeps old⟩
 ·intro x c h
  obtain ⟨v,ic⟩:=I.cell x c (fY h)
  exact ⟨v,ic.keeps old⟩
 ·show upd H s.heap.objs.size (.lst []) (s.heap.objs.size+1)=none
  rw [aB (Nat.succ_ne_self _)]
  exact I.hok.fresh (Nat.le_succ _)
 ·intro x c h
  obtain ⟨v,ic⟩:=I.cell x c (fY h)
  rw [aB (Nat.ne_of_lt ic.lt)]
  exact I.freeC x c (fY h)
 ·intro p hp
  exact absurd (show p∈([]:List (Addr×Obj)) from hp) (by simp)
 ·show (List.replicate n (none:Option V)++caps.map λi=>(σ[i]?).join).length=Nc.length
  rw [List.length_append,List.length_replicate,List.length_map]
  exact hl'
theorem x4 {pins':List (Addr×Obj)}{σ':St}{H':Hp}{s':Shared}(I:Inv X pins σ H s) (hf:∀ b∈fp,cf X pins H b) (J:Inv (X.comp scope Nc C s H fp) pins' σ' H' s'):Inv X pins σ H' s' :=
 I.call' J.os J.base J.hok J.bare λb hb=>⟨(hf b hb).2.2.2.1,(hf b hb).2.1,(hf b hb).2.2.2.2.1,(hf b hb).2.2.2.2.2⟩
theorem Inv.but {h':Heap}(I:Inv X pins σ H s) (hs:Heap.SameBut C s.heap h') (hn:H C=none) (h0:X.s₀.heap.objs.size<=C) (hl:C≠X.env.locals) (hc:∀ x c,X.env.cells.lookup x=some c->c≠C)
  (hp:∀ p∈X.pn++pins,p.1≠C):Inv X pins σ H { s with heap:=h' }:=by
 refine I.call' (s':={ s with heap:=h' }) (ch:=[C]) rfl ⟨λb o e _ _ hb=>hs.extBut b o (by simpa using hb) e,λb o e _ _ hb=>⟨o.slots,hs.extBut b o (by simpa using hb) e⟩,λb o _ n _=>n,λb o e hb=>⟨o,hs.extBut b o (by simpa using hb) e⟩,
  λ_ _ z=>z,λ_ _ _ z=>z,λb ps z=>⟨#[],by simpa using z⟩⟩ (λa o e=>?_) I.bare ?_
 ·refine (I.hok a o e).stay (λb u hb q=>hs.extBut b u ?_ q) (λ_ z=>z) λ_ _ z=>z
  rcases hb with rfl|hb
  ·exact λz=>by rw [z,hn] at e;cases e
  ·exact λz=>by rw [z,hn] at hb;cases hb
 ·intro b hb
  obtain rfl:b=C:=by simpa using hb
  exact ⟨.inr h0,hl,hc,hp⟩
def PTs (X:Cx) (ifs:List Expr) (t:TT):Prop :=
 ∀ (pins:List (Addr×Obj)) (s:Shared) (σ:St) (H:Hp) (Q:Bool->Hp->Prop),Inv X pins σ H s->t σ H Q ->
  wpAny (model X.prog X.w) X.A (forIn ifs true λc r=>if r=true then do let ok <- isTrue c X.env (eval c X.env);pure (ForInStep.yield ok) else pure (ForInStep.yield r)) (TP X pins σ Q) X.xe s
def EI:TT:=λ_ H Q=>Q true H
theorem AC:PTs X [] EI:=λ_ _ _ H _ I h=>wpAny_tests_nil ⟨H,I,h⟩
theorem AD {c:Expr}{t:TT}(h:PT X c t):PTs X [c] t:=λpins s σ H Q I hw=>wpAny_tests_one (h pins s σ H Q I hw)
variable {elt iter target:Expr}{ifs:List Expr}{pos:Pos}{n:Nat}{caps:List Nat}{wi:TI}{g:TG}{tt:TT}{te:TE}
end
section
variable {X:Cx}{K:PySem.W.Frag}
theorem g5 {es:List Expr}{k:Nat}{pos:Pos}{t:TGs}{n:Nat}(hK:X.K=K) (hc:X.calm=true) (h:PGs X es t)
  (hn:(assignEach es X.env).length=n:=by rfl) (hst:(assignEach es X.env).findIdx? (·.1)=none:=by rfl):PG X (.Tuple es k pos) (nE K n t):=by subst hK;exact Ch hc h hn hst
end
section
variable {K:PySem.W.Frag}{a D:Addr}{xs:List V}{n:Nat}{caps:List Nat}{g:TG}{tt:TT}{te:TE}{σ:St}{H1:Hp}{Q:Hp->Prop}
end
mutual
inductive DatV (K:PySem.W.Frag) (H:Hp):V->PyData->Prop
 |non:DatV K H .non .none
 |bl (b:Bool):DatV K H (.bl b) (.bool b)
 |int (i:Int):DatV K H (.int i) (.int i)
 |str (x:Str):DatV K H (.str x) (.str x)
 |lst {a:Addr}{xs:List V}{ds:List PyData}:SqL K H a xs->DatVs K H xs ds->DatV K H (.ref a) (.list ds)
 |tup {a:Addr}{xs:List V}{ds:List PyData}:SqT K H a xs->DatVs K H xs ds->DatV K H (.ref a) (.tuple ds)
inductive DatVs (K:PySem.W.Frag) (H:Hp):List V->List PyData->Prop
 |nil:DatVs K H [] []
 |cons {x:V}{xs:List V}{d:PyData}{ds:List PyData}:DatV K H x d->DatVs K H xs ds->DatVs K H (x::xs) (d::ds)
end
section
variable {X:Cx}{pins:List (Addr×Obj)}{σ:St}{H:Hp}{s:Shared}
mutual
theorem cF (I:Inv X pins σ H s):∀ {v:V}{d:PyData}{u:Value},DatV X.K H v d->aq v u->∃ as,Reads s.heap u d as
 |_,_,_,.non,r=>by cases (show _=Value.none from r);exact ⟨_,.none⟩
 |_,_,_,.bl b,r=>by cases (show _=Value.bool b from r);exact ⟨_,.bool b⟩
 |_,_,_,.int i,r=>by obtain ⟨t,rfl⟩:=r;exact ⟨_,.int i t⟩
 |_,_,_,.str x,r=>by obtain ⟨t,rfl⟩:=r;exact ⟨_,.str x t⟩
 |_,_,_,.lst (a:=a) hq hs,r=>by
  cases (show _=Value.ref a from r)
  obtain ⟨its,rv,pl,_⟩:=I.list hq
  obtain ⟨o,n,e,c,_,dd⟩:=pl
  obtain ⟨as,ra⟩:=kQ I hs rv
  exact ⟨_,.list e c dd (by simpa using ra)⟩
 |_,_,_,.tup (a:=a) hq hs,r=>by
  cases (show _=Value.ref a from r)
  obtain ⟨its,rv,pl,_⟩:=I.tuple hq
  obtain ⟨o,e,c,n,dd⟩:=pl
  obtain ⟨as,ra⟩:=kQ I hs rv
  exact ⟨_,.tuple e c dd (by simpa using ra)⟩
theorem kQ (I:Inv X pins σ H s):∀ {xs:List V}{ds:List PyData}{us:List Value},DatVs X.K H xs ds->al xs us->∃ as,ReadsAll s.heap us ds as
 |_,_,_,.nil,.nil=>⟨_,.nil⟩
 |_,_,_,.cons h hs,.cons r rs=>by
  obtain ⟨as,ra⟩:=cF I h r
  obtain ⟨bs,rb⟩:=kQ I hs rs
  exact ⟨_,.cons ra rb⟩
end
def vV (K:PySem.W.Frag) (neg:Bool):R2:=λx y H Q=>∃ dx dy,DatV K H x dx/\DatV K H y dy/\dx.canLay0=true/\dy.canLay0=true/\min dx.depth dy.depth<=64/\Q (.bl (neg ^^ PyData.eqv dx dy)) H
theorem CH (hu:X.A.units+64<cLine):OpR X (compareOp .Eq) (vV X.K false):=by
 intro pins s σ H x y v u Q I rx ry h
 obtain ⟨dx,dy,h1,h2,c1,c2,hd,q⟩:=h
 obtain ⟨as,ra⟩:=cF I h1 rx
 obtain ⟨bs,rb⟩:=cF I h2 ry
 exact PySem.SeqAt.compareEq_reads ra rb c1 c2 (by omega) ⟨.bl (PyData.eqv dx dy),H,I,rfl,by simpa using q⟩
theorem CI (hu:X.A.units+64<cLine):OpR X (compareOp .NotEq) (vV X.K true):=by
 intro pins s σ H x y v u Q I rx ry h
 obtain ⟨dx,dy,h1,h2,c1,c2,hd,q⟩:=h
 obtain ⟨as,ra⟩:=cF I h1 rx
 obtain ⟨bs,rb⟩:=cF I h2 ry
 exact PySem.SeqAt.compareNe_reads ra rb c1 c2 (by omega) ⟨.bl (!PyData.eqv dx dy),H,I,rfl,by simpa using q⟩
end
section
variable {prog:Program}{w:World}{A:Around}{R:Result->Shared->Prop}{I:Addr}{fp wr:List Addr}{n:Nat}{P:Nat->Value->Prop}{St:Nat->Heap->Prop}
theorem kP {E:Value->Shared->Prop}{s:Shared}{id:String}{b:Builtin}{args:List Value}{kw:List (Str×Value)}{Q:Value->Shared->Prop}(hk:builtinKind id=none) (hp:plainId id=true)
  (hb:entryFor table id=some b) (ha:argsOk id ⟨args,kw⟩)
  (hc:wpAny (model prog w) A.in1 (b ⟨args,kw⟩) (λfin s'=>match fin with
   |.done f=>(match (Except.ok f:Result) with|.ok (.ret v)=>Q v s'|.ok _=>False|.error e=>E e s')
   |.again c'=>c'.quiet=true/\codeAny (model prog w) A c' (λr s'=>match r with|.ok (.ret v)=>Q v s'|.ok _=>False|.error e=>E e s') s') E s) :
  wpAny (model prog w) A (call (.builtin id) args kw) Q E s:=by
 refine wpAny_call (codeAny_call_builtin hp hb ?_)
 simp only [checkBuiltinCall,hk]
 cases hsig:Manifest.signature? id with
 |none=>exact wpAny_pure hc
 |some sig =>
  simp only [argsOk,hsig] at ha
  have h2:Bind.checkArgs id sig ⟨args,kw⟩=pure ():=ha
  show wpAny _ A.in1 (Bind.checkArgs id sig ⟨args,kw⟩) _ _ s
  rw [h2];exact wpAny_pure hc
theorem x5 (a d:Value):argsOk "max" ⟨[a],[(Str.ofString "default",d)]⟩:=by unfold argsOk;kernel_rfl
theorem x6 (W:Walks prog w A.in1 I fp wr n P St) (bt:Nat->Nat->Bool) (hcmp:CmpOf prog w A.in1 .Gt P bt) (S:Addr) (hSf:S∉fp) (d:Value) :
  ∀ (k j:Nat) (s:Shared) (vb:Value) (c:Nat),n - (j+1)=k->j+1<=n->St (j+1) s.heap->P (argBest bt j) vb ->
  s.heap.get? S=some { cls:=.type "list",dict:=none,data:=.seq #[vb,vb] c,slots:=#[] } ->
  (∀ v h' tk,P (argBest bt (n - 1)) v->(∀ b o,b∉wr->b≠S->s.heap.get? b=some o->h'.get? b=some o)->R (.ok (.ret v)) { s with heap:=h',toks:=tk }) ->
  codeAny (model prog w) A (.builtin "max.loop" ⟨[.ref I,.none,.ref S],[(Str.ofString "default",d)]⟩) R s:=by
 have hSw:S∉wr:=λh=>hSf (W.sub _ h)
 have hname:(toString "max" ++ toString ".loop":String)="max.loop":=by decide
 intro k
 induction k with
 |zero =>
  intro j s vb c hk hj hst hPb hS hR
  have hin:j+1=n:=by omega
  refine codeAny_builtin F.entry_max_loop ?_
  rw [Around.under_plainId F.plain_max_loop _]
  show wpAny _ A.in1 (seqItems? (.ref S) >>= _) _ _ s
  refine wpAny_bind (wpAny_seqItems hS rfl ?_)
  show wpAny _ A.in1 (tryCatch (pyNext (.ref I)) _ >>= _) _ _ s
  refine wpAny_bind (wpAny_tryCatch (W.done s _ _ (hin ▸ hst) λh' tk hk'=>?_))
  have hS':=hk' S _ hSw hS
  show wpAny _ A.in1 (updateSeq S (λ_=>#[]) >>= _) _ _ _
  refine wpAny_bind ?_
  refine wpAny_updateSeq hS' rfl (wpAny_bind (wpAny_letGo (wpAny_pure ?_)))
  refine hR vb _ tk (by rw [<- hin];exact hPb) λb o hbw hbS e=>(Heap.get?_update_other _ _ (Ne.symm hbS)).trans (hk' b o hbw e)
 |succ k ih =>
  intro j s vb c hk hj hst hPb hS hR
  have hlt:j+1<n:=by omega
  refine codeAny_builtin F.entry_max_loop ?_
  rw [Around.under_plainId F.plain_max_loop _]
  show wpAny _ A.in1 (seqItems? (.ref S) >>= _) _ _ s
  refine wpAny_bind (wpAny_seqItems hS rfl ?_)
  show wpAny _ A.in1 (tryCatch (pyNext (.ref I)) _ >>= _) _ _ s
  refine wpAny_bind (wpAny_tryCatch (W.item (j+1) s _ _ hlt hst λv h' tk hP hst' hk'=>?_))
  have hS':=hk' S _ hSw hS
  show wpAny _ A.in1 (tryCatch (holding [v,v] (richCompare .Gt v vb >>= _)) _ >>= _) _ _ _
  refine wpAny_bind (wpAny_tryCatch (wpAny_holding (wpAny_bind (hcmp (j+1) (argBest bt j) v vb _ _ _ hP hPb ?_))))
  refine wpAny_bind (wpAny_holding (wpAny_truthy_bool ?_))
  refine wpAny_bind (wpAny_letGo (wpAny_pure ?_))
  cases hb:bt (j+1) (argBest bt j) with
  |true =>
   simp only [if_true]
   refine wpAny_bind ?_
   refine wpAny_updateSeq hS' rfl (wpAny_bind (wpAny_letGo ?_))
   rw [hname]
   refine wpAny_pure ⟨plainId_quiet F.plain_max_loop _,ih (j+1) _ v _ (by omega) hlt (W.frame _ _ _ hst' λb hbf o e=>?_) (by simp only [argBest,hb,if_true];exact hP) (Heap.get?_update_self _ hS' rfl)
    λv' h'' tk'' hP' hk''=>?_⟩
   ·exact (Heap.get?_update_other _ _ (λh:S=b=>hSf (by rw [h];exact hbf))).trans e
   ·exact hR v' h'' tk'' hP' λb o hbw hbS e=>hk'' b o hbw hbS ((Heap.get?_update_other _ _ (Ne.symm hbS)).trans (hk' b o hbw e))
  |false =>
   simp only [Bool.false_eq_true,if_false]
   refine wpAny_bind (wpAny_letGo ?_)
   rw [hname]
   refine wpAny_pure ⟨plainId_quiet F.plain_max_loop _,ih (j+1) _ vb c (by omega) hlt hst' (by simp only [argBest,hb,Bool.false_eq_true,if_false];exact hPb) hS' λv' h'' tk'' hP' hk''=>?_⟩
   exact hR v' h'' tk'' hP' λb o hbw hbS e=>hk'' b o hbw hbS (hk' b o hbw e)
theorem wX {E:Value->Shared->Prop}{s:Shared}{x d:Value}{Q:Value->Shared->Prop}
  (h:wpAny (model prog w) A.in1 (pyIter x) (λit s₂=>∃ I fp wr n P St bt,it=.ref I/\Walks prog w A.in1 I fp wr n P St/\St 0 s₂.heap/\(∀ b∈fp,b<s₂.heap.objs.size)/\CmpOf prog w A.in1 .Gt P bt /\
   (n=0->∀ h' tk,(∀ b o,b∉wr->s₂.heap.get? b=some o->h'.get? b=some o)->Q d { s₂ with heap:=h',toks:=tk }) /\
   (0<n->∀ v h' tk,P (argBest bt (n - 1)) v->(∀ b o,b∉wr->s₂.heap.get? b=some o->h'.get? b=some o)->Q v { s₂ with heap:=h',toks:=tk })) E s) :
  wpAny (model prog w) A (call (.builtin "max") [x] [(Str.ofString "default",d)]) Q E s:=by
 have hname:(toString "max" ++ toString ".loop":String)="max.loop":=by decide
 refine kP F.kind_max F.plain_max F.entry_max (x5 _ _) ?_
 show wpAny _ A.in1 (Builtin.Builtins.bindParams "max" ["key","default"] 0 ⟨[],[(Str.ofString "default",d)]⟩ >>= _) _ _ s
 refine wpAny_bind (wpAny_of_eq (show Builtin.Builtins.bindParams "max" ["key","default"] 0 ⟨[],[(Str.ofString "default",d)]⟩=pure [none,some d] from rfl) ?_)
 refine wpAny_bind (wpAny_pure ?_)
 refine wpAny_bind (wpAny_mono h (λit s₂ h₂=>?_) λ_ _ e=>e)
 obtain ⟨I,fp,wr,n,P,St,bt,rfl,W,hst,hfp,hcmp,hQ0,hQ⟩:=h₂
 refine wpAny_bind (wpAny_newObj_type ?_)
 have hSf:s₂.heap.objs.size∉fp:=λhm=>Nat.lt_irrefl _ (hfp _ hm)
 have hSw:s₂.heap.objs.size∉wr:=λh=>hSf (W.sub _ h)
 rw [hname]
 have hst1:St 0 (s₂.heap.push { cls:=.type "list",dict:=none,data:=.seq #[] 0 }):=W.frame _ _ _ hst λb _ o e=>Heap.get?_push_of_some _ e
 refine wpAny_pure ⟨plainId_quiet F.plain_max_loop _,?_⟩
 refine codeAny_builtin F.entry_max_loop ?_
 rw [Around.under_plainId F.plain_max_loop _]
 show wpAny _ A.in1 (seqItems? (.ref s₂.heap.objs.size) >>= _) _ _ _
 refine wpAny_bind (wpAny_seqItems (Heap.get?_push_size _ rfl) rfl ?_)
 show wpAny _ A.in1 (tryCatch (pyNext (.ref I)) _ >>= _) _ _ _
 rcases Nat.eq_zero_or_pos n with hn|hn
 ·refine wpAny_bind (wpAny_tryCatch (W.done _ _ _ (hn ▸ hst1) λh' tk hk'=>?_))
  show wpAny _ A.in1 (rule _ >>= _) _ _ _
  refine wpAny_bind (wpAny_rule (wpAny_pure ?_))
  exact hQ0 hn h' tk λb o hbw e=>hk' b o hbw (Heap.get?_push_of_some _ e)
 ·refine wpAny_bind (wpAny_tryCatch (W.item 0 _ _ _ hn hst1 λv h' tk hP hst' hk'=>?_))
  have hS':=hk' s₂.heap.objs.size _ hSw (Heap.get?_push_size _ rfl)
  show wpAny _ A.in1 (updateSeq s₂.heap.objs.size (λ_=>#[v,v]) >>= _) _ _ _
  refine wpAny_bind ?_
  refine wpAny_updateSeq hS' rfl ?_
  rw [hname]
  refine wpAny_pure ⟨plainId_quiet F.plain_max_loop _,x6 W bt hcmp s₂.heap.objs.size hSf d _ 0 _ v _ rfl hn (W.frame _ _ _ hst' λb hbf o e=>?_) hP (Heap.get?_update_self _ hS' rfl) λv' h'' tk'' hP' hk''=>?_⟩
  ·exact (Heap.get?_update_other _ _ (λh:s₂.heap.objs.size=b=>hSf (by rw [h];exact hbf))).trans e
  ·exact hQ hn v' h'' tk'' hP' λb o hbw e=>hk'' b o hbw (Nat.ne_of_lt (Heap.lt_size e)) ((Heap.get?_update_other _ _ (Nat.ne_of_lt (Heap.lt_size e)).symm).trans (hk' b o hbw (Heap.get?_push_of_some _ e)))
end
theorem fR {α:Type}{l:List α}{i:Nat}{d:α}(h:i<l.length):l.getD i d=l[i]:=by simp [h]
def gF (ns:List Int) (i j:Nat):Bool:=decide (ns.getD j 0<ns.getD i 0)
theorem i8 (ns:List Int):∀ k i,i<=k->ns.getD i 0<=ns.getD (argBest (gF ns) k) 0
 |0,i,h=>by
  obtain rfl:i=0:=by omega
  exact Int.le_refl _
 |k+1,i,h=>by
  unfold argBest
  by_cases hb:gF ns (k+1) (argBest (gF ns) k)=true
  ·rw [if_pos hb]
   have hb':=of_decide_eq_true hb
   by_cases e:i=k+1
   ·rw [e];exact Int.le_refl _
   ·have:=i8 ns k i (by omega)
    omega
  ·rw [if_neg hb]
   by_cases e:i=k+1
   ·have hb':=of_decide_eq_false (Bool.eq_false_iff.mpr hb)
    rw [e];omega
   ·exact i8 ns k i (by omega)
theorem jL {us:List Value}{ns:List Int}(r:al (ns.map V.int) us){i:Nat}{v:Value}(h:us.toArray[i]?=some v):i<ns.length/\∃ t,v=.int (ns.getD i 0) t:=by
 have h':us[i]?=some v:=by simpa using h
 have hl:i<us.length:=(List.getElem?_eq_some_iff.mp h').1
 have hn:=r.length
 rw [List.length_map] at hn
 have hi:i<ns.length:=by omega
 obtain ⟨u,h1,h2⟩:=r.get (i:=i) (x:=.int (ns.getD i 0)) (by simp [hi])
 rw [h'] at h1
 injection h1 with h1
 subst h1
 exact ⟨hi,h2⟩
theorem jt {s:Shared}{b:Addr}{o:Obj}(e:s.heap.get? b=some o):b∉[s.heap.objs.size]:=λz=>by
 have h:=Heap.lt_size e
 rw [List.mem_singleton.mp z] at h
 exact Nat.lt_irrefl _ h
theorem qg {s:Shared}{p:Addr}{its:Array Value}{o':Obj}(il:s.heap.IsList p its):∀ b∈[s.heap.objs.size,p],b<(s.heap.push o').objs.size:=λb hb=>by
 obtain ⟨o,e,_⟩:=il
 rw [Heap.size_push]
 rcases List.mem_cons.mp hb with h|h
 ·rw [h];exact Nat.lt_succ_self _
 ·rw [List.mem_singleton.mp h];exact Nat.lt_succ_of_lt (Heap.lt_size e)
section
variable {X:Cx}
theorem qh {pins:List (Addr×Obj)}{σ:St}{H:Hp}{s:Shared}{p:Addr}{ns:List Int}(hc:X.calm=true) (I:Inv X pins σ H s) (hS:SqL X.K H p (ns.map V.int)) :
  ∃ its:List Value,al (ns.map V.int) its/\its.length=ns.length/\s.heap.IsList p its.toArray/\CmpOf X.prog X.w X.A.in1 .Gt (λi v=>its.toArray[i]?=some v) (gF ns) /\
   Walks X.prog X.w X.A.in1 s.heap.objs.size [s.heap.objs.size,p] [s.heap.objs.size] its.toArray.size (λi v=>its.toArray[i]?=some v) (λi h=>h.IsListIter s.heap.objs.size p i/\h.IsList p its.toArray):=by
 obtain ⟨its,rv,pl,hz⟩:=I.list hS
 have hl:=rv.length
 rw [List.length_map] at hl
 refine ⟨its,rv,hl.symm,pl.isList,λi j vi vj s Q E hi hj q=>?_,Walks.list (A:=X.A.in1) (I.ok.hd hc) _ _ ?_ _⟩
 ·obtain ⟨_,t,rfl⟩:=jL rv hi
  obtain ⟨_,t',rfl⟩:=jL rv hj
  exact gt_int q
 ·obtain ⟨o,n,e,_⟩:=pl
  exact Nat.ne_of_lt (Heap.lt_size e)
theorem x8 (hc:X.calm=true):aX X (.builtin "max") (λxs H Q=>∃ p ns,xs=[.ref p]/\SqL X.K H p (ns.map V.int)/\ns≠[]/\∀ m,m∈ns->(∀ x∈ns,x<=m)->Q (.int m) H):=by
 intro pins s σ H xs us Q I r h
 obtain ⟨p,ns,rfl,hS,hne,q⟩:=h
 obtain ⟨u,rfl,ru⟩:=bg r
 cases ru
 obtain ⟨its,rv,hl,il,hcmp,W⟩:=qh hc I hS
 refine call_max_walk (wpAny_pyIter_list il ⟨_,_,_,_,_,_,gF ns,rfl,W,⟨⟨_,Heap.get?_push_size _ rfl,rfl,rfl⟩,il.push _⟩,qg il,?_,hcmp,λv h' tk hP hk=>?_⟩)
 ·have:0<ns.length:=List.length_pos_iff.mpr hne
  rw [List.size_toArray];omega
 ·obtain ⟨hi,t,rfl⟩:=jL rv hP
  refine ⟨.int _,H,I.kept λb o e=>hk b o (jt e) (Heap.get?_push_of_some _ e),⟨t,rfl⟩,q _ ?_ λx hx=>?_⟩
  ·rw [fR hi];exact List.getElem_mem hi
  ·obtain ⟨j,hj,rfl⟩:=List.mem_iff_getElem.mp hx
   have:=i8 ns (its.toArray.size - 1) j (by rw [List.size_toArray];omega)
   rw [fR hj] at this
   exact this
def hZ (X:Cx) (f:Value) (ks:List Str) (r:List V->List V->Hp->VK->Prop):Prop :=
 ∀ (pins:List (Addr×Obj)) (s:Shared) (σ:St) (H:Hp) (xs zs:List V) (us ws:List Value) (Q:VK),Inv X pins σ H s->al xs us->al zs ws->r xs zs H Q ->
  wpAny (model X.prog X.w) X.A (call f us (ks.zip ws)) (EP X pins σ Q) X.xe s
def nH (r:List V->List V->Hp->VK->Prop) (t tk:TA):TE:=λσ H Q=>t σ H λvs H1=>tk σ H1 λzs H2=>r vs zs H2 Q
theorem pP {x:Str}{p pos:Pos}{e:Expr}{es:List Expr}{kws:List Keyword}{t tk:TA}{id:String}{ks:List Str}{r:List V->List V->Hp->VK->Prop}(hc:hZ X (.builtin id) ks r) (hg:Gl X x) (hm:X.mg x=none)
  (hv:bootBuiltins x=some (.builtin id)) (ha:PA X (e::es) t) (hkw:PK X kws tk) (hks:(backToKw pos (keywordEach kws X.env)).filterMap (·.1)=ks:=by rfl) (hn:x ≠ "__name__":=by decide) (hdb:(x==("__debug__":Str))=false:=by decide)
  (he:backTo pos (starEach (e::es) X.env)=(false,eval e X.env)::backTo pos (starEach es X.env):=by rfl)
  (hplain:(backTo pos (starEach (e::es) X.env)).any (·.1)=false:=by rfl)
  (hall:(backToKw pos (keywordEach kws X.env)).all (·.1.isSome)=true:=by rfl)
  (hkw2:(backToKw pos (keywordEach kws X.env)).any (·.1.isNone)=false:=by rfl):PE X (.Call (.Name x p) (e::es) kws pos) (nH r t tk):=by
 intro pins s σ H Q I h
 refine wpAny_Call_Name_kw (hJ I hg hm hv ?_ hn hdb)
 refine PyProof.Rows.callWith_kw (thn (ha pos pins s σ H _ I h) λus s1 ⟨vs,H1,I1,r1,q1⟩=>thn (hkw pos pins s1 σ H1 _ I1 q1) λws s2 ⟨zs,H2,I2,r2,q2⟩=>?_) he hplain hall hkw2
 rw [hks]
 exact hc pins s2 σ H2 vs zs us ws Q I2 r1 r2 q2
theorem x9 (hc:X.calm=true):hZ X (.builtin "max") ["default"] (λxs zs H Q=>∃ p ns d,xs=[.ref p]/\zs=[d]/\SqL X.K H p (ns.map V.int)/\(ns=[]->Q d H)/\(ns≠[]->∀ m,m∈ns->(∀ x∈ns,x<=m)->Q (.int m) H)):=by
 intro pins s σ H xs zs us ws Q I r rz h
 obtain ⟨p,ns,d,rfl,rfl,hS,q0,q⟩:=h
 obtain ⟨u,rfl,ru⟩:=bg r
 obtain ⟨v,rfl,rv'⟩:=bg rz
 cases ru
 obtain ⟨its,rv,hl,il,hcmp,W⟩:=qh hc I hS
 show wpAny _ _ (call (.builtin "max") [.ref p] [(Str.ofString "default",v)]) _ _ s
 refine wX (wpAny_pyIter_list il ⟨_,_,_,_,_,_,gF ns,rfl,W,⟨⟨_,Heap.get?_push_size _ rfl,rfl,rfl⟩,il.push _⟩,qg il,hcmp,λh0 h' tk hk=>?_,λh0 v h' tk hP hk=>?_⟩)
 ·have hn:ns=[]:=List.length_eq_zero_iff.mp (hl.symm.trans (by simpa using h0))
  exact ⟨d,H,I.kept λb o e=>hk b o (jt e) (Heap.get?_push_of_some _ e),rv',q0 hn⟩
 ·have hn:ns≠[]:=λe=>by
   rw [e] at hl
   have h0':0<its.length:=by simpa using h0
   rw [hl] at h0'
   exact Nat.lt_irrefl _ h0'
  obtain ⟨hi,t,rfl⟩:=jL rv hP
  refine ⟨.int _,H,I.kept λb o e=>hk b o (jt e) (Heap.get?_push_of_some _ e),⟨t,rfl⟩,q hn _ ?_ λx hx=>?_⟩
  ·rw [fR hi];exact List.getElem_mem hi
  ·obtain ⟨j,hj,rfl⟩:=List.mem_iff_getElem.mp hx
   have:=i8 ns (its.toArray.size - 1) j (by rw [List.size_toArray];omega)
   rw [fR hj] at this
   exact this
end
def Its (x:Str):It:=⟨λi _=>i<x.cps.toList.length,λi H v H'=>H'=H/\∃ c,x.cps.toList[i]?=some c/\v=.str ⟨#[c]⟩,λi _=>x.cps.toList.length<=i⟩
theorem qi {P:Program}{w:World}{K:PySem.W.Frag}{tg:Expr}(it:Addr) (x:Str) (t:Tok) (ty:String) (hty:ty="str_ascii_iterator" \/ ty="str_iterator"):Turn P w K tg (Its x) [it] it (λi h=>h.IsStrIter it ty x t i) where
 mem:=by simp
 obj:=λi h st b hb=>by
  have e:b=it:=by simpa using hb
  subst e
  obtain ⟨o,e,c,d⟩:=st
  exact ⟨o,e,λv z=>by rw [d] at z;cases z⟩
 keep:=λi h h' st k=>let ⟨o,ho,r⟩:=st;⟨o,k it (by simp) o ho,r⟩
 item:=by
  intro X hP hw hK hc i pins s σ H E I hf st hg
  subst hP hw hK
  obtain ⟨f0,f1,f2,f3,f4,f5⟩:=hf it (by simp)
  have hi:i<x.cps.size:=by simpa [Its] using hg
  have hx:x.cps[i]?=some x.cps[i]:=by simp [hi]
  have fin:∀ h',h'.IsStrIter it ty x t (i+1)->Heap.SameBut it s.heap h'->(∃ u,some (Value.str ⟨#[x.cps[i]]⟩ s.toks)=some u /\
    wpAny (model X.prog X.w) X.A (letOwnedTupleGo tg (.ref it) u) (λ_ s2=>∃ y H',Inv X pins σ H' s2/\aq y u/\(Its x).yld i H y H'/\s2.heap.IsStrIter it ty x t (i+1)/\∀ b∈[it],H' b=none) E { s with heap:=h',toks:=s.toks+1 }):=λh' st' sb=>by
   have I1:Inv X pins σ H { s with heap:=h',toks:=s.toks+1 }:=I.turned (λb o hb e=>(sb.2 b hb).trans e) f0 f1 f3 f4 f5
   obtain ⟨o,e,c,d⟩:=id st'
   refine ⟨_,rfl,mX (s:={ s with heap:=h',toks:=s.toks+1 }) (n:=ty) e c d (by rcases hty with rfl|rfl<;>decide) ⟨.str ⟨#[x.cps[i]]⟩,H,I1,⟨_,rfl⟩,⟨rfl,x.cps[i],by simp [hi],rfl⟩,st',λb hb=>(hf b hb).1⟩⟩
  rcases hty with rfl|rfl
  ·exact wpAny_pyNext_ascii_item st hx λh' st' sb=>fin h' st' sb
  ·exact wpAny_pyNext_wide_item st hx λh' st' sb=>fin h' st' sb
 done:=by
  intro X hP hw hK hc i pins s σ H E I hf st hg
  subst hP hw hK
  obtain ⟨f0,f1,f2,f3,f4,f5⟩:=hf it (by simp)
  have hi:x.cps.size<=i:=by simpa [Its] using hg
  have hx:x.cps[i]?=none:=by simp [hi]
  rcases hty with rfl|rfl
  ·exact wpAny_pyNext_ascii_end (I.ok.hd hc) st hx λh' eb=>⟨rfl,I.turned (t':=s.toks) (λb o hb e=>eb b o hb e) f0 f1 f3 f4 f5⟩
  ·exact wpAny_pyNext_wide_end (I.ok.hd hc) st hx λh' eb=>⟨rfl,I.turned (t':=s.toks) (λb o hb e=>eb b o hb e) f0 f1 f3 f4 f5⟩
 self:=λ_ _ _ _ _ st h=>by
  rcases hty with rfl|rfl
  ·exact wpAny_pyIter_striter_ascii st h
  ·exact wpAny_pyIter_striter_wide st h
section
variable {X:Cx}{tg:Expr}
def He (tl:TE):TI:=λσ H R=>tl σ H λx H1=>∃ z,x=.str z/\R (Its z) H1
theorem CJ {l:Expr}{tl:TE}(hl:PE X l tl):PI X tg l (He tl):=by
 intro pins s σ H R I h
 refine thn (hl pins s σ H _ I h) λv s1 zz41=>?_
 obtain ⟨x,H1,I1,r1,q1⟩:=zz41
 obtain ⟨z,e,q⟩:=q1
 subst e
 obtain ⟨t,rfl⟩:=r1
 have fp:∀ b∈[s1.heap.objs.size],cf X pins H1 b:=λb hb=>by
  have e:b=s1.heap.objs.size:=by simpa using hb
  subst e
  exact I1.fpOk (Nat.le_refl _) (I1.hok.fresh (Nat.le_refl _))
 cases ha:z.cps.all (·<128)
 ·exact wpAny_pyIter_wide ha ⟨s1.heap.objs.size,[s1.heap.objs.size],_,_,H1,rfl,I1.kept (t':=s1.toks) λb o e=>Heap.get?_push_of_some _ e,qi _ z t "str_iterator" (.inr rfl),⟨_,Heap.get?_push_size _ rfl,rfl,rfl⟩,fp,q⟩
 ·exact wpAny_pyIter_ascii ha ⟨s1.heap.objs.size,[s1.heap.objs.size],_,_,H1,rfl,I1.kept (t':=s1.toks) λb o e=>Heap.get?_push_of_some _ e,qi _ z t "str_ascii_iterator" (.inl rfl),⟨_,Heap.get?_push_size _ rfl,rfl,rfl⟩,fp,q⟩
end
section
variable {X:Cx}
theorem ya:OpR X (compareOp .LtE) (λx y H Q=>∃ i j,x=.str i/\y=.str j/\Q (.bl (!decide (j.cps.toList<i.cps.toList))) H):=by
 intro pins s σ H x y v u Q I rx ry h
 obtain ⟨i,j,rfl,rfl,q⟩:=h
 obtain ⟨t,rfl⟩:=rx
 obtain ⟨t',rfl⟩:=ry
 exact PySem.P.le_str (aL I q rfl)
def Hf:V->Option Int->Option Int->Hp->VK->Prop:=λx lo hi H Q=>∃ z,x=.str z/\z.length<=sizeLine/\Q (.str (Txt.slice z lo hi)) H
theorem ju {v:Value}{o:Option Int}(p:IsPart v o):∃ q:Option (Int×Tok),v=partValue q/\q.map (·.1)=o:=by
 cases p with
 |none=>exact ⟨none,rfl,rfl⟩
 |int i t=>exact ⟨some (i,t),rfl,rfl⟩
theorem CK:SlR X Hf:=by
 intro pins s σ H x v vl vu lo hi sl Q I rx hs pl pu h
 obtain ⟨z,rfl,hz,q⟩:=h
 obtain ⟨t,rfl⟩:=rx
 obtain ⟨ql,rfl,rfl⟩:=ju pl
 obtain ⟨qu,rfl,rfl⟩:=ju pu
 obtain ⟨o,ho,hc,hd⟩:=hs
 refine ⟨"str",_,F.slot_str_getitem.lookup,typeIs_str _ _ _,wpAny_getItem_str_slice (l:=ql) (u:=qu) (st:=none) ⟨o,ho,hc,hd⟩ rfl (post_val_or_str ⟨Nat.le_trans (Txt.slice_le z _ _) hz,λt' k=>?_⟩)⟩
 exact ⟨.str (Txt.slice z (ql.map (·.1)) (qu.map (·.1))),H,I.tok k,⟨t',rfl⟩,q⟩
theorem yb (hc:X.calm=true):aX X (.builtin "all") (λxs H Q=>∃ (p:Addr) (bs:List Bool),xs=[.ref p]/\SqL X.K H p (bs.map V.bl)/\Q (.bl (bs.all id)) H):=by
 intro pins s σ H xs us Q I r h
 obtain ⟨p,bs,rfl,hS,q⟩:=h
 obtain ⟨u,rfl,ru⟩:=bg r
 cases ru
 obtain ⟨its,rv,pl,hz⟩:=I.list hS
 have il:=pl.isList
 have hl:=rv.length
 rw [List.length_map] at hl
 have bAt:∀ {i:Nat}{v:Value},its.toArray[i]?=some v->v=.bool (bs.getD i true):=fun {i v} h=>by
  have h':its[i]?=some v:=by simpa using h
  have hi:i<its.length:=(List.getElem?_eq_some_iff.mp h').1
  have hb:i<bs.length:=by omega
  obtain ⟨u,h1,h2⟩:=rv.get (i:=i) (x:=.bl (bs.getD i true)) (by simp [hb])
  rw [h'] at h1
  injection h1 with h1
  subst h1
  exact h2
 have W:=Walks.list (prog:=X.prog) (w:=X.w) (A:=X.A.in1) (I.ok.hd hc) s.heap.objs.size p (by
  obtain ⟨o,n,e,_⟩:=pl
  exact Nat.ne_of_lt (Heap.lt_size e)) its.toArray
 refine call_all_walk (wpAny_pyIter_list il ⟨_,_,_,_,_,_,λi=>bs.getD i true,rfl,W,⟨⟨_,Heap.get?_push_size _ rfl,rfl,rfl⟩,il.push _⟩,λi v s Q E hv hq=>?_,λh' tk hk=>?_⟩)
 ·rw [bAt hv]
  exact wpAny_truthy_bool hq
 ·refine ⟨.bl _,H,I.kept λb o e=>hk b o (jt e) (Heap.get?_push_of_some _ e),?_,q⟩
  show Value.bool _=Value.bool _
  congr 1
  have e1:its.toArray.size=bs.length:=by rw [List.size_toArray];omega
  rw [e1]
  clear q hS rv bAt W hl e1
  rw [Bool.eq_iff_iff,List.all_eq_true,List.all_eq_true]
  constructor
  ·intro h b hb
   obtain ⟨i,hi,rfl⟩:=List.mem_iff_getElem.mp hb
   have:=h i (List.mem_range.mpr hi)
   rw [fR hi] at this
   exact this
  ·intro h i hi
   have hi':=List.mem_range.mp hi
   rw [fR hi']
   exact h _ (List.getElem_mem hi')
def CL:V->List V->Hp->VK->Prop:=λx vs H Q=>∃ a b,x=.str a/\vs=[.str b]/\b.length≠0/\a.length<=1000/\∀ l,H l=none->Q (.ref l) (upd H l (.lst ((Txt.split a b).map V.str)))
theorem pQ:∀ {l:List (Str×Tok)},al (l.map λp=>V.str p.1) (strValues l)
 |[]=>.nil
 |(x,t)::r=>.cons ⟨t,rfl⟩ pQ
theorem yZ:MtR X "str.split" CL:=by
 intro pins s σ H x vs v us Q I rx rv h
 obtain ⟨a,b,rfl,rfl,hb,hz,q⟩:=h
 obtain ⟨t,rfl⟩:=rx
 obtain ⟨u,rfl,t2,rfl⟩:=bg rv
 have hlen:=PyProof.Rows.split_le a b
 have hy:(b.length==0)=false:=by simpa using hb
 have hbig:1002<=sizeLine:=by decide
 have hsz:a.length<=sizeLine:=by omega
 have fin:∀ (l:List (Str×Tok)) (k:Nat),l.map (·.1)=Txt.split a b->EP X pins σ Q (.ref s.heap.objs.size) { s with heap:=s.heap.push { cls:=.type "list",data:=.seq (strValues l).toArray },toks:=k }:=λl k e=>by
  have e1:l.length=(Txt.split a b).length:=by rw [<- e,List.length_map]
  have e2:(l.map λp=>V.str p.1)=(Txt.split a b).map V.str:=by rw [<- e,List.map_map];rfl
  refine ⟨.ref _,_,I.lnew (its:=strValues l) (ys:=l.map λp=>V.str p.1) pQ (by rw [List.length_map];omega),rfl,?_⟩
  rw [e2]
  exact q _ I.fresh
 cases h1:(decide (a.length<b.length) || decide (Builtin.Str.strKind a<Builtin.Str.strKind b))
 ·cases hf:(Builtin.Str.occurrences a b 0 a.length (a.length+1)).isEmpty
  ·have e3:Txt.split a b=Builtin.Str.partsBetween a (Builtin.Str.occurrences a b 0 a.length (a.length+1)) b.length:=(if_neg (ne_true_of_eq_false h1)).trans (if_neg (ne_true_of_eq_false hf))
   have hsz2:(Builtin.Str.partsBetween a (Builtin.Str.occurrences a b 0 a.length (a.length+1)) b.length).length<=sizeLine:=by rw [<- e3];omega
   refine call_meets F.slot_str_split (typeIs_str _ _ _) F.entry_str_split (F.args_str_split_2 _ _) (meets_str_split_sep a b t t2 h1 hy hf hsz hsz2) ?_
   show wants _ _ _ { s with toks:=_,heap:=s.heap.push { cls:=.type "list",data:=.seq (strsFrom s.toks (Builtin.Str.partsBetween a (Builtin.Str.occurrences a b 0 a.length (a.length+1)) b.length)).toArray } }
   rw [strsFrom_eq]
   exact fin (numbered s.toks _) _ ((numbered_texts _ _).trans e3.symm)
  ·exact call_meets F.slot_str_split (typeIs_str _ _ _) F.entry_str_split (F.args_str_split_2 _ _) (meets_str_split_not_found a b t t2 h1 hy hf)
    (fin [(a,t)] s.toks ((if_neg (ne_true_of_eq_false h1)).trans (if_pos hf)).symm)
 ·exact call_meets F.slot_str_split (typeIs_str _ _ _) F.entry_str_split (F.args_str_split_2 _ _) (meets_str_split_cannot_occur a b t t2 h1)
   (fin [(a,t)] s.toks (if_pos h1).symm)
theorem rm:∀ {zs:List Str}{its:List Value},al (zs.map V.str) its->∃ l:List (Str×Tok),its=strValues l/\l.map (·.1)=zs
 |[],_,r=>by
  rw [List.map_nil] at r
  cases r
  exact ⟨[],rfl,rfl⟩
 |z::zs,_,r=>by
  rw [List.map_cons] at r
  cases r with
  |cons r1 r2 =>
   obtain ⟨t,rfl⟩:=r1
   obtain ⟨l,rfl,e⟩:=rm r2
   exact ⟨(z,t)::l,rfl,by rw [List.map_cons,e]⟩
def EJ (K:PySem.W.Frag):V->List V->Hp->VK->Prop:=λx vs H Q=>∃ (a:Str) (p:Addr) (zs:List Str),x=.str a/\vs=[.ref p]/\SqL K H p (zs.map V.str)/\JoinOk a zs=true/\Q (.str (Txt.join a zs)) H
theorem AE:MtR X "str.join" (EJ X.K):=by
 intro pins s σ H x vs v us Q I rx rv h
 obtain ⟨a,p,zs,rfl,rfl,hS,hok,q⟩:=h
 obtain ⟨t,rfl⟩:=rx
 obtain ⟨u,rfl,ru⟩:=bg rv
 cases ru
 obtain ⟨its,r,pl,hz⟩:=I.list hS
 obtain ⟨l,rfl,e⟩:=rm r
 exact SC.join pl.isList e hok λt' k=>⟨.str (Txt.join a zs),H,I.tok k,⟨t',rfl⟩,q⟩
end
def bc (D:Addr) (zs:List V):HO:=.ext λh=>zs.length<=sizeLine/\∃ (its:List Value) (n:Nat),al zs its/\h.get? D=some { cls:=.type "list",data:=.seq its.toArray n }
theorem Inv.toAcc {X:Cx}{pins:List (Addr×Obj)}{σ:St}{H:Hp}{s:Shared}{D:Addr}{zs:List V}(I:Inv X pins σ H s) (h:H D=some (.lst zs)):Inv X pins σ (upd H D (bc D zs)) s:=by
 obtain ⟨z,its,n,r,e⟩:=I.hok D _ h
 obtain ⟨hh,g,d,t,os⟩:=s
 exact I.write (t':=t) (h':=hh) (x:=D) (e:=D) (by rw [h];trivial) (.inl rfl) (λb u _ q=>q) ⟨_,e⟩ ⟨⟨z,its,n,r,e⟩,⟨_,e⟩,λh1 h2 zz42 k=>by obtain ⟨z',its',n',r',e'⟩:=zz42;exact ⟨z',its',n',r',k _ e'⟩⟩
theorem Inv.ofAcc {X:Cx}{pins:List (Addr×Obj)}{σ:St}{H:Hp}{s:Shared}{D:Addr}{zs:List V}(I:Inv X pins σ H s) (h:H D=some (bc D zs)):Inv X pins σ (upd H D (.lst zs)) s:=by
 obtain ⟨⟨z,its,n,r,e⟩,_,_⟩:=I.hok D _ h
 obtain ⟨hh,g,d,t,os⟩:=s
 exact I.write (t':=t) (h':=hh) (x:=D) (e:=D) (by rw [h];trivial) (.inl rfl) (λb u _ q=>q) ⟨_,e⟩ ⟨z,its,n,r,e⟩
section
variable {X:Cx}{pins:List (Addr×Obj)}{σ:St}{H:Hp}{s:Shared}{scope:Scope}{Nc:List Str}{fp:List Addr}{C:Addr}
def sX (J:It) (n:Nat) (caps:List Nat) (g:TG) (tt:TT) (te:TE) (σ:St) (H1:Hp) (Q:VK):Prop:=∀ D,H1 D=none->∃ W:Nat->Nat->List V->St->Hp->Prop,(∃ m,W 0 m [] (fX n caps σ) (upd H1 D (bc D [])))/\∀ i m zs σc H,W i m zs σc H ->
 H D=some (bc D zs)/\((J.stop i H/\Q (.ref D) (upd H D (.lst zs)))\/(J.go i H/\∃ N:List V->St->Hp->Prop,(∀ zs' σ' H',N zs' σ' H'->∃ m',m'<m/\W (i+1) m' zs' σ' H')/\∀ x H',J.yld i H x H'->g x σc H' λσ2 H2=>tt σ2 H2 λb H3 =>
  if b=true then te σ2 H3 λy H4=>H4 D=some (bc D zs)/\zs.length<sizeLine/\N (zs++[y]) σ2 (upd H4 D (bc D (zs++[y]))) else N zs σ2 H3))
def mC (wi:TI) (n:Nat) (caps:List Nat) (g:TG) (tt:TT) (te:TE):TE:=λσ H Q=>wi σ H λJ H1=>sX J n caps g tt te σ H1 Q
variable {elt iter target:Expr}{ifs:List Expr}{pos:Pos}{n:Nat}{caps:List Nat}{wi:TI}{g:TG}{tt:TT}{te:TE}
theorem oW {J:It}{it:Addr}{tn:Nat->Heap->Prop}{Q:VK}{E:Value->Shared->Prop}{RR:Value->Addr->Result->Shared->Prop}(hcalm:X.calm=true) (S:CompSc X scope) (hcp:eJ X.N Nc scope n caps=true)
  (hg:∀ C s₀ H₀ ex,PG (X.comp scope Nc C s₀ H₀ ex) target g) (ht:∀ C s₀ H₀ ex,PTs (X.comp scope Nc C s₀ H₀ ex) ifs tt) (he:∀ C s₀ H₀ ex,PE (X.comp scope Nc C s₀ H₀ ex) elt te)
  (I:Inv X pins σ H s) (T:Turn X.prog X.w X.K target J fp it tn) (t0:tn 0 s.heap) (hf:∀ b∈fp,cf X pins H b) (hw:sX J n caps g tt te σ H Q)
  (fin:∀ (D:Addr) (s':Shared) (H':Hp) (m:Str->Option Value),Inv X pins σ H' s'->H' (s.heap.objs.size+1)=none->s'.heap.Ns (s.heap.objs.size+1) m->Q (.ref D) H'->RR (.ref D) (s.heap.objs.size+1) (.ok .next) s') :
  wpAny (model X.prog X.w) X.A (newList []) (λacc s₃=>wpAny (model X.prog X.w) X.A (newFunctionEnv scope X.env.globals (cu scope X.env) [] X.env.qual none .none (some X.env)) (λcenv s₄ =>
   codeAny (model X.prog X.w) X.A (.compStart (.ListComp elt [⟨target,iter,ifs,0⟩] scope pos) 0 (.ref it) acc { cenv with scope:=relabel scope X.env }) (RR acc cenv.locals) s₄) E s₃) E s:=by
 refine wpAny_newObj_type (wpAny_newFunctionEnv S.nocell (by intro y hy;simp at hy) (λh₁ hns₁ hsb₁=>?_) S.kind)
 dsimp only at hns₁ hsb₁ ⊢
 generalize hH2:s.heap.push { cls:=.type "list",dict:=none,data:=.seq ([]:List Value).toArray }=H2 at hns₁ hsb₁ ⊢
 have hC:H2.objs.size=s.heap.objs.size+1:=by rw [<- hH2,Heap.size_push]
 rw [hC] at hns₁ hsb₁
 have hlt:∀ b∈fp,b<s.heap.objs.size:=λb hb=>by
  obtain ⟨o,e,_⟩:=T.obj _ _ t0 b hb
  exact Heap.lt_size e
 have old:∀ b o,s.heap.get? b=some o->h₁.get? b=some o:=λb o e=>hsb₁.extBut b o (Nat.ne_of_lt (Nat.lt_succ_of_lt (Heap.lt_size e))) (Heap.get?_push_of_some _ (hH2 ▸ Heap.get?_push_of_some _ e))
 have hD:h₁.get? s.heap.objs.size=some { cls:=.type "list",data:=.seq #[] 0 }:=hsb₁.extBut _ _ (Nat.ne_of_lt (Nat.lt_succ_self _)) (Heap.get?_push_of_some _ (hH2 ▸ Heap.get?_push_size _ rfl))
 have I0:Inv (X.comp scope Nc (s.heap.objs.size+1) s H fp) [] (fX n caps σ) (upd H s.heap.objs.size (.lst [])) { s with heap:=h₁,toks:=s.toks+([]:List (Str×Value)).length } :=
  xz I S hcp hf hlt hns₁ old hD
 replace I0:=I0.toAcc (D:=s.heap.objs.size) aI
 rw [gX] at I0
 obtain ⟨W,⟨m0,w0⟩,turn⟩:=hw s.heap.objs.size I.fresh
 have fr0:∀ b∈fp,upd H s.heap.objs.size (bc s.heap.objs.size []) b=none:=λb hb=>by
  rw [aB (Nat.ne_of_lt (hlt b hb))]
  exact (hf b hb).1
 have stat:∀ {H':Hp},(∀ b∈fp,H' b=none)->∀ b∈fp,cf (X.comp scope Nc (s.heap.objs.size+1) s H fp) [] H' b:=λhn b hb =>
  ⟨hn b hb,(λe=>Nat.ne_of_lt (Nat.lt_succ_of_lt (hlt b hb)) e),I0.ok.exfs b hb,.inl hb,(I0.ok.exf b hb).2,λp hp=>absurd (show p∈([]:List (Addr×Obj)) from hp) (by simp)⟩
 have loop:codeAny (model X.prog X.w) X.A (.compLoop (.ListComp elt [⟨target,iter,ifs,0⟩] scope pos) 0 (.ref it) (.ref s.heap.objs.size) (compEnvC scope (cu scope X.env) (s.heap.objs.size+1) X.env))
   (RR (.ref s.heap.objs.size) (s.heap.objs.size+1)) { s with heap:=h₁,toks:=s.toks+([]:List (Str×Value)).length }:=by
  refine xn (λm s'=>∃ i zs σ' H',Inv (X.comp scope Nc (s.heap.objs.size+1) s H fp) [] σ' H' s'/\tn i s'.heap/\(∀ b∈fp,H' b=none)/\W i m zs σ' H') ?_ m0
   ⟨0,_,_,_,I0,T.keep _ _ _ t0 λb _ o e=>old b o e,fr0,w0⟩
  rintro m s3 ⟨i,zs,σ3,H3,I3,st3,fr3,w3⟩
  obtain ⟨hD3,w3'⟩:=turn i m zs σ3 H3 w3
  rcases w3' with ⟨stop,qn⟩|⟨go,N,hN,step⟩
  ·refine thn (T.done (X.comp scope Nc (s.heap.objs.size+1) s H fp) rfl rfl rfl hcalm i [] s3 σ3 H3 _ I3 (stat fr3) st3 stop) λr s4 ⟨hr,I4⟩=>?_
   subst hr
   obtain ⟨m4,hn4,_⟩:=I4.loc
   have I4':=I4.ofAcc hD3
   exact fin _ s4 _ m4 (x4 I hf I4') I4'.free hn4 qn
  ·refine thn (T.item (X.comp scope Nc (s.heap.objs.size+1) s H fp) rfl rfl rfl hcalm i [] s3 σ3 H3 _ I3 (stat fr3) st3 go) λr s4 ⟨u,hr,h4⟩=>?_
   subst hr
   refine thn h4 λ_ s5 zz43=>?_
   obtain ⟨x,H5,I5,r5,y5,st5,fr5⟩:=zz43
   have I5':=I5.pinned (stat fr5) (T.obj _ _ st5)
   refine thn (hg _ _ _ _ _ s5 σ3 H5 x u _ I5' r5 (step x H5 y5)) λ_ s6 zz44=>?_
   obtain ⟨σ6,H6,I6,q6⟩:=zz44
   refine thn (ht _ _ _ _ _ s6 σ6 H6 _ I6 q6) λok s7 zz45=>?_
   obtain ⟨H7,I7,q7⟩:=zz45
   have again:∀ {s8:Shared}{H8:Hp}{zs8:List V},Inv (X.comp scope Nc (s.heap.objs.size+1) s H fp) ([]++hU fp s5.heap) σ6 H8 s8->N zs8 σ6 H8 ->
     ∃ m',m'<m/\∃ i zs σ' H',Inv (X.comp scope Nc (s.heap.objs.size+1) s H fp) [] σ' H' s8/\tn i s8.heap/\(∀ b∈fp,H' b=none)/\W i m' zs σ' H':=fun {s8 H8 zs8} I8 n8=>by
    obtain ⟨m',hm,w8⟩:=hN zs8 σ6 H8 n8
    refine ⟨m',hm,i+1,zs8,σ6,H8,I8.unpinned,T.keep _ _ _ st5 λb hb o e=>(I8.pin (b,o) (List.mem_append_right _ (List.mem_append_right _ (jc hb e)))).1,λb hb=>?_,w8⟩
    obtain ⟨o,e,d⟩:=T.obj _ _ st5 b hb
    exact (I8.pin (b,o) (List.mem_append_right _ (List.mem_append_right _ (jc hb e)))).2.1
   cases ok with
   |false =>
    rw [if_neg Bool.false_ne_true] at q7 ⊢
    exact again I7 q7
   |true =>
    rw [if_pos rfl] at q7 ⊢
    refine thn (he _ _ _ _ _ s7 σ6 H7 _ I7 q7) λy s8 zz46=>?_
    obtain ⟨v8,H8,I8,r8,hz,hl,q8⟩:=zz46
    refine thn (pM _ s8 σ6 _ (.ref s.heap.objs.size) [v8] (.ref s.heap.objs.size) [y] (λ_ H9=>H9=upd H8 s.heap.objs.size (.lst (zs++[v8]))) (I8.ofAcc hz) rfl (.cons r8 .nil) ⟨_,zs,v8,rfl,rfl,aI,hl,by rw [gX]⟩) λ_ s9 zz47=>?_
    obtain ⟨_,H9,I9,_,q9⟩:=zz47
    subst q9
    have I9':=I9.toAcc (D:=s.heap.objs.size) aI
    rw [gX] at I9'
    exact again I9' q8
 have e2:({ newEnv scope H2.objs.size X.env.globals (cu scope X.env) X.env.qual none .none (some X.env) builtinsNs with scope:=relabel scope X.env }:Env)=compEnvC scope (cu scope X.env) (s.heap.objs.size+1) X.env:=by
  rw [hC];rfl
 have e3:(newEnv scope H2.objs.size X.env.globals (cu scope X.env) X.env.qual none .none (some X.env) builtinsNs).locals=s.heap.objs.size+1:=hC
 rw [e2,e3]
 exact codeAny_compStart_list loop (T.self _ 0 _ _ _ (T.keep _ _ _ t0 λb _ o e=>old b o e) loop)
theorem y0 (Nc:List Str) (n:Nat) (caps:List Nat) (hcalm:X.calm=true) (hi:PI X target iter wi) (hg:∀ C s₀ H₀ ex,PG (X.comp scope Nc C s₀ H₀ ex) target g) (ht:∀ C s₀ H₀ ex,PTs (X.comp scope Nc C s₀ H₀ ex) ifs tt)
  (he:∀ C s₀ H₀ ex,PE (X.comp scope Nc C s₀ H₀ ex) elt te) (hsc:fW X.env.scope scope=true:=by rfl) (hcp:eJ X.N Nc scope n caps=true:=by rfl) (hs:∀ x,foldedSetIterable iter X.env x=pure x:=by intro _;rfl) :
  PE X (.ListComp elt [⟨target,iter,ifs,0⟩] scope pos) (mC wi n caps g tt te):=by
 intro pins s σ H Q I h
 have S:=pO hsc
 rw [eval_ListComp]
 refine wpAny_comprehension_free (use:=none) rfl hs (S.clos I.ok) S.kind S.loc (thn (hi pins s σ H _ I h) λv s1 h1=>thn h1 λitv s2 h2=>?_)
 obtain ⟨it,fp,tn,J,H2,e,I2,T,t2,f2,hw⟩:=h2
 subst e
 refine oW (RR:=λacc C=>compPost (model X.prog X.w) X.A X.xe none (EP X pins σ Q) acc C) hcalm S hcp hg ht he I2 T t2 f2 hw ?_
 intro D s' H' m I' hn hns q
 refine ⟨m,hns,λh' hs'=>⟨.ref D,H',?_,rfl,q⟩⟩
 refine I'.but hs' hn (Nat.le_trans I2.sz (Nat.le_succ _)) (λe=>?_) (λx c hc e=>?_) λp hp e=>?_
 ·exact Nat.ne_of_lt (Nat.lt_succ_of_lt I2.lt) e.symm
 ·obtain ⟨v,ic⟩:=I2.cell x c hc
  exact Nat.ne_of_lt (Nat.lt_succ_of_lt ic.lt) e
 ·exact Nat.ne_of_lt (Nat.lt_succ_of_lt (Heap.lt_size (I2.pin p hp).1)) e
theorem y1 {i:Nat}{x:Str}{px spos:Pos}(Nc:List Str) (n:Nat) (caps:List Nat) (hcalm:X.calm=true) (hN:X.N.Nodup) (hix:X.N[i]?=some x) (hx:Loc X.env.scope x) (hi:PI X target iter wi) (hg:∀ C s₀ H₀ ex,PG (X.comp scope Nc C s₀ H₀ ex) target g)
  (ht:∀ C s₀ H₀ ex,PTs (X.comp scope Nc C s₀ H₀ ex) ifs tt) (he:∀ C s₀ H₀ ex,PE (X.comp scope Nc C s₀ H₀ ex) elt te)
  (hsw:swapsWith (.ListComp elt [⟨target,iter,ifs,0⟩] scope pos) (some (.Name x px)) spos.line X.env=pure true:=by rfl) (hsc:fW X.env.scope scope=true:=by rfl) (hcp:eJ X.N Nc scope n caps=true:=by rfl)
  (hs:∀ x,foldedSetIterable iter X.env x=pure x:=by intro _;rfl) (hf:X.fn x=true\/X.env.scope.names.lookup x=some .local:=by first|exact .inl rfl|exact .inr rfl|assumption) :
  PS X (.Assign [.Name x px] (.ListComp elt [⟨target,iter,ifs,0⟩] scope pos) spos) (iL (mC wi n caps g tt te) (jZ i)):=by
 intro pins s σ H D I h
 have S:=pO hsc
 rw [exec_Assign_Name_used _ _ _ _ hsw]
 refine wpAny_bind (wpAny_standAt (wpAny_bind ?_))
 show wpAny _ X.A (do let _ <- comprehension (.ListComp elt [⟨target,iter,ifs,0⟩] scope pos) scope X.env _ (newList []) false (eval iter X.env) (some (assign (.Name x px) X.env))) _ _ s
 refine wpAny_bind (thn (wpAny_comprehension_free (use:=some (assign (.Name x px) X.env)) (Q:=λ_ s'=>SP X pins D .next s') rfl hs (S.clos I.ok) S.kind S.loc
  (thn (hi pins s σ H _ I h) λv s1 h1=>thn h1 λitv s2 h2=>?_)) λ_ s' hq=>wpAny_pure (wpAny_pure hq))
 obtain ⟨it,fp,tn,J,H2,e,I2,T,t2,f2,hw⟩:=h2
 subst e
 refine oW (RR:=λacc C=>compPost (model X.prog X.w) X.A X.xe (some (assign (.Name x px) X.env)) (λ_ s'=>SP X pins D .next s') acc C) hcalm S hcp hg ht he I2 T t2 f2 hw ?_
 intro Da s' H' m I' hn hns q
 show wpAny _ X.A (assign (.Name x px) X.env (.ref Da)) _ _ s'
 obtain ⟨oC,es,ep,eo,ed,rC⟩:=id hns
 have nl:s2.heap.objs.size+1≠X.env.locals:=λe=>Nat.ne_of_lt (Nat.lt_succ_of_lt I2.lt) e.symm
 have nc:∀ y c,X.env.cells.lookup y=some c->c≠s2.heap.objs.size+1:=λy c hc e=>by
  obtain ⟨v,ic⟩:=I2.cell y c hc
  exact Nat.ne_of_lt (Nat.lt_succ_of_lt ic.lt) e
 have np:∀ p∈X.pn++pins,p.1≠s2.heap.objs.size+1:=λp hp e=>Nat.ne_of_lt (Nat.lt_succ_of_lt (Heap.lt_size (I2.pin p hp).1)) e
 have I3:Inv X (pins++[(s2.heap.objs.size+1,oC)]) σ H' s':=I'.pins_of λp hp=>by
  rcases List.mem_append.mp hp with z|z
  ·exact I'.pin p (List.mem_append_right _ z)
  ·obtain rfl:p=(s2.heap.objs.size+1,oC):=by simpa using z
   refine ⟨eo,hn,nl,λhb=>?_,λv e=>?_⟩
   ·have h1:=I2.nofs (a:=s2.heap.objs.size+1) (Nat.le_succ _)
    exact h1 hb
   ·rw [ed] at e;cases e
 refine wpAny_assign_Name (gP I3 hN hix hx (u:=.ref Da) (v:=.ref Da) rfl (λs4 I4=>?_) hf)
 have g4:s4.heap.get? (s2.heap.objs.size+1)=some oC:=(I4.pin (s2.heap.objs.size+1,oC) (List.mem_append_right _ (List.mem_append_right _ (by simp)))).1
 refine ⟨m,⟨oC,es,ep,g4,ed,rC⟩,λh' hs'=>?_⟩
 exact ⟨_,H',I4.unpinned.but hs' hn (Nat.le_trans I2.sz (Nat.le_succ _)) nl nc np,q⟩
end
section
variable {κ:Type}[DecidableEq κ]
def aU (kvs:List (κ×V)) (k:κ):Option V:=(kvs.find? λkv=>decide (kv.1=k)).map (·.2)
def bd (kvs:List (κ×V)) (k:κ) (v:V):List (κ×V) :=
 if (kvs.any λkv=>decide (kv.1=k))=true then kvs.map (λkv=>if kv.1=k then (kv.1,v) else kv) else kvs++[(k,v)]
def eK (kvs:List (κ×V)) (k:κ):List (κ×V):=kvs.filter λkv=>decide (kv.1≠k)
theorem k9 {p:κ×V}{r:List (κ×V)}{k:κ}(e:p.1=k):aU (p::r) k=some p.2:=by simp [aU,List.find?_cons,e]
theorem lc {p:κ×V}{r:List (κ×V)}{k:κ}(e:¬ p.1=k):aU (p::r) k=aU r k:=by simp [aU,List.find?_cons,e]
theorem qj (k:κ):∀ kvs:List (κ×V),(kvs.any λkv=>decide (kv.1=k))=(aU kvs k).isSome
 |[]=>rfl
 |p::r=>by
  rw [List.any_cons]
  by_cases e:p.1=k
  ·simp only [k9 e,decide_eq_true e,Bool.true_or,Option.isSome_some]
  ·rw [lc e,decide_eq_false e,Bool.false_or];exact qj k r
theorem i9 (kvs:List (κ×V)) (k:κ) (v:V):(bd kvs k v).length<=kvs.length+1:=by
 unfold bd
 split
 ·rw [List.length_map];omega
 ·rw [List.length_append,List.length_cons,List.length_nil];omega
theorem bp.isSome_eq {o:Option V}{u:Option Value}(r:bp o u):o.isSome=u.isSome:=by
 cases o with
 |none=>cases u with
  |none=>rfl
  |some _=>exact (show False from r).elim
 |some _=>cases u with
  |none=>exact (show False from r).elim
  |some _=>rfl
theorem KV.val {kvs:List (κ×V)}{vs:List (κ×Value)}(r:KV kvs vs) (k:κ):bp (aU kvs k) (valueAt vs k):=by
 unfold KV at r
 induction r with
 |nil=>exact True.intro
 |@cons p q ps qs h t ih =>
  obtain ⟨h1,h2⟩:=h
  by_cases e:p.1=k
  ·have e':q.1=k:=h1.symm.trans e
   have b:valueAt (q::qs) k=some q.2:=by simp [valueAt,List.find?_cons,e']
   rw [k9 e,b];exact h2
  ·have e':¬ q.1=k:=λz=>e (h1.trans z)
   have b:valueAt (q::qs) k=valueAt qs k:=by simp [valueAt,List.find?_cons,e']
   rw [lc e,b];exact ih
theorem KV.any {kvs:List (κ×V)}{vs:List (κ×Value)}(r:KV kvs vs) (k:κ):(kvs.any λkv=>decide (kv.1=k))=vs.any λkv=>decide (kv.1=k):=by
 unfold KV at r
 induction r with
 |nil=>rfl
 |cons h t ih=>rw [List.any_cons,List.any_cons,ih,h.1]
theorem KV.repl {kvs:List (κ×V)}{vs:List (κ×Value)}(r:KV kvs vs) (k:κ){y:V}{u:Value}(ry:aq y u) :
  KV (kvs.map λkv=>if kv.1=k then (kv.1,y) else kv) (vs.map λkv=>if kv.1=k then (kv.1,u) else kv):=by
 unfold KV at r ⊢
 induction r with
 |nil=>exact .nil
 |@cons p q ps qs h t ih =>
  rw [List.map_cons,List.map_cons]
  refine .cons ?_ ih
  obtain ⟨h1,h2⟩:=h
  by_cases e:p.1=k
  ·rw [if_pos e,if_pos (h1.symm.trans e)];exact ⟨h1,ry⟩
  ·rw [if_neg e,if_neg (λz=>e (h1.trans z))];exact ⟨h1,h2⟩
theorem KV.put {kvs:List (κ×V)}{vs:List (κ×Value)}(r:KV kvs vs) (k:κ){y:V}{u:Value}(ry:aq y u):KV (bd kvs k y) (stored vs k u):=by
 unfold bd stored
 rw [r.any k]
 by_cases e:(vs.any λkv=>decide (kv.1=k))=true
 ·rw [if_pos e,if_pos e];exact r.repl k ry
 ·rw [if_neg e,if_neg e];exact Paired.snoc r ⟨rfl,ry⟩
theorem KV.drop {kvs:List (κ×V)}{vs:List (κ×Value)}(r:KV kvs vs) (k:κ):KV (eK kvs k) (without vs k):=by
 unfold KV at r ⊢
 unfold eK without
 induction r with
 |nil=>exact .nil
 |@cons p q ps qs h t ih =>
  obtain ⟨h1,h2⟩:=h
  rw [List.filter_cons,List.filter_cons]
  by_cases e:p.1=k
  ·have a:¬ decide (p.1≠k)=true:=by simp [e]
   have b:¬ decide (q.1≠k)=true:=by simp [h1.symm.trans e]
   rw [if_neg a,if_neg b];exact ih
  ·have e':¬ q.1=k:=λz=>e (h1.trans z)
   have a:decide (p.1≠k)=true:=by simp [e]
   have b:decide (q.1≠k)=true:=by simp [e']
   rw [if_pos a,if_pos b];exact .cons ⟨h1,h2⟩ ih
theorem KV.length {kvs:List (κ×V)}{vs:List (κ×Value)}(r:KV kvs vs):kvs.length=vs.length:=Paired.length r
theorem y3 (kvs:List (κ×V)) (k:κ):(eK kvs k).length<=kvs.length:=List.length_filter_le _ _
end
theorem dH {P:Program}{w:World}{k:Key}{u:Value}(r:aq (kV k) u):(aP P w).is k u=true:=by
 cases k with
 |inl i=>obtain ⟨t,e⟩:=(show ∃ t,u=Value.int i t from r);subst e;exact xh P w i t
 |inr x=>obtain ⟨t,e⟩:=(show ∃ t,u=Value.str x t from r);subst e;exact xj P w x t
theorem pS {P:Program}{w:World}:∀ {ks:List Key}{us:List Value},al (ks.map kV) us->ItemsAre (aP P w) ks us
 |[],_,r=>by rw [List.map_nil] at r;cases r;exact .nil
 |k::ks,_,r=>by
  rw [List.map_cons] at r
  cases r with
  |cons h t=>exact .cons (dH h) (pS t)
abbrev KT (H:Hp):List (List Key×V)->List (List Key×Addr×Value)->Prop:=Paired λp q=>p.1=q.1/\H q.2.1=some (.tup (p.1.map kV))/\aq p.2 q.2.2
theorem KT.val {H:Hp}{kvs:List (List Key×V)}{xs:List (List Key×Addr×Value)}(r:KT H kvs xs) (k:List Key):bp (aU kvs k) ((atKey xs k).map (·.2)):=by
 induction r with
 |nil=>exact True.intro
 |@cons p q ps qs h t ih =>
  obtain ⟨h1,_,h2⟩:=h
  by_cases e:p.1=k
  ·have e':q.1=k:=h1.symm.trans e
   have b:atKey (q::qs) k=some q.2:=by simp [atKey,List.find?_cons,e']
   rw [k9 e,b];exact h2
  ·have e':¬ q.1=k:=λz=>e (h1.trans z)
   have b:atKey (q::qs) k=atKey qs k:=by simp [atKey,List.find?_cons,e']
   rw [lc e,b];exact ih
theorem KT.repl {H:Hp}{kvs:List (List Key×V)}{xs:List (List Key×Addr×Value)}(r:KT H kvs xs) (k:List Key){y:V}{u:Value}(ry:aq y u) :
  KT H (kvs.map λkv=>if kv.1=k then (kv.1,y) else kv) (xs.map (putAt k u)):=by
 induction r with
 |nil=>exact .nil
 |@cons p q ps qs h t ih =>
  rw [List.map_cons,List.map_cons]
  refine .cons ?_ ih
  obtain ⟨h1,h2,h3⟩:=h
  unfold putAt
  by_cases e:p.1=k
  ·rw [if_pos e,if_pos (h1.symm.trans e)];exact ⟨h1,h2,ry⟩
  ·rw [if_neg e,if_neg (λz=>e (h1.trans z))];exact ⟨h1,h2,h3⟩
theorem KT.put {H:Hp}{kvs:List (List Key×V)}{xs:List (List Key×Addr×Value)}(r:KT H kvs xs) (k:List Key){b:Addr}{y:V}{u:Value}(hb:H b=some (.tup (k.map kV))) (ry:aq y u) :
  KT H (bd kvs k y) (storedH xs k b u):=by
 have e:(kvs.any λkv=>decide (kv.1=k))=(atKey xs k).isSome:=by
  rw [qj,(r.val k).isSome_eq,Option.isSome_map]
 unfold bd storedH
 rw [e]
 by_cases q:(atKey xs k).isSome=true
 ·rw [if_pos q,if_pos q];exact r.repl k ry
 ·rw [if_neg q,if_neg q];exact Paired.snoc r ⟨rfl,hb,ry⟩
theorem KT.keeps {H H':Hp}{kvs:List (List Key×V)}{xs:List (List Key×Addr×Value)}(r:KT H kvs xs) (ht:∀ b ys,H b=some (.tup ys)->H' b=some (.tup ys)):KT H' kvs xs :=
 Paired.mapP r λ_ _ z=>⟨z.1,ht _ _ z.2.1,z.2.2⟩
section
variable {P:Program}{w:World}{H:Hp}{h:Heap}{a:Addr}
theorem uO {u:HO}(ok:HOk P w H h) (e:Rd H a u):aN P w H h a u:=e.ok ok
theorem EK {kvs:List (Key×V)}(ok:HOk P w H h) (e:Rd H a (.dK kvs)):kvs.length<=sizeLine/\(a==sysModules)=false/\∃ vs,KV kvs vs/\h.DictOf (aP P w) a vs :=
 show aN P w H h a (.dK kvs) from uO ok e
theorem eM {kvs:List (Key×V)}(ok:HOk P w H h) (e:H a=some (.dK kvs)):kvs.length<=sizeLine/\(a==sysModules)=false/\∃ vs,KV kvs vs/\h.DictOf (aP P w) a vs:=EK ok (.inl e)
theorem sY {ks:List Key}(ok:HOk P w H h) (e:H a=some (.tup (ks.map kV))):(tupleKind (aP P w)).is h ks a:=by
 obtain ⟨_,its,r,o,h1,h2,n,h3⟩:=(show aN P w H h a (.tup (ks.map kV)) from ok a _ e)
 exact ⟨o,its.toArray,n,h1,h2,h3,by simpa using pS r⟩
theorem EL {kvs:List (List Key×V)}(ok:HOk P w H h) (e:Rd H a (.dT kvs)):kvs.length<=sizeLine/\(a==sysModules)=false /\
  ∃ xs,KT H kvs xs/\h.DictOfH (tupleKind (aP P w)) a xs:=by
 obtain ⟨z,y,xs,r,o,es,ep,h1,h2,h3,h4,h5⟩:=(show aN P w H h a (.dT kvs) from uO ok e)
 refine ⟨z,y,xs,r,o,es,ep,h1,h2,h3,h4,λx hx=>?_,h5⟩
 have all:∀ {l:List (List Key×V)}{m:List (List Key×Addr×Value)},KT H l m->∀ x∈m,(tupleKind (aP P w)).is h x.1 x.2.1:=by
  intro l m q
  induction q with
  |nil=>intro x hx;exact nomatch hx
  |@cons p q ps qs hq t ih =>
   intro x hx
   rcases List.mem_cons.mp hx with e|hx
   ·subst e
    exact sY ok (by rw [<- hq.1];exact hq.2.1)
   ·exact ih x hx
 exact all r x hx
theorem EM {kvs:List (List Key×V)}(ok:HOk P w H h) (e:H a=some (.dT kvs)):kvs.length<=sizeLine/\(a==sysModules)=false /\
  ∃ xs,KT H kvs xs/\h.DictOfH (tupleKind (aP P w)) a xs:=EL ok (.inl e)
end
def HL (H:Hp) (a:Addr) (y:V) (r:Option V):Prop :=
 (∃ kvs k,Rd H a (.dK kvs)/\y=kV k/\r=aU kvs k)\/∃ kvs k b,Rd H a (.dT kvs)/\y=.ref b/\H b=some (.tup (k.map kV))/\r=aU kvs k
def kC (H:Hp) (a:Addr) (y v:V) (H':Hp):Prop :=
 (∃ kvs k,H a=some (.dK kvs)/\y=kV k/\kvs.length<sizeLine/\H'=upd H a (.dK (bd kvs k v))) \/
 ∃ kvs k b,H a=some (.dT kvs)/\y=.ref b/\H b=some (.tup (k.map kV))/\kvs.length<sizeLine/\H'=upd H a (.dT (bd kvs k v))
theorem kC.k {H:Hp}{a:Addr}{kvs:List (Key×V)}{k:Key}{v:V}(e:H a=some (.dK kvs)) (hl:kvs.length<sizeLine):kC H a (kV k) v (upd H a (.dK (bd kvs k v))):=.inl ⟨kvs,k,e,rfl,hl,rfl⟩
section
variable {X:Cx}{pins:List (Addr×Obj)}{σ:St}{H:Hp}{s:Shared}{a:Addr}{y v:V}{u r:Value}{o:Option V}{A:Around}{E:Value->Shared->Prop}
theorem Inv.big (I:Inv X pins σ H s):sysModules<s.heap.objs.size:=by
 have h:mainGlobals<s.heap.objs.size:=(I.mod.glob.keeps I.bk).lt
 exact Nat.lt_trans (by decide) h
theorem g6 {h':Heap}{t':Nat}{ob:HO}(I:Inv X pins σ H s) (mu:Mut (H a)) (hs:Heap.SameBut a s.heap h') (he:∃ q,h'.get? a=some q) (new:aN X.prog X.w (upd H a ob) h' a ob) :
  Inv X pins σ (upd H a ob) { s with heap:=h',toks:=t' } :=
 I.write (x:=a) (e:=a) mu (.inl rfl) (λb q hb z=>(hs.2 b hb).trans z) he new
theorem jM {P:Program}{w:World}{H':Hp}{h':Heap}{kvs:List (Key×V)}{vs:List (Key×Value)}(z:kvs.length<=sizeLine) (hd:(a==sysModules)=false) (rel:KV kvs vs) (dd:h'.DictOf (aP P w) a vs) :
  aN P w H' h' a (.dK kvs):=⟨z,hd,vs,rel,dd⟩
theorem yc {H':Hp}{Q:Unit->Shared->Prop}(hu:A.units+1<cLine) (I:Inv X pins σ H s) (g:kC H a y v H') (ry:aq y u) (rv:aq v r) (h:∀ s',Inv X pins σ H' s'->Q () s') :
  wpAny (model X.prog X.w) A (setItem (.ref a) u r) Q E s:=by
 rcases g with ⟨kvs,k,e,ey,l,eH⟩|⟨kvs,k,b,e,ey,eb,l,eH⟩
 ·subst ey eH
  obtain ⟨z,hd,vs,rel,dd⟩:=eM I.hok e
  have hz:vs.length<=sizeLine:=by rw [<- rel.length];exact z
  have hl:(bd kvs k v).length<=sizeLine:=by have:=i9 kvs k v;omega
  refine wpAny_setItem_pairs (hsz:=hz) (dH ry) dd λh' dd' hs=>h _ ?_
  have he:∃ q,h'.get? a=some q:=let ⟨q,_,_,hq,_⟩:=dd';⟨q,hq⟩
  exact g6 I (by rw [e];exact True.intro) hs he (jM hl hd (rel.put k rv) dd')
 ·subst ey eH
  cases (show u=Value.ref b from ry)
  obtain ⟨z,hd,xs,rel,dd⟩:=EM I.hok e
  have hz:xs.length<=sizeLine:=by rw [<- Paired.length rel];exact z
  have hl:(bd kvs k v).length<=sizeLine:=by have:=i9 kvs k v;omega
  refine wpAny_setItem_heap (hsz:=hz) (tupleKind_room_in1 hu) (sY I.hok eb) dd λh' dd' hs=>h _ ?_
  obtain ⟨q,es,ep,hq,h2,h3,h4,_,h5⟩:=dd'
  refine g6 I (by rw [e];exact True.intro) hs ⟨q,hq⟩ ⟨hl,hd,_,(rel.put k eb rv).keeps λc ys ec=>?_,q,es,ep,hq,h2,h3,h4,h5⟩
  rw [aB (cJ ec e (λz=>nomatch z))]
  exact ec
end
section
variable {X:Cx}{pins:List (Addr×Obj)}{σ:St}{H:Hp}{s:Shared}{a:Addr}{kvs:List (Key×V)}{k:Key}{u:Value}{A:Around}{E:Value->Shared->Prop}
theorem EN {v:V}{more:List Value}{Q:Value->Shared->Prop}(I:Inv X pins σ H s) (e:H a=some (.dK kvs)) (ry:aq (kV k) u) (l:aU kvs k=some v) (hm:more=[]\/∃ x,more=[x])
  (h:∀ w' s',Inv X pins σ (upd H a (.dK (eK kvs k))) s'->aq v w'->Q w' s'):wpAny (model X.prog X.w) A (call (.builtin "dict.pop") (.ref a::u::more)) Q E s:=by
 obtain ⟨z,hd,vs,rel,dd⟩:=eM I.hok e
 obtain ⟨w',hw,rw'⟩:=bp.some_of (v:=v) (o:=valueAt vs k) (by rw [<- l];exact rel.val k)
 have hp:(keyPart u).isSome=true:=by
  cases k with
  |inl i=>obtain ⟨t,q⟩:=(show ∃ t,u=Value.int i t from ry);subst q;rfl
  |inr x=>obtain ⟨t,q⟩:=(show ∃ t,u=Value.str x t from ry);subst q;rfl
 have ha:argsOk "dict.pop" ⟨.ref a::u::more,[]⟩:=by
  rcases hm with q|⟨x,q⟩
  ·subst q;exact PySem.F.args_dict_pop_2 _ _
  ·subst q;exact PySem.F.args_dict_pop_3 _ _ _
 refine call_meetsIn PySem.F.slot_dict_pop dd.typeIs PySem.F.entry_dict_pop ha (meets_dict_pop_there (aP X.prog X.w) a (dH ry) more hm hp)
  ⟨vs,w',dd,by rw [<- rel.length];exact z,hw,λh' dd' hs=>h w' _ ?_ rw'⟩
 have he:∃ q,h'.get? a=some q:=let ⟨q,_,_,hq,_⟩:=dd';⟨q,hq⟩
 exact g6 I (by rw [e];exact True.intro) hs he (jM (Nat.le_trans (y3 kvs k) z) hd (rel.drop k) dd')
end
def kD (i:Expr):Prop:=∀ ov iv,subscripted i false ov iv=operate [ov,iv] (getItem ov iv)
theorem AF {prog:Program}{w:World}{A:Around}{E:Value->Shared->Prop}{s:Shared}{env:Env}{value slice:Expr}{pos:Pos}{T id:String}{Q:Value->Shared->Prop}
  (hl:typeLookup (.type T) "__getitem__"=pure (some (.builtin id))) (hs:kD slice)
  (h:wpAny (model prog w) A (eval value env) (λo s₁=>wpAny (model prog w) A (eval slice env) (λi s₂=>s₂.TypeIs o T/\wpAny (model prog w) A (getItem o i) Q E s₂) E s₁) E s) :
  wpAny (model prog w) A (eval (.Subscript value slice pos) env) Q E s:=by
 refine Subscript_ (wpAny_mono h (λo s₁ h₁=>wpAny_mono h₁ (λi s₂ h₂=>?_) λ_ _ x=>x) λ_ _ x=>x)
 obtain ⟨hT,h₂⟩:=h₂
 unfold subscriptTail
 refine wpAny_bind ?_
 rw [getitemInPython_of_ne hT.not_modules]
 refine wpAny_bind (wpAny_specialOf hT hl ?_)
 have fin:wpAny (model prog w) A (subscripted slice false o i) (λr s₃=>wpAny (model prog w) A (letTemporaryGo value o r >>= λ_=>pure r) Q E s₃) E s₂:=by
  rw [hs o i]
  exact wpAny_operating (wpAny_mono h₂ (λr s₃ h₃=>wpAny_bind (wpAny_letTemporaryGo (wpAny_pure h₃))) λ_ _ x=>x)
 first
  |exact wpAny_pure (wpAny_bind fin)
  |exact wpAny_bind (wpAny_pure (wpAny_bind fin))
  |exact wpAny_bind fin
section
variable {X:Cx}{o i e value:Expr}{pos pos' tpos:Pos}{td ty tv:TE}
end
theorem qk {P:Program}{w:World}{H:Hp}(h:Heap) (hb:sysModules<h.objs.size):aN P w H (h.push { cls:=.type "dict",data:=.dict #[] }) h.objs.size (.dK []) :=
 ⟨Nat.zero_le _,beq_eq_false_iff_ne.mpr (Ne.symm (Nat.ne_of_lt hb)),[],.nil,Heap.DictOf.new h⟩
def CM:TE:=λ_ H Q=>∀ p,H p=none->Q (.ref p) (upd H p (.dK []))
section
variable {X:Cx}{pos:Pos}
theorem y4:PE X (.Dict [] [] pos) CM:=λpins s σ H Q I h =>
 wpAny_Dict_empty ⟨.ref s.heap.objs.size,_,I.laid (a:=s.heap.objs.size) (o:=.dK []) (t':=s.toks) (λ_ _ q=>Heap.get?_push_of_some _ q) (Nat.le_refl _) (qk s.heap I.big),rfl,h _ (I.hok.fresh (Nat.le_refl _))⟩
end
def mD:List (TE×TE)->St->Hp->(List (V×V)->Hp->Prop)->Prop
 |[],_,H,Q=>Q [] H
 |(tk,tv)::r,σ,H,Q=>tk σ H λx H1=>tv σ H1 λy H2=>mD r σ H2 λps H3=>Q ((x,y)::ps) H3
abbrev VV:List (V×V)->List (Value×Value)->Prop:=Paired λp q=>aq p.1 q.1/\aq p.2 q.2
def PPs (X:Cx) (pos:Pos) (keys:List (Option Expr)) (values:List Expr) (trs:List (TE×TE)):Prop :=
 ∀ (pins:List (Addr×Obj)) (s:Shared) (σ:St) (H:Hp) (Q:List (V×V)->Hp->Prop),Inv X pins σ H s->mD trs σ H Q ->
  wpAny (model X.prog X.w) X.A (evalPairs (pairTrees keys values X.env pos)) (λvs s'=>∃ ps H',Inv X pins σ H' s'/\VV ps vs/\Q ps H') X.xe s
theorem AG {X:Cx}{pos:Pos}:PPs X pos [] [] []:=λpins s σ H Q I h=>pairTrees_nil_walk ⟨[],H,I,.nil,h⟩
theorem qm {X:Cx}{pos:Pos}{k v:Expr}{ks:List (Option Expr)}{vs:List Expr}{tk tv:TE}{trs:List (TE×TE)}(hk:PE X k tk) (hv:PE X v tv) (hr:PPs X pos ks vs trs) :
  PPs X pos (some k::ks) (v::vs) ((tk,tv)::trs):=λpins s σ H Q I h =>
 pairTrees_cons_walk (thn (hk pins s σ H _ I h) λu s1 ⟨x,H1,I1,rx,q1⟩=>thn (hv pins s1 σ H1 _ I1 q1) λw2 s2 ⟨y,H2,I2,ry,q2⟩ =>
  thn (hr pins s2 σ H2 _ I2 q2) λws s3 zz48=>by obtain ⟨ps,H3,I3,rel,q3⟩:=zz48;exact ⟨(x,y)::ps,H3,I3,.cons ⟨rx,ry⟩ rel,q3⟩)
def eC (kvs more:List (Key×V)):List (Key×V):=more.foldl (λacc kv=>bd acc kv.1 kv.2) kvs
theorem KV.merge:∀ {more:List (Key×V)}{rs:List (Key×Value)}{kvs:List (Key×V)}{vs:List (Key×Value)},KV more rs->KV kvs vs->KV (eC kvs more) (merged vs rs):=by
 intro more rs kvs vs r
 unfold KV at r
 induction r generalizing kvs vs with
 |nil=>intro q;exact q
 |@cons p q ps qs h t ih =>
  intro r0
  have e:KV (bd kvs p.1 p.2) (stored vs q.1 q.2):=by
   have:=r0.put p.1 h.2
   rw [<- h.1];exact this
  exact ih e
theorem oq:∀ (more kvs:List (Key×V)),(eC kvs more).length<=kvs.length+more.length
 |[],kvs=>by show kvs.length<=kvs.length+0;omega
 |p::r,kvs=>by
  have h1:=oq r (bd kvs p.1 p.2)
  have h2:=i9 kvs p.1 p.2
  show (eC (bd kvs p.1 p.2) r).length<=_
  rw [List.length_cons];omega
theorem pi {P:Program}{w:World}:∀ {kvs:List (Key×V)}{ws:List (Value×Value)},VV (kvs.map λkv=>(kV kv.1,kv.2)) ws->∃ rs,Carries (aP P w) ws rs/\KV kvs rs
 |[],_,r=>by rw [List.map_nil] at r;cases r;exact ⟨[],True.intro,.nil⟩
 |p::kvs,_,r=>by
  rw [List.map_cons] at r
  cases r with
  |@cons a b as bs h t =>
   obtain ⟨rs,c,q⟩:=pi (P:=P) (w:=w) t
   obtain ⟨b1,b2⟩:=b
   exact ⟨(p.1,b2)::rs,⟨dH h.1,rfl,c⟩,.cons ⟨rfl,h.2⟩ q⟩
def EO (trs:List (TE×TE)):TE:=λσ H Q=>∀ p,H p=none->mD trs σ (upd H p (.dK [])) λps H2=>H2 p=some (.dK [])/\∃ kvs:List (Key×V),ps=kvs.map (λkv=>(kV kv.1,kv.2))/\kvs.length<=15/\Q (.ref p) (upd H2 p (.dK (eC [] kvs)))
theorem AH {X:Cx}{pos:Pos}{keys:List (Option Expr)}{values:List Expr}{trs:List (TE×TE)}(h:PPs X pos keys values trs) (hall:keys.all (·.isSome)=true) (hl:keys.length=values.length) (h0:keys≠[])
  (h15:keys.length<=15):PE X (.Dict keys values pos) (EO trs):=by
 intro pins s σ H Q I q
 have hn:=I.hok.fresh (Nat.le_refl s.heap.objs.size)
 have I1:=I.laid (a:=s.heap.objs.size) (o:=.dK []) (h':=s.heap.push { cls:=.type "dict",data:=.dict #[] }) (t':=s.toks) (λ_ _ q=>Heap.get?_push_of_some _ q) (Nat.le_refl _) (qk s.heap I.big)
 refine wpAny_Dict_walk (knd:=aP X.prog X.w) hall hl h0 h15 (thn (h pins _ σ _ _ I1 (q _ hn)) λws s2 zz49=>?_)
 obtain ⟨ps,H2,I2,rel,e,kvs,ep,lk,q2⟩:=zz49
 subst ep
 obtain ⟨rs,c,rk⟩:=pi (P:=X.prog) (w:=X.w) rel
 obtain ⟨z,hd,vs0,r0,dd⟩:=eM I2.hok e
 cases r0
 refine ⟨rs,c,dd,λh' dd' hs=>⟨.ref s.heap.objs.size,_,?_,rfl,q2⟩⟩
 have hz:(eC [] kvs).length<=sizeLine:=by
  have h1:=oq kvs []
  rw [List.length_nil] at h1
  rw [sizeLine_eq];omega
 have he:∃ q,h'.get? s.heap.objs.size=some q:=let ⟨q,_,_,hq,_⟩:=dd';⟨q,hq⟩
 exact g6 I2 (by rw [e];exact True.intro) hs he (jM hz hd (rk.merge .nil) dd')
structure M1 (X:Cx) (o:Expr) (m:Str) (apos:Pos) (e:Expr) (cpos:Pos):Prop where
 base:attributeBase o m X.env (eval o X.env)=eval o X.env
 few:((backTo cpos (starEach [e] X.env)).all (λx=>!x.1)&&(backToKw cpos (keywordEach [] X.env)).all (λx=>x.1.isSome)
  && decide (([e]:List Expr).length+([]:List Keyword).length+(if ([]:List Keyword).isEmpty then 0 else 1)<30))=true
 line:(apos.endLine==cpos.line)=true
 trees:backTo cpos (starEach [e] X.env)=[(false,eval e X.env)]
structure M2 (X:Cx) (o:Expr) (m:Str) (apos:Pos) (e f:Expr) (cpos:Pos):Prop where
 base:attributeBase o m X.env (eval o X.env)=eval o X.env
 few:((backTo cpos (starEach [e,f] X.env)).all (λx=>!x.1)&&(backToKw cpos (keywordEach [] X.env)).all (λx=>x.1.isSome)
  && decide (([e,f]:List Expr).length+([]:List Keyword).length+(if ([]:List Keyword).isEmpty then 0 else 1)<30))=true
 line:(apos.endLine==cpos.line)=true
 trees:backTo cpos (starEach [e,f] X.env)=[(false,eval e X.env),(false,eval f X.env)]
section
variable {X:Cx}{pins:List (Addr×Obj)}{σ:St}{H:Hp}{s:Shared}{a:Addr}{y d:V}{u r:Value}{o:Option V}{A:Around}{E:Value->Shared->Prop}
end
section
variable {X:Cx}{o e f:Expr}{apos cpos:Pos}{td ty tx:TE}
end
section
variable {X:Cx}{pins:List (Addr×Obj)}{σ:St}{H:Hp}{s:Shared}{a:Addr}{kvs:List (Key×V)}{A:Around}{E:Value->Shared->Prop}
end
section
variable {X:Cx}{pins:List (Addr×Obj)}{σ:St}{H:Hp}{s:Shared}{a:Addr}{y:V}{u:Value}{A:Around}{E:Value->Shared->Prop}
end
section
variable {κ:Type}[DecidableEq κ]
end
def vW (w:World) (od:Obj) (kvs:List (Key×V)):Prop:=kvs.length<=sizeLine/\∀ P:Program,∃ vs,KV kvs vs/\od.IsDictOf (aP P w) vs
def fzH (w:World) (a:Addr) (od:Obj) (kvs:List (Key×V)):HO:=.ext λh=>h.get? a=some od/\vW w od kvs/\(a==sysModules)=false
theorem yd {P P':Program}{w:World}{es:List DictEntry}{vs:List (Key×Value)}(d:Pairs (aP P w) es vs):Pairs (aP P' w) es vs:=by
 induction d with
 |nil=>exact .nil
 |cons h1 h2 _ ih=>exact .cons h1 h2 ih
theorem nI {α β:Type}{F:α->β->Prop}:∀ {l:List α}{m:List β}{i:Nat}{b:β},Paired F l m->m[i]?=some b->∃ a,l[i]?=some a/\F a b
 |_,_,_,_,.nil,e=>by simp at e
 |_,_,0,_,.cons h _,e=>by simp at e;subst e;exact ⟨_,rfl,h⟩
 |_,_,i+1,_,.cons _ t,e=>by
  obtain ⟨a,h1,h2⟩:=nI (i:=i) t (by simpa using e)
  exact ⟨a,by simpa using h1,h2⟩
theorem AI {P P':Program}{w:World}{od:Obj}{vs:List (Key×Value)}(h:od.IsDictOf (aP P w) vs):od.IsDictOf (aP P' w) vs:=by
 obtain ⟨es,ep,a,b,c,d,e⟩:=h
 exact ⟨es,ep,a,b,c,yd d,e⟩
section
variable {X:Cx}{pins:List (Addr×Obj)}{σ:St}{H:Hp}{s:Shared}{a d:Addr}{od:Obj}{kvs:List (Key×V)}{k:Key}{y v:V}{u r:Value}{A:Around}{E:Value->Shared->Prop}
theorem EQ {P:Program}{w:World}{k:Key}{u:Value}(h:(aP P w).is k u=true):aq (kV k) u:=by
 rcases cC h with ⟨i,t,rfl,rfl⟩|⟨x,t,rfl,rfl⟩
 ·exact ⟨t,rfl⟩
 ·exact ⟨t,rfl⟩
theorem Inv.toFz (I:Inv X pins σ H s) (e:H a=some (.dK kvs)):∃ od,Inv X pins σ (upd H a (fzH X.w a od kvs)) s:=by
 obtain ⟨z,hd,vs,rel,dd⟩:=eM I.hok e
 obtain ⟨od,ho,hio⟩:=Heap.dictOf_iff.mp dd
 obtain ⟨hh,g,dr,t,os⟩:=s
 refine ⟨od,I.write (t':=t) (h':=hh) (x:=a) (e:=a) (by rw [e];trivial) (.inl rfl) (λb u _ q=>q) ⟨_,ho⟩ ⟨⟨ho,⟨z,λP=>⟨vs,rel,AI hio⟩⟩,hd⟩,⟨_,ho⟩,λh1 h2 p k=>⟨k _ p.1,p.2⟩⟩⟩
theorem iB (I:Inv X pins σ H s) (e:H a=some (fzH X.w a od kvs)):s.heap.get? a=some od/\vW X.w od kvs/\(a==sysModules)=false:=(I.hok a _ e).1
theorem Inv.ofFz (I:Inv X pins σ H s) (e:H a=some (fzH X.w a od kvs)):Inv X pins σ (upd H a (.dK kvs)) s:=by
 obtain ⟨ho,⟨z,dz⟩,hd⟩:=iB I e
 obtain ⟨vs,rel,dd⟩:=dz X.prog
 obtain ⟨hh,g,dr,t,os⟩:=s
 exact I.write (t':=t) (h':=hh) (x:=a) (e:=a) (by rw [e];trivial) (.inl rfl) (λb u _ q=>q) ⟨_,ho⟩ ⟨z,hd,vs,rel,Heap.dictOf_iff.mpr ⟨od,ho,dd⟩⟩
def RdK (w:World) (H:Hp) (a:Addr) (kvs:List (Key×V)):Prop:=H a=some (.dK kvs)\/∃ od,H a=some (fzH w a od kvs)
theorem rdK (I:Inv X pins σ H s) (e:RdK X.w H a kvs):kvs.length<=sizeLine/\(a==sysModules)=false/\∃ vs,KV kvs vs/\s.heap.DictOf (aP X.prog X.w) a vs:=by
 rcases e with e|⟨od,e⟩
 ·exact eM I.hok e
 ·obtain ⟨ho,⟨z,dz⟩,hd⟩:=iB I e
  obtain ⟨vs,rel,dd⟩:=dz X.prog
  exact ⟨z,hd,vs,rel,Heap.dictOf_iff.mpr ⟨od,ho,dd⟩⟩
theorem ye {Q:Value->Shared->Prop}(I:Inv X pins σ H s) (g:RdK X.w H a kvs) (l:aU kvs k=some v) (ry:aq (kV k) u) (h:∀ w' s',Inv X pins σ H s'->aq v w'->Q w' s'):wpAny (model X.prog X.w) A (getItem (.ref a) u) Q E s:=by
 obtain ⟨z,hd,vs,rel,dd⟩:=rdK I g
 obtain ⟨w',hw,rw'⟩:=bp.some_of (v:=v) (o:=valueAt vs k) (by rw [<- l];exact rel.val k)
 exact wpAny_getItem_of (dH ry) dd.mapOf hw (h w' _ (I.tok _) rw')
theorem Hg {Q:Value->Shared->Prop}(I:Inv X pins σ H s) (g:RdK X.w H a kvs) (ry:aq (kV k) u) (h:∀ s',Inv X pins σ H s'->Q (.bool (aU kvs k).isSome) s'):wpAny (model X.prog X.w) A (compareOp .In u (.ref a)) Q E s:=by
 obtain ⟨z,hd,vs,rel,dd⟩:=rdK I g
 refine wpAny_in_of (dH ry) hd dd.mapOf ?_
 rw [<- (rel.val k).isSome_eq]
 exact h _ (I.tok _)
theorem AJ {Q:Value->Shared->Prop}(I:Inv X pins σ H s) (g:RdK X.w H a kvs) (ry:aq (kV k) u) (h:∀ s',Inv X pins σ H s'->Q (.bool (!(aU kvs k).isSome)) s'):wpAny (model X.prog X.w) A (compareOp .NotIn u (.ref a)) Q E s:=by
 obtain ⟨z,hd,vs,rel,dd⟩:=rdK I g
 refine wpAny_notIn_of (dH ry) hd dd.mapOf ?_
 rw [<- (rel.val k).isSome_eq]
 exact h _ (I.tok _)
theorem Hh (I:Inv X pins σ H s) (g:RdK X.w H a kvs):s.TypeIs (.ref a) "dict" /\ ∀ b,Value.ref a=.ref b->∃ ob,s.heap.get? b=some ob/\ob.dict=none:=by
 obtain ⟨z,hd,vs,rel,dd⟩:=rdK I g
 refine ⟨dd.typeIs,λb q=>?_⟩
 cases q
 obtain ⟨ob,_,_,h1,h2,_⟩:=dd
 exact ⟨ob,h1,h2.2.1⟩
def iC (p d:Addr):HO:=.ext λh=>h.get? p=some { cls:=.type "dict_items",data:=.fields #[.ref d] }
def CN (w:World):V->List V->Hp->VK->Prop:=λx xs H Q=>∃ d kvs,x=.ref d/\xs=[]/\H d=some (.dK kvs)/\∀ p,H p=none->Q (.ref p) (upd H p (iC p d))
theorem y6:MtR X "dict.items" (CN X.w):=by
 rintro pins s σ H x xs v us Q I rx rs ⟨d,kvs,ex,exs,ed,q⟩
 subst ex exs
 cases rs
 cases (show v=Value.ref d from rx)
 obtain ⟨z,hd,vs,rel,dd⟩:=eM I.hok ed
 refine call_meetsIn PySem.F.slot_dict_items dd.typeIs PySem.F.entry_dict_items (PySem.F.args_dict_items_1 _) (meets_dict_items (aP X.prog X.w) d hd) ⟨⟨vs,dd⟩,?_⟩
 refine ⟨.ref s.heap.objs.size,_,I.laid (o:=iC s.heap.objs.size d) (t':=s.toks) (λb u e=>Heap.get?_push_of_some _ e) (Nat.le_refl _) ⟨Heap.get?_push_size _ rfl,⟨_,Heap.get?_push_size _ rfl⟩,λh1 h2 p k=>k _ p⟩,rfl,q _ (I.hok.fresh (Nat.le_refl _))⟩
def ItP (w:World) (d:Addr) (od:Obj) (kvs:List (Key×V)):It :=
 ⟨λi H=>H d=some (fzH w d od kvs)/\i<kvs.length,λi H x H'=>∃ p kv,kvs[i]?=some kv/\H p=none/\x=.ref p/\H'=upd H p (.tup [kV kv.1,kv.2]),λi H=>H d=some (fzH w d od kvs)/\kvs.length<=i⟩
theorem xA {P:Program}{w:World}{K:PySem.W.Frag}{elts:List Expr}{x1:Nat}{tpos:Pos}{vs:List (Key×Value)}{ep:Nat}(d it:Addr) (od:Obj) (kvs:List (Key×V)) (rel:KV kvs vs) (hne:d≠it) (hod:∀ h:Heap,h.get? d=some od->h.DictAt (aP P w) d vs ep) :
  Turn P w K (.Tuple elts x1 tpos) (ItP w d od kvs) [it] it (λi h=>∃ ok ov,IsItemIter h it d i vs.length ep ok ov) where
 mem:=by simp
 obj:=λi h st b hb=>by
  obtain rfl:b=it:=by simpa using hb
  obtain ⟨ok,ov,e⟩:=st
  exact ⟨_,e,λv z=>by cases z⟩
 keep:=λi h h' zz50 k=>by obtain ⟨ok,ov,e⟩:=zz50;exact ⟨ok,ov,k it (by simp) _ e⟩
 item:=by
  rintro X hP hw hK hc i pins s σ H E I hf ⟨ok,ov,st⟩ ⟨hg,hi⟩
  subst hP hw hK
  have hl:i<vs.length:=by rw [<- rel.length];exact hi
  obtain ⟨⟨k,x⟩,hx⟩:∃ p,vs[i]?=some p:=⟨vs[i],by simp [hl]⟩
  obtain ⟨f0,f1,f2,f3,f4,f5⟩:=hf it (by simp)
  refine wpAny_pyNext_items_item st (hod _ (iB I hg).1) hx λkey h' hkey st' ht hsz sb=>?_
  refine ⟨_,rfl,wpAny_letOwnedTupleGo_items st' λh2 st2 sb2=>?_⟩
  have hit:it<s.heap.objs.size:=Heap.lt_size st
  obtain ⟨kv,e1,e2,e3⟩:∃ kv,kvs[i]?=some kv/\kv.1=k/\aq kv.2 x:=by
   obtain ⟨kv,z1,z2⟩:=nI rel hx
   exact ⟨kv,z1,z2.1,z2.2⟩
  have ht2:h2.get? s.heap.objs.size=some { cls:=.type "tuple",data:=.seq #[key,x] }:=(sb2.2 _ (Nat.ne_of_gt hit)).trans ht
  have Im:Inv X pins σ (upd H s.heap.objs.size (.tup [kV kv.1,kv.2])) { s with heap:=s.heap.push { cls:=.type "tuple",data:=.seq #[key,x] },toks:=s.toks } :=
   I.laid (t':=s.toks) (λb u e=>Heap.get?_push_of_some _ e) (Nat.le_refl _) ⟨by show 2<=sizeLine;decide,[key,x],.cons (by rw [e2];exact EQ hkey) (.cons e3 .nil),⟨_,Heap.get?_push_size _ rfl,rfl,_,rfl⟩⟩
  have I2:Inv X pins σ (upd H s.heap.objs.size (.tup [kV kv.1,kv.2])) { s with heap:=h2 }:=by
   refine Im.turned (t':=s.toks) (λb o hb e=>?_) (by rw [aB (Nat.ne_of_lt hit)];exact f0) f1 f3 f4 f5
   by_cases hbs:b=s.heap.objs.size
   ·subst hbs
    rw [show ({ s with heap:=s.heap.push { cls:=.type "tuple",data:=.seq #[key,x] },toks:=s.toks }:Shared).heap.get? s.heap.objs.size=some { cls:=.type "tuple",data:=.seq #[key,x] } from Heap.get?_push_size _ rfl] at e
    cases e;exact ht2
   ·exact (sb2.2 b hb).trans (sb b o hb (by rw [<- Heap.get?_push_ne _ _ _ hbs];exact e))
  refine ⟨.ref s.heap.objs.size,_,I2,rfl,⟨s.heap.objs.size,kv,e1,I.hok.fresh (Nat.le_refl _),rfl,rfl⟩,⟨_,_,st2⟩,λb hb=>?_⟩
  obtain rfl:b=it:=by simpa using hb
  rw [aB (Nat.ne_of_lt hit)];exact f0
 done:=by
  rintro X hP hw hK hc i pins s σ H E I hf ⟨ok,ov,st⟩ ⟨hg,hi⟩
  subst hP hw hK
  obtain ⟨f0,f1,f2,f3,f4,f5⟩:=hf it (by simp)
  refine wpAny_pyNext_items_end (I.ok.hd hc) st (hod _ (iB I hg).1) (List.getElem?_eq_none (by rw [<- rel.length];exact hi)) λh' eb=>⟨rfl,I.turned (t':=s.toks) (λb o hb e=>eb b o hb e) f0 f1 f3 f4 f5⟩
 self:=λA i s Q E zz51 h=>by obtain ⟨ok,ov,st⟩:=zz51;exact PySem.W.kcp_self st h
def tiP (w:World) (te:TE):TI:=λσ H R=>te σ H λx H1=>∃ p d kvs,x=.ref p/\H1 p=some (iC p d)/\H1 d=some (.dK kvs)/\∀ od,R (ItP w d od kvs) (upd H1 d (fzH w d od kvs))
theorem y7 {e:Expr}{te:TE}{elts:List Expr}{x1:Nat}{tpos:Pos}(he:PE X e te):PI X (.Tuple elts x1 tpos) e (tiP X.w te):=by
 intro pins s σ H R I h
 refine thn (he pins s σ H _ I h) λv s1 zz52=>?_
 obtain ⟨x,H1,I1,r1,p,d,kvs,ex,ep,ed,hR⟩:=zz52
 subst ex
 cases (show v=Value.ref p from r1)
 have hv:s1.heap.get? p=some { cls:=.type "dict_items",data:=.fields #[.ref d] }:=(I1.hok p _ ep).1
 obtain ⟨od,I2⟩:=I1.toFz ed
 obtain ⟨ho,⟨z,dz⟩,hd⟩:=iB I2 aI
 obtain ⟨vs,rel,es,ep',q1,q2,q3,q4,q5⟩:=dz X.prog
 have at_:∀ h:Heap,h.get? d=some od->h.DictAt (aP X.prog X.w) d vs ep':=λh e=>⟨od,es,e,q1,q2,q3,q4,q5⟩
 refine wpAny_pyIter_items ⟨_,hv,rfl,rfl⟩ (at_ _ ho) ?_
 have hlt:d<s1.heap.objs.size:=Heap.lt_size ho
 have I3:Inv X pins σ (upd H1 d (fzH X.w d od kvs)) { s1 with heap:=s1.heap.push { cls:=.type "dict_itemiterator",data:=.fields #[.none,.bool false,.ref d,.int 0 0,.int vs.length 0,.int ep' 0,.none,.none] } }:=I2.kept (t':=s1.toks) λb u e=>Heap.get?_push_of_some _ e
 refine ⟨s1.heap.objs.size,[s1.heap.objs.size],_,_,_,rfl,I3,xA d _ od kvs rel (Nat.ne_of_lt hlt) at_,⟨.none,.none,Heap.get?_push_size _ rfl⟩,λb hb=>?_,hR od⟩
 obtain rfl:b=s1.heap.objs.size:=by simpa using hb
 exact I2.fpOk (Nat.le_refl _) (I2.hok.fresh (Nat.le_refl _))
def ER (w:World) (td ty:TE):TE:=λσ H Q=>td σ H λx H1=>ty σ H1 λy H2=>∃ a kvs k v,x=.ref a/\RdK w H2 a kvs/\y=kV k/\aU kvs k=some v/\Q v H2
theorem AK {o i:Expr}{pos:Pos}{td ty:TE}(ho:PE X o td) (hi:PE X i ty) (hs:kD i):PE X (.Subscript o i pos) (ER X.w td ty):=by
 intro pins s σ H Q I h
 refine AF PySem.F.slot_dict_getitem.lookup hs (thn (ho pins s σ H _ I h) λu s1 zz53=>?_)
 obtain ⟨x,H1,I1,rx,q1⟩:=zz53
 refine thn (hi pins s1 σ H1 _ I1 q1) λiv s2 zz54=>?_
 obtain ⟨y,H2,I2,ry,a,kvs,k,v,ex,g,ey,l,q2⟩:=zz54
 subst ex ey
 obtain rfl:u=Value.ref a:=rx
 exact ⟨(Hh I2 g).1,ye I2 g l ry λw' s3 I3 rw'=>⟨v,H2,I3,rw',q2⟩⟩
def ES:V->List V->Hp->VK->Prop:=λx xs H Q=>∃ d kvs k v,x=.ref d/\xs=[kV k]/\H d=some (.dK kvs)/\aU kvs k=some v/\Q v (upd H d (.dK (eK kvs k)))
theorem AL:MtR X "dict.pop" ES:=by
 rintro pins s σ H x xs v us Q I rx rs ⟨d,kvs,k,v',ex,exs,ed,l,q⟩
 subst ex exs
 obtain ⟨u,rfl,ru⟩:=bg rs
 cases (show v=Value.ref d from rx)
 exact EN I ed ru l (.inl rfl) λw' s' I' rw'=>⟨v',_,I',rw',q⟩
theorem PE.unf {e:Expr}{t:TE}(h:PE X e t):PE X e (λσ H Q=>t σ H λv H'=>∃ d od kvs,H' d=some (fzH X.w d od kvs)/\Q v (upd H' d (.dK kvs))):=λpins s σ H Q I q =>
 thn (h pins s σ H _ I q) λu s' zz55=>by obtain ⟨v,H',I',r,d,od,kvs,e,q'⟩:=zz55;exact ⟨v,_,I'.ofFz e,r,q'⟩
theorem PS.unf {st:Stmt}{t:TS}(h:PS X st t):PS X st (λD σ H=>t { D with nx:=λσ' H'=>∃ d od kvs,H' d=some (fzH X.w d od kvs)/\D.nx σ' (upd H' d (.dK kvs)) } σ H):=λpins s σ H D I q =>
 thn (h pins s σ H _ I q) λfl s' sp=>by
  cases fl with
  |next =>
   obtain ⟨σ',H',I',d,od,kvs,e,q'⟩:=sp
   exact ⟨σ',_,I'.ofFz e,q'⟩
  |brk=>exact sp
  |cont=>exact sp
  |ret u=>exact sp
end
end L2
namespace T2
open PySem L2
inductive T where
 |non|bl (b:Bool)|int (i:Int)|str (x:Str)|tup (ts:List T)|lst (ts:List T)|scr (ns:List Int)|ref (a:Addr)|ty (n:String)
inductive O where
 |lst (ts:List T)|dK (kvs:List (Key×T))|dT (kvs:List (List Key×T))|ins (C:Addr) (fs:List (Str×T))
  |fK (w:World) (od:Obj) (vs:List (Key×V)) (kvs:List (Key×T))
  |exk (C:Addr)
def _root_.L2.exH (C a:Addr):HO:=.ext λh=>∃ ob,h.get? a=some ob/\ob.cls=.ref C/\ob.dict=none/\∃ vs,ob.data=.fields vs/\vs[2]?=some .none
abbrev Sto:=Addr->Option O
def put (S:Sto) (a:Addr) (o:O):Sto:=λb=>if b=a then some o else S b
theorem au {S:Sto}{a:Addr}{o:O}:put S a o a=some o:=by unfold put;rw [if_pos rfl]
theorem ak {S:Sto}{a b:Addr}{o:O}(h:b≠a):put S a o b=S b:=by unfold put;rw [if_neg h]
theorem bD {S:Sto}{a:Addr}{o u:O}:put (put S a o) a u=put S a u:=by
 funext b;unfold put;split<;>rfl
abbrev Fg:=PySem.W.Frag
def Scr (K:Fg) (H:Hp) (S:Sto) (p:Addr) (ns:List Int):Prop:=(S p=none/\∃ o,H p=some (.frz o (.lst (ns.map V.int))))\/SqL K (λ_=>none) p (ns.map V.int)
mutual
inductive Rp (K:Fg) (H:Hp) (S:Sto):T->V->Prop
 |non:Rp K H S .non .non
 |bl {b}:Rp K H S (.bl b) (.bl b)
 |int {i}:Rp K H S (.int i) (.int i)
 |str {x}:Rp K H S (.str x) (.str x)
 |ty {n}:Rp K H S (.ty n) (.ty n)
 |ref {a}:Rp K H S (.ref a) (.ref a)
 |tup {p ts vs}:S p=none->H p=some (.tup vs)->Rps K H S ts vs->Rp K H S (.tup ts) (.ref p)
 |lst {p ts vs}:S p=none->H p=some (.lst vs)->Rps K H S ts vs->Rp K H S (.lst ts) (.ref p)
 |scr {p ns}:Scr K H S p ns->Rp K H S (.scr ns) (.ref p)
inductive Rps (K:Fg) (H:Hp) (S:Sto):List T->List V->Prop
 |nil:Rps K H S [] []
 |cons {t v ts vs}:Rp K H S t v->Rps K H S ts vs->Rps K H S (t::ts) (v::vs)
end
def Fr (H:Hp) (S:Sto) (H':Hp) (S':Sto):Prop:=∀ a o,H a=some o->S a=none->H' a=some o/\S' a=none
theorem Fr.refl {H S}:Fr H S H S:=λ_ _ h n=>⟨h,n⟩
theorem Fr.trans {H S H1 S1 H2 S2}(f:Fr H S H1 S1) (g:Fr H1 S1 H2 S2):Fr H S H2 S2:=λa o h n=>by
 obtain ⟨h1,n1⟩:=f a o h n
 exact g a o h1 n1
section
variable {K:Fg}{H H':Hp}{S S':Sto}
theorem Scr.fr {p ns}(h:Scr K H S p ns) (f:Fr H S H' S'):Scr K H' S' p ns:=by
 rcases h with ⟨n,o,e⟩|h
 ·obtain ⟨e',n'⟩:=f p _ e n
  exact .inl ⟨n',o,e'⟩
 ·exact .inr h
theorem Scr.sq {p ns}(h:Scr K H S p ns):SqL K H p (ns.map V.int):=by
 rcases h with ⟨_,o,e⟩|h
 ·exact .inl (.inr ⟨o,e⟩)
 ·rcases h with (h|⟨o,h⟩)|h
  ·cases h
  ·cases h
  ·exact .inr h
mutual
theorem Rp.fr (f:Fr H S H' S'):∀ {t v},Rp K H S t v->Rp K H' S' t v
 |_,_,.non=>.non
 |_,_,.bl=>.bl
 |_,_,.int=>.int
 |_,_,.str=>.str
 |_,_,.ty=>.ty
 |_,_,.ref=>.ref
 |_,_,.tup n h r=>.tup (f _ _ h n).2 (f _ _ h n).1 (Rps.fr f r)
 |_,_,.lst n h r=>.lst (f _ _ h n).2 (f _ _ h n).1 (Rps.fr f r)
 |_,_,.scr h=>.scr (h.fr f)
theorem Rps.fr (f:Fr H S H' S'):∀ {ts vs},Rps K H S ts vs->Rps K H' S' ts vs
 |_,_,.nil=>.nil
 |_,_,.cons a b=>.cons (Rp.fr f a) (Rps.fr f b)
end
theorem Rps.length:∀ {ts vs},Rps K H S ts vs->vs.length=ts.length
 |_,_,.nil=>rfl
 |_,_,.cons _ b=>by simp [Rps.length b]
theorem Rps.append:∀ {ts vs us ws},Rps K H S ts vs->Rps K H S us ws->Rps K H S (ts++us) (vs++ws)
 |_,_,_,_,.nil,r=>r
 |_,_,_,_,.cons a b,r=>.cons a (Rps.append b r)
theorem Rps.drop:∀ {ts vs}(n:Nat),Rps K H S ts vs->Rps K H S (ts.drop n) (vs.drop n)
 |_,_,0,r=>r
 |_,_,_+1,.nil=>.nil
 |_,_,n+1,.cons _ b=>Rps.drop n b
theorem Rps.take:∀ {ts vs}(n:Nat),Rps K H S ts vs->Rps K H S (ts.take n) (vs.take n)
 |_,_,0,_=>.nil
 |_,_,_+1,.nil=>.nil
 |_,_,n+1,.cons a b=>.cons a (Rps.take n b)
theorem Rps.set {t v}(r:Rp K H S t v):∀ {ts vs}(i:Nat),Rps K H S ts vs->Rps K H S (ts.set i t) (vs.set i v)
 |_,_,_,.nil=>.nil
 |_,_,0,.cons _ b=>.cons r b
 |_,_,i+1,.cons a b=>.cons a (Rps.set r i b)
theorem Rps.get:∀ {ts vs}{i:Nat}{t},Rps K H S ts vs->ts[i]?=some t->∃ v,vs[i]?=some v/\Rp K H S t v
 |_,_,_,_,.nil,e=>by simp at e
 |_,_,0,_,.cons a _,e=>by simp at e;subst e;exact ⟨_,rfl,a⟩
 |_,_,i+1,_,.cons _ b,e=>by
  obtain ⟨v,h1,h2⟩:=Rps.get (i:=i) b (by simpa using e)
  exact ⟨v,by simpa using h1,h2⟩
theorem Rps.getV:∀ {ts vs}{i:Nat}{v},Rps K H S ts vs->vs[i]?=some v->∃ t,ts[i]?=some t/\Rp K H S t v
 |_,_,_,_,.nil,e=>by simp at e
 |_,_,0,_,.cons a _,e=>by simp at e;subst e;exact ⟨_,rfl,a⟩
 |_,_,i+1,_,.cons _ b,e=>by
  obtain ⟨v,h1,h2⟩:=Rps.getV (i:=i) b (by simpa using e)
  exact ⟨v,by simpa using h1,h2⟩
theorem Rps.ints {ns:List Int}:Rps K H S (ns.map T.int) (ns.map V.int):=by
 induction ns with
 |nil=>exact .nil
 |cons a l ih=>exact .cons .int ih
theorem Rps.strs {ns:List Str}:Rps K H S (ns.map T.str) (ns.map V.str):=by
 induction ns with
 |nil=>exact .nil
 |cons a l ih=>exact .cons .str ih
end
inductive ORp (K:Fg) (H:Hp) (S:Sto) (a:Addr):O->Prop
 |lst {ts vs}:H a=some (.lst vs)->Rps K H S ts vs->ORp K H S a (.lst ts)
 |dK {kvs kts}:H a=some (.dK kvs)->Paired (λ(p:Key×T) (q:Key×V)=>p.1=q.1/\Rp K H S p.2 q.2) kts kvs->ORp K H S a (.dK kts)
 |dT {kvs kts}:H a=some (.dT kvs)->Paired (λ(p:List Key×T) (q:List Key×V)=>p.1=q.1/\Rp K H S p.2 q.2) kts kvs->ORp K H S a (.dT kts)
 |fK {w od kvs kts}:H a=some (fzH w a od kvs)->Paired (λ(p:Key×T) (q:Key×V)=>p.1=q.1/\Rp K H S p.2 q.2) kts kvs->ORp K H S a (.fK w od kvs kts)
 |ins {C dx fs fts}:H a=some (.ins C dx fs)->Paired (λ(p:Str×T) (q:Str×V)=>p.1=q.1/\Rp K H S p.2 q.2) fts fs->ORp K H S a (.ins C fts)
 |exk {C}:H a=some (exH C a)->ORp K H S a (.exk C)
section
variable {K:Fg}{H:Hp}{S:Sto}{v:V}{a:Addr}
theorem Rp.iint {i:Int}(r:Rp K H S (.int i) v):v=.int i:=by cases r;rfl
theorem Rp.istr {x:Str}(r:Rp K H S (.str x) v):v=.str x:=by cases r;rfl
theorem Rp.itup {ts:List T}(r:Rp K H S (.tup ts) v):∃ p vs,v=.ref p/\H p=some (.tup vs)/\Rps K H S ts vs:=by cases r with|tup n h p=>exact ⟨_,_,rfl,h,p⟩
theorem ORp.iins {C:Addr}{fts:List (Str×T)}(r:ORp K H S a (.ins C fts)):∃ dx fs,H a=some (.ins C dx fs)/\Paired (λ(p:Str×T) (q:Str×V)=>p.1=q.1/\Rp K H S p.2 q.2) fts fs:=by cases r with|ins h p=>exact ⟨_,_,h,p⟩
end
def SRp (K:Fg) (H:Hp) (S:Sto):Prop:=∀ a o,S a=some o->ORp K H S a o
section
variable {K:Fg}{H H':Hp}{S S':Sto}{a:Addr}{o:O}
theorem ORp.some (r:ORp K H S a o):∃ u,H a=some u:=by cases r<;>exact ⟨_,‹_›⟩
theorem SRp.fresh (s:SRp K H S) (h:H a=none):S a=none:=by
 cases e:S a with
 |none=>rfl
 |some o=>obtain ⟨u,q⟩:=(s a o e).some;rw [h] at q;cases q
theorem ORp.fr (r:ORp K H S a o) (f:Fr H S H' S') (h:H' a=H a):ORp K H' S' a o:=by
 cases r with
 |lst e q=>exact .lst (h.trans e) (q.fr f)
 |dK e q=>exact .dK (h.trans e) (Paired.mapP q λ_ _ z=>⟨z.1,z.2.fr f⟩)
 |dT e q=>exact .dT (h.trans e) (Paired.mapP q λ_ _ z=>⟨z.1,z.2.fr f⟩)
 |fK e q=>exact .fK (h.trans e) (Paired.mapP q λ_ _ z=>⟨z.1,z.2.fr f⟩)
 |ins e q=>exact .ins (h.trans e) (Paired.mapP q λ_ _ z=>⟨z.1,z.2.fr f⟩)
 |exk e=>exact .exk (h.trans e)
theorem Fr.new {p:Addr}{u:HO}(h:H p=none):Fr H S (upd H p u) S:=λa o e n=>⟨by rw [aB (bj e h)];exact e,n⟩
theorem SRp.new {p:Addr}{u:HO}(s:SRp K H S) (h:H p=none):SRp K (upd H p u) S:=λa o e=>by
 obtain ⟨x,hx⟩:=(s a o e).some
 exact (s a o e).fr (Fr.new h) (aB (bj hx h))
theorem Fr.newT {p:Addr}{u:HO}{o:O}(h:H p=none):Fr H S (upd H p u) (put S p o):=λa _ e n =>
 ⟨by rw [aB (bj e h)];exact e,by rw [ak (bj e h)];exact n⟩
theorem SRp.newT {p:Addr}{u:HO}{o:O}(s:SRp K H S) (h:H p=none) (n:ORp K (upd H p u) (put S p o) p o):SRp K (upd H p u) (put S p o):=λa o' e=>by
 by_cases ha:a=p
 ·subst ha;rw [au] at e;cases e;exact n
 ·rw [ak ha] at e
  exact (s a o' e).fr (Fr.newT h) (aB ha)
theorem Fr.write {p:Addr}{u:HO}{o:O}(h:S p≠none):Fr H S (upd H p u) (put S p o):=λa _ e n =>
 have ne:a≠p:=λz=>by subst z;exact h n
 ⟨by rw [aB ne];exact e,by rw [ak ne];exact n⟩
theorem SRp.write {p:Addr}{u:HO}{o:O}(s:SRp K H S) (h:S p≠none) (n:ORp K (upd H p u) (put S p o) p o):SRp K (upd H p u) (put S p o):=λa o' e=>by
 by_cases ha:a=p
 ·subst ha;rw [au] at e;cases e;exact n
 ·rw [ak ha] at e
  exact (s a o' e).fr (Fr.write h) (aB ha)
def Le (S0 S:Sto):Prop:=∀ a o,S0 a=some o->S a=some o
theorem Le.refl {S}:Le S S:=λ_ _ h=>h
theorem Le.none {S0 S:Sto}(l:Le S0 S){a:Addr}(h:S a=none):S0 a=none:=by
 cases e:S0 a with
 |none=>rfl
 |some o=>rw [l a o e] at h;cases h
theorem Fr.le {S0:Sto}(l:Le S0 S):Fr H S H S0:=λ_ _ h n=>⟨h,l.none n⟩
theorem SRp.le {S0:Sto}(s:SRp K H S) (l:Le S0 S):SRp K H S0:=λa o e=>(s a o (l a o e)).fr (Fr.le l) rfl
end
abbrev StT:=List (Option T)
abbrev WE:=StT->Sto->(T->Sto->Prop)->Prop
abbrev WT:=StT->Sto->(Bool->Sto->Prop)->Prop
abbrev WA:=StT->Sto->(List T->Sto->Prop)->Prop
structure EndsT where
 nx:StT->Sto->Prop
 rt:T->Sto->Prop
 bk:StT->Sto->Prop:=λ_ _=>False
 ct:StT->Sto->Prop:=λ_ _=>False
abbrev WS:=EndsT->StT->Sto->Prop
def Cov (K:Fg) (H:Hp) (S:Sto) (σ:St) (σt:StT):Prop:=σt.length=σ.length/\∀ (i:Nat) (t:T),σt[i]?=some (some t)->∃ v:V,σ[i]?=some (some v)/\Rp K H S t v
theorem Cov.fr {K H S H' S' σ σt}(c:Cov K H S σ σt) (f:Fr H S H' S'):Cov K H' S' σ σt:=⟨c.1,λi t e=>by
 obtain ⟨v,h,r⟩:=c.2 i t e
 exact ⟨v,h,r.fr f⟩⟩
theorem Cov.set {K H S σ σt t v}(c:Cov K H S σ σt) (r:Rp K H S t v) (i:Nat):Cov K H S (σ.set i (some v)) (σt.set i (some t)):=by
 refine ⟨by simp [c.1],λj u e=>?_⟩
 by_cases h:i=j
 ·subst h
  by_cases hl:i<σt.length
  ·rw [List.getElem?_set_self hl] at e
   cases e
   exact ⟨v,List.getElem?_set_self (by rw [<- c.1];exact hl),r⟩
  ·rw [List.getElem?_eq_none (by simp;omega)] at e;cases e
 ·rw [List.getElem?_set_ne h] at e ⊢
  exact c.2 j u e
abbrev Bh (K:Fg) (H:Hp) (S:Sto) (Qt:T->Sto->Prop) (Q:VK):Prop:=∀ v H' t S',Fr H S H' S'->SRp K H' S'->Rp K H' S' t v->Qt t S'->Q v H'
def lE (K:Fg) (w:WE):TE:=λσ H Q=>∃ S σt Qt,SRp K H S/\Cov K H S σ σt/\w σt S Qt/\Bh K H S Qt Q
def lT (K:Fg) (w:WT):TT:=λσ H Q=>∃ S σt Qt,SRp K H S/\Cov K H S σ σt/\w σt S Qt/\∀ b H' S',Fr H S H' S'->SRp K H' S'->Qt b S'->Q b H'
def lA (K:Fg) (w:WA):TA:=λσ H Q=>∃ S σt Qt,SRp K H S/\Cov K H S σ σt/\w σt S Qt/\∀ vs H' ts S',Fr H S H' S'->SRp K H' S'->Rps K H' S' ts vs->Qt ts S'->Q vs H'
structure EndsOk (K:Fg) (H:Hp) (S:Sto) (Dt:EndsT) (D:Ends):Prop where
 nx:∀ σ' H' σt' S',Fr H S H' S'->SRp K H' S'->Cov K H' S' σ' σt'->Dt.nx σt' S'->D.nx σ' H'
 rt:∀ v H' t S',Fr H S H' S'->SRp K H' S'->Rp K H' S' t v->Dt.rt t S'->D.rt v H'
 bk:∀ σ' H' σt' S',Fr H S H' S'->SRp K H' S'->Cov K H' S' σ' σt'->Dt.bk σt' S'->D.bk σ' H'
 ct:∀ σ' H' σt' S',Fr H S H' S'->SRp K H' S'->Cov K H' S' σ' σt'->Dt.ct σt' S'->D.ct σ' H'
theorem EndsOk.fr {K H S H' S' Dt D}(e:EndsOk K H S Dt D) (f:Fr H S H' S'):EndsOk K H' S' Dt D :=
 ⟨λσ' H2 σt' S2 g=>e.nx σ' H2 σt' S2 (f.trans g),λv H2 t S2 g=>e.rt v H2 t S2 (f.trans g),λσ' H2 σt' S2 g=>e.bk σ' H2 σt' S2 (f.trans g),λσ' H2 σt' S2 g=>e.ct σ' H2 σt' S2 (f.trans g)⟩
def lS (K:Fg) (w:WS):TS:=λD σ H=>∃ S σt Dt,SRp K H S/\Cov K H S σ σt/\w Dt σt S/\EndsOk K H S Dt D
def QE (K:Fg) (X:Cx) (e:Expr) (w:WE):Prop:=PE X e (lE K w)
def QT (K:Fg) (X:Cx) (e:Expr) (w:WT):Prop:=PT X e (lT K w)
def QW (K:Fg) (X:Cx) (e:Expr) (w:WT):Prop:=PW X e (lT K w)
def QA (K:Fg) (X:Cx) (es:List Expr) (w:WA):Prop:=PA X es (lA K w)
def QS (K:Fg) (X:Cx) (st:Stmt) (w:WS):Prop:=PS X st (lS K w)
def QSs (K:Fg) (X:Cx) (st:List Stmt) (w:WS):Prop:=PSs X st (lS K w)
theorem PE.of {X:Cx}{e:Expr}{t t':TE}(h:PE X e t) (i:∀ σ H Q,t' σ H Q->t σ H Q):PE X e t':=λpins s σ H Q I q=>h pins s σ H Q I (i σ H Q q)
theorem PT.of {X:Cx}{e:Expr}{t t':TT}(h:PT X e t) (i:∀ σ H Q,t' σ H Q->t σ H Q):PT X e t':=λpins s σ H Q I q=>h pins s σ H Q I (i σ H Q q)
theorem PW.of {X:Cx}{e:Expr}{t t':TT}(h:PW X e t) (i:∀ σ H Q,t' σ H Q->t σ H Q):PW X e t':=λwh pins s σ H Q I q=>h wh pins s σ H Q I (i σ H Q q)
theorem PA.of {X:Cx}{e:List Expr}{t t':TA}(h:PA X e t) (i:∀ σ H Q,t' σ H Q->t σ H Q):PA X e t':=λp pins s σ H Q I q=>h p pins s σ H Q I (i σ H Q q)
theorem PS.of {X:Cx}{e:Stmt}{t t':TS}(h:PS X e t) (i:∀ D σ H,t' D σ H->t D σ H):PS X e t':=λpins s σ H D I q=>h pins s σ H D I (i D σ H q)
theorem PSs.of {X:Cx}{e:List Stmt}{t t':TS}(h:PSs X e t) (i:∀ D σ H,t' D σ H->t D σ H):PSs X e t':=λpins s σ H D I q=>h pins s σ H D I (i D σ H q)
section
variable {K:Fg}{X:Cx}{a b c e:Expr}{wa wb wc:WE}{pos:Pos}
def wV (i:Nat):WE:=λσ S Q=>∃ t,σ[i]?=some (some t)/\Q t S
def wC (t:T):WE:=λ_ S Q=>Q t S
theorem ET {i:Nat}{x:Str}(h:PE X (.Name x pos) (vN i)):QE K X (.Name x pos) (wV i):=PE.of h λσ H Q zz56=>by
 obtain ⟨S,σt,Qt,s,c,⟨t,e,q⟩,hq⟩:=zz56
 obtain ⟨v,e2,r⟩:=c.2 i t e
 exact ⟨v,e2,hq v H t S .refl s r q⟩
theorem ai {i j}:QE K X (.Constant (.int i) j pos) (wC (.int i)):=PE.of B9 λσ H Q zz57=>by obtain ⟨S,σt,Qt,s,c,q,hq⟩:=zz57;exact hq _ H _ S .refl s .int q
theorem cg {i j}:QE K X (.Constant (.bool i) j pos) (wC (.bl i)):=PE.of Er λσ H Q zz58=>by obtain ⟨S,σt,Qt,s,c,q,hq⟩:=zz58;exact hq _ H _ S .refl s .bl q
theorem uP {j}:QE K X (.Constant .none j pos) (wC .non):=PE.of B' λσ H Q zz59=>by obtain ⟨S,σt,Qt,s,c,q,hq⟩:=zz59;exact hq _ H _ S .refl s .non q
theorem aM {x j}:QE K X (.Constant (.str x) j pos) (wC (.str x)):=PE.of jJ λσ H Q zz60=>by obtain ⟨S,σt,Qt,s,c,q,hq⟩:=zz60;exact hq _ H _ S .refl s .str q
theorem mE {x:Str}{t:T}{v:V}(h:PE X (.Name x pos) (tC v)) (r:∀ H S,Rp K H S t v):QE K X (.Name x pos) (wC t):=PE.of h λσ H Q zz61=>by obtain ⟨S,σt,Qt,s,c,q,hq⟩:=zz61;exact hq _ H _ S .refl s (r _ _) q
abbrev G2:=T->T->Sto->(T->Sto->Prop)->Prop
def l2 (K:Fg) (g:G2):R2:=λx y H Q=>∃ S tx ty Qt,SRp K H S/\Rp K H S tx x/\Rp K H S ty y/\g tx ty S Qt/\Bh K H S Qt Q
def w2 (g:G2) (wa wb:WE):WE:=λσ S Q=>wa σ S λx S1=>wb σ S1 λy S2=>g x y S2 Q
theorem j4 {g:G2}{σ H Q}(h:lE K (w2 g wa wb) σ H Q):tOp (l2 K g) (lE K wa) (lE K wb) σ H Q:=by
 obtain ⟨S,σt,Qt,s,c,q,hq⟩:=h
 refine ⟨S,σt,_,s,c,q,λx H1 tx S1 f1 s1 r1 q1=>?_⟩
 refine ⟨S1,σt,_,s1,c.fr f1,q1,λy H2 ty S2 f2 s2 r2 q2=>?_⟩
 exact ⟨S2,tx,ty,Qt,s2,r1.fr f2,r2,q2,λv H' t S' f=>hq v H' t S' ((f1.trans f2).trans f)⟩
theorem aC {op:Operator}{g:G2}(ho:OpR X (binaryOp op) (l2 K g)) (ha:QE K X a wa) (hb:QE K X b wb):QE K X (.BinOp a op b pos) (w2 g wa wb):=PE.of (EA ho ha hb) λ_ _ _ h=>j4 h
theorem b9 {op:CmpOp}{g:G2}(ho:OpR X (compareOp op) (l2 K g)) (ha:QE K X a wa) (hb:QE K X b wb) (hm:behindInMarks op b=false):QE K X (.Compare a [op] [b] pos) (w2 g wa wb):=PE.of (Ag ho ha hb hm) λ_ _ _ h=>j4 h
def wB (w:WE):WT:=λσ S Q=>w σ S λx S1=>∃ k,x=.bl k/\Q k S1
theorem EU {w:WE}{σ H Q}(h:lT K (wB w) σ H Q):uM (lE K w) σ H Q:=by
 obtain ⟨S,σt,Qt,s,c,q,hq⟩:=h
 refine ⟨S,σt,_,s,c,q,λx H1 tx S1 f1 s1 r1 q1=>?_⟩
 obtain ⟨k,rfl,q1⟩:=q1
 cases r1
 exact ⟨k,rfl,hq k H1 S1 f1 s1 q1⟩
theorem aK {op:CmpOp}{g:G2}(ho:OpR X (compareOp op) (l2 K g)) (ha:QE K X a wa) (hb:QE K X b wb) (hm:behindInMarks op b=false):QT K X (.Compare a [op] [b] pos) (wB (w2 g wa wb)) :=
 PT.of (Ah ho ha hb hm) λσ H Q h=>by
  obtain ⟨S,σt,Qt,s,c,q,hq⟩:=h
  exact j4 ⟨S,σt,_,s,c,q,λv H' t S' f s' r zz62=>by obtain ⟨k,e,q'⟩:=zz62;exact by subst e;cases r;exact ⟨k,rfl,hq k H' S' f s' q'⟩⟩
def mF (g g':G2) (wa wb wc:WE):WE:=λσ S Q=>wa σ S λx S1=>wb σ S1 λy S2=>g x y S2 λz S3=>∃ k,z=.bl k/\if k=true then wc σ S3 λu S4=>g' y u S4 Q else Q (.bl false) S3
theorem yf {g g':G2}{σ H Q}(h:lE K (mF g g' wa wb wc) σ H Q):sQ (l2 K g) (l2 K g') (lE K wa) (lE K wb) (lE K wc) σ H Q:=by
 obtain ⟨S,σt,Qt,s,c,q,hq⟩:=h
 refine ⟨S,σt,_,s,c,q,λx H1 tx S1 f1 s1 r1 q1=>?_⟩
 refine ⟨S1,σt,_,s1,c.fr f1,q1,λy H2 ty S2 f2 s2 r2 q2=>?_⟩
 refine ⟨S2,tx,ty,_,s2,r1.fr f2,r2,q2,λz H3 tz S3 f3 s3 r3 q3=>?_⟩
 obtain ⟨k,rfl,q3⟩:=q3
 cases r3
 refine ⟨k,rfl,?_⟩
 cases k with
 |false=>exact hq _ _ _ _ ((f1.trans f2).trans f3) s3 .bl q3
 |true =>
  refine ⟨S3,σt,_,s3,c.fr ((f1.trans f2).trans f3),q3,λu H4 tu S4 f4 s4 r4 q4=>?_⟩
  exact ⟨S4,ty,tu,Qt,s4,(r2.fr f3).fr f4,r4,q4,λv H' t S' f=>hq v H' t S' ((((f1.trans f2).trans f3).trans f4).trans f)⟩
theorem rp {op op':CmpOp}{g g':G2}(ho:OpR X (compareOp op) (l2 K g)) (ho':OpR X (compareOp op') (l2 K g')) (ha:QE K X a wa) (hb:QE K X b wb) (hc:QE K X c wc) (hm:lastMarks [op,op'] [b,c]=false:=by with_unfolding_all rfl) :
  QE K X (.Compare a [op,op'] [b,c] pos) (mF g g' wa wb wc):=PE.of (yO ho ho' ha hb hc hm) λ_ _ _ h=>yf h
theorem bN (h:QE K X e wa) (he:∀ whole,isTrue e X.env whole=(do let v <- whole;standAt e.pos;holding [v] (truthy v)):=by intro _;rfl):QT K X e (wB wa):=PT.of (Ca h he) λ_ _ _ h=>EU h
def vX (t u:WT):WT:=λσ S Q=>t σ S λc S1=>if c=true then u σ S1 Q else Q false S1
def wOr (t u:WT):WT:=λσ S Q=>t σ S λc S1=>if c=true then Q true S1 else u σ S1 Q
def vY (t:WT):WT:=λσ S Q=>t σ S λc S1=>Q (!c) S1
variable {ta tb:WT}{rest:List Expr}
theorem jN (ha:QT K X a ta):QW K X (.BoolOp .And [a] pos) ta:=z9 ha
theorem iD (ha:QT K X a ta):QW K X (.BoolOp .Or [a] pos) ta:=Cb ha
theorem iE (ha:QT K X a ta) (hb:QW K X (.BoolOp .And (b::rest) pos) tb):QW K X (.BoolOp .And (a::b::rest) pos) (vX ta tb):=PW.of (Cc ha hb) λσ H Q zz63=>by
 obtain ⟨S,σt,Qt,s,c,q,hq⟩:=zz63
 refine ⟨S,σt,_,s,c,q,λk H1 S1 f1 s1 q1=>?_⟩
 cases k with
 |true=>exact ⟨S1,σt,_,s1,c.fr f1,q1,λb H' S' f=>hq b H' S' (f1.trans f)⟩
 |false=>exact hq false H1 S1 f1 s1 q1
theorem gG (ha:QT K X a ta) (hb:QW K X (.BoolOp .Or (b::rest) pos) tb):QW K X (.BoolOp .Or (a::b::rest) pos) (wOr ta tb):=PW.of (Es ha hb) λσ H Q zz64=>by
 obtain ⟨S,σt,Qt,s,c,q,hq⟩:=zz64
 refine ⟨S,σt,_,s,c,q,λk H1 S1 f1 s1 q1=>?_⟩
 cases k with
 |false=>exact ⟨S1,σt,_,s1,c.fr f1,q1,λb H' S' f=>hq b H' S' (f1.trans f)⟩
 |true=>exact hq true H1 S1 f1 s1 q1
theorem du (h:QW K X e ta):QT K X e ta:=h _
theorem dE (ha:QT K X a ta):QT K X (.UnaryOp .Not a pos) (vY ta):=PT.of (Cd ha) λσ H Q zz65=>by obtain ⟨S,σt,Qt,s,c,q,hq⟩:=zz65;exact ⟨S,σt,_,s,c,q,λk H1 S1 f1 s1 q1=>hq _ H1 S1 f1 s1 q1⟩
def uQ (wa wb:WE):WE:=λσ S Q=>wa σ S λx S1=>∃ k,x=.bl k/\if k=true then wb σ S1 Q else Q (.bl false) S1
def vZ (wa wb:WE):WE:=λσ S Q=>wa σ S λx S1=>∃ k,x=.bl k/\if k=true then Q (.bl true) S1 else wb σ S1 Q
theorem gv {op}(h:QE K X a wa):QE K X (.BoolOp op [a] pos) wa:=Ce h
theorem fZ (ha:QE K X a wa) (hb:QE K X (.BoolOp .And (b::rest) pos) wb):QE K X (.BoolOp .And (a::b::rest) pos) (uQ wa wb):=PE.of (Cf ha hb) λσ H Q zz66=>by
 obtain ⟨S,σt,Qt,s,c,q,hq⟩:=zz66
 refine ⟨S,σt,_,s,c,q,λx H1 tx S1 f1 s1 r1 q1=>?_⟩
 obtain ⟨k,rfl,q1⟩:=q1
 cases r1
 refine ⟨k,rfl,?_⟩
 cases k with
 |true=>exact ⟨S1,σt,_,s1,c.fr f1,q1,λv H' t S' f=>hq v H' t S' (f1.trans f)⟩
 |false=>exact hq _ H1 _ S1 f1 s1 .bl q1
theorem EV (ha:QE K X a wa) (hb:QE K X (.BoolOp .Or (b::rest) pos) wb):QE K X (.BoolOp .Or (a::b::rest) pos) (vZ wa wb):=PE.of (Eu ha hb) λσ H Q zz67=>by
 obtain ⟨S,σt,Qt,s,c,q,hq⟩:=zz67
 refine ⟨S,σt,_,s,c,q,λx H1 tx S1 f1 s1 r1 q1=>?_⟩
 obtain ⟨k,rfl,q1⟩:=q1
 cases r1
 refine ⟨k,rfl,?_⟩
 cases k with
 |false=>exact ⟨S1,σt,_,s1,c.fr f1,q1,λv H' t S' f=>hq v H' t S' (f1.trans f)⟩
 |true=>exact hq _ H1 _ S1 f1 s1 .bl q1
def cM:WA:=λ_ S Q=>Q [] S
def uR (wa:WE) (wr:WA):WA:=λσ S Q=>wa σ S λx S1=>wr σ S1 λxs S2=>Q (x::xs) S2
variable {es:List Expr}{wr:WA}
theorem ag:QA K X [] cM:=PA.of sR λσ H Q zz68=>by obtain ⟨S,σt,Qt,s,c,q,hq⟩:=zz68;exact hq [] H [] S .refl s .nil q
theorem af (ha:QE K X e wa) (hr:QA K X es wr) (hs:starEach (e::es) X.env=(false,eval e X.env)::starEach es X.env:=by rfl):QA K X (e::es) (uR wa wr):=PA.of (qZ ha hr hs) λσ H Q zz69=>by
 obtain ⟨S,σt,Qt,s,c,q,hq⟩:=zz69
 refine ⟨S,σt,_,s,c,q,λx H1 tx S1 f1 s1 r1 q1=>?_⟩
 exact ⟨S1,σt,_,s1,c.fr f1,q1,λvs H2 ts S2 f2 s2 r2 q2=>hq _ H2 _ S2 (f1.trans f2) s2 (.cons (r1.fr f2) r2) q2⟩
def v0 (wr:WA):WE:=λσ S Q=>wr σ S λts S1=>ts.length<=sizeLine/\Q (.tup ts) S1
theorem bz {x1}(h:QA K X es wr):QE K X (.Tuple es x1 pos) (v0 wr):=PE.of (Cy h) λσ H Q zz70=>by
 obtain ⟨S,σt,Qt,s,c,q,hq⟩:=zz70
 refine ⟨S,σt,_,s,c,q,λvs H1 ts S1 f1 s1 r1 q1=>?_⟩
 refine ⟨by rw [r1.length];exact q1.1,λp hp=>hq _ _ (.tup ts) S1 (f1.trans (Fr.new hp)) (s1.new hp) (.tup (s1.fresh hp) aI (r1.fr (Fr.new hp))) q1.2⟩
def v3 (wr:WA):WE:=λσ S Q=>wr σ S λts S1=>ts.length<=sizeLine/\Q (.lst ts) S1
def uS (wr:WA):WE:=λσ S Q=>wr σ S λts S1=>ts.length<=sizeLine/\∀ p,S1 p=none->Q (.ref p) (put S1 p (.lst ts))
theorem bn (h:QA K X es wr):QE K X (.List es pos) (v3 wr):=PE.of (sS h) λσ H Q zz71=>by
 obtain ⟨S,σt,Qt,s,c,q,hq⟩:=zz71
 refine ⟨S,σt,_,s,c,q,λvs H1 ts S1 f1 s1 r1 q1=>?_⟩
 refine ⟨by rw [r1.length];exact q1.1,λp hp=>hq _ _ (.lst ts) S1 (f1.trans (Fr.new hp)) (s1.new hp) (.lst (s1.fresh hp) aI (r1.fr (Fr.new hp))) q1.2⟩
theorem h6 (h:QA K X es wr):QE K X (.List es pos) (uS wr):=PE.of (sS h) λσ H Q zz72=>by
 obtain ⟨S,σt,Qt,s,c,q,hq⟩:=zz72
 refine ⟨S,σt,_,s,c,q,λvs H1 ts S1 f1 s1 r1 q1=>?_⟩
 refine ⟨by rw [r1.length];exact q1.1,λp hp=>hq _ _ (.ref p) _ (f1.trans (Fr.newT hp)) (s1.newT hp (.lst aI (r1.fr (Fr.newT hp)))) .ref (q1.2 p (s1.fresh hp))⟩
end
section
variable {K:Fg}{X:Cx}{e:Expr}{we:WE}{st:Stmt}{rest:List Stmt}{w u:WS}{pos:Pos}
def uT:WS:=λD σ S=>D.nx σ S
def nJ (w u:WS):WS:=λD σ S=>w { D with nx:=u D } σ S
theorem a8:QSs K X [] uT:=PSs.of Aa λD σ H zz73=>by obtain ⟨S,σt,Dt,s,c,q,he⟩:=zz73;exact he.nx σ H σt S .refl s c q
theorem am (h1:QS K X st w) (h2:QSs K X rest u):QSs K X (st::rest) (nJ w u):=PSs.of (yL h1 h2) λD σ H ⟨S,σt,Dt,s,c,q,he⟩ =>
 ⟨S,σt,{ Dt with nx:=u Dt },s,c,q,⟨λ_ _ σt' S' f s' c' q'=>⟨S',σt',Dt,s',c',q',he.fr f⟩,he.rt,he.bk,he.ct⟩⟩
theorem ao (h1:QS K X st w):QSs K X [st] w:=Ab h1
def uU (we:WE):WS:=λD σ S=>we σ S λ_ S1=>D.nx σ S1
theorem bx (he:QE K X e we) (hs:swapsWith e none pos.line X.env=pure false:=by rfl):QS K X (.Expr e pos) (uU we):=PS.of (Ac he hs) λD σ H ⟨S,σt,Dt,s,c,q,he⟩ =>
 ⟨S,σt,_,s,c,q,λ_ H1 _ S1 f1 s1 _ q1=>he.nx σ H1 σt S1 f1 s1 (c.fr f1) q1⟩
def v4 (we:WE):WS:=λD σ S=>we σ S D.rt
theorem aE (he:QE K X e we):QS K X (.Return (some e) pos) (v4 we):=PS.of (Cg he) λD σ H zz74=>by obtain ⟨S,σt,Dt,s,c,q,he⟩:=zz74;exact ⟨S,σt,_,s,c,q,he.rt⟩
def v5 (t:WT) (w u:WS):WS:=λD σ S=>t σ S λb S1=>if b=true then w D σ S1 else u D σ S1
theorem aQ {c:Expr}{a b:List Stmt}{t:WT}(hc:QT K X c t) (ha:QSs K X a w) (hb:QSs K X b u):QS K X (.If c a b pos) (v5 t w u):=PS.of (Ex hc ha hb) λD σ H zz75=>by
 obtain ⟨S,σt,Dt,s,c,q,he⟩:=zz75
 refine ⟨S,σt,_,s,c,q,λk H1 S1 f1 s1 q1=>?_⟩
 cases k with
 |true=>exact ⟨S1,σt,Dt,s1,c.fr f1,q1,he.fr f1⟩
 |false=>exact ⟨S1,σt,Dt,s1,c.fr f1,q1,he.fr f1⟩
def CO:WS:=λ_ _ _=>False
theorem jv:QS K X st CO:=λ_ _ _ _ _ _ zz76=>by obtain ⟨_,_,_,_,_,q,_⟩:=zz76;exact q.elim
abbrev WG:=T->StT->Sto->(StT->Sto->Prop)->Prop
abbrev WGs:=List T->StT->Sto->(StT->Sto->Prop)->Prop
def lG (K:Fg) (g:WG):TG:=λv σ H Q=>∃ S t σt Qt,SRp K H S/\Rp K H S t v/\Cov K H S σ σt/\g t σt S Qt/\∀ σ' H' σt' S',Fr H S H' S'->SRp K H' S'->Cov K H' S' σ' σt'->Qt σt' S'->Q σ' H'
def lGs (K:Fg) (g:WGs):TGs:=λvs σ H Q=>∃ S ts σt Qt,SRp K H S/\Rps K H S ts vs/\Cov K H S σ σt/\g ts σt S Qt/\∀ σ' H' σt' S',Fr H S H' S'->SRp K H' S'->Cov K H' S' σ' σt'->Qt σt' S'->Q σ' H'
def QG (K:Fg) (X:Cx) (tg:Expr) (g:WG):Prop:=PG X tg (lG K g)
def QGs (K:Fg) (X:Cx) (tg:List Expr) (g:WGs):Prop:=PGs X tg (lGs K g)
theorem PG.of {X:Cx}{e:Expr}{t t':TG}(h:PG X e t) (i:∀ v σ H Q,t' v σ H Q->t v σ H Q):PG X e t':=λpins s σ H v u Q I r q=>h pins s σ H v u Q I r (i v σ H Q q)
theorem PGs.of {X:Cx}{e:List Expr}{t t':TGs}(h:PGs X e t) (i:∀ v σ H Q,t' v σ H Q->t v σ H Q):PGs X e t':=λpins s σ H v u Q I r q=>h pins s σ H v u Q I r (i v σ H Q q)
def wgN (i:Nat):WG:=λt σ S Q=>Q (σ.set i (some t)) S
theorem AM {i:Nat}{x:Str}(h:PG X (.Name x pos) (jZ i)):QG K X (.Name x pos) (wgN i):=PG.of h λv σ H Q zz77=>by obtain ⟨S,t,σt,Qt,s,r,c,q,hq⟩:=zz77;exact hq _ H _ S .refl s (c.set r i) q
def uV:WGs:=λts σ S Q=>ts=[]/\Q σ S
def sZ (g:WG) (h:WGs):WGs:=λts σ S Q=>∃ t r,ts=t::r/\g t σ S λσ' S'=>h r σ' S' Q
variable {tg:Expr}{tgs:List Expr}{g:WG}{gs:WGs}
theorem g7:QGs K X [] uV:=PGs.of Ae λv σ H Q zz78=>by
 obtain ⟨S,t,σt,Qt,s,r,c,⟨e,q⟩,hq⟩:=zz78
 subst e;cases r
 exact ⟨rfl,hq _ H _ S .refl s c q⟩
theorem cG (h1:QG K X tg g) (h2:QGs K X tgs gs) (h:∀ {t u},PG X tg t->PGs X tgs u->PGs X (tg::tgs) (uL t u)):QGs K X (tg::tgs) (sZ g gs):=PGs.of (h h1 h2) λv σ H Q zz79=>by
 obtain ⟨S,t,σt,Qt,s,r,c,⟨y,ys,e,q⟩,hq⟩:=zz79
 subst e
 cases r with
 |cons r rs =>
  refine ⟨_,_,rfl,S,y,σt,_,s,r,c,q,λσ' H' σt' S' f s' c' q'=>?_⟩
  exact ⟨S',ys,σt',Qt,s',rs.fr f,c',q',λσ2 H2 σt2 S2 f2=>hq σ2 H2 σt2 S2 (f.trans f2)⟩
def uW (n:Nat) (g:WGs):WG:=λt σ S Q=>∃ ts,t=.tup ts/\ts.length=n/\g ts σ S Q
theorem h7 {es:List Expr}{k n:Nat}(h:∀ {t},PGs X es t->PG X (.Tuple es k pos) (nE K n t)) (h1:QGs K X es gs):QG K X (.Tuple es k pos) (uW n gs):=PG.of (h h1) λv σ H Q zz80=>by
 obtain ⟨S,t,σt,Qt,s,r,c,⟨ts,e,l,q⟩,hq⟩:=zz80
 subst e
 cases r with
 |tup n' hp rs=>exact ⟨_,_,rfl,SqT.of hp,by rw [rs.length];exact l,S,ts,σt,Qt,s,rs,c,q,hq⟩
def iN (we:WE) (g:WG):WS:=λD σ S=>we σ S λt S1=>g t σ S1 D.nx
theorem AN {D σ H}(h:lS K (iN we g) D σ H):iL (lE K we) (lG K g) D σ H:=by
 obtain ⟨S,σt,Dt,s,c,q,he⟩:=h
 refine ⟨S,σt,_,s,c,q,λv H1 t S1 f1 s1 r1 q1=>?_⟩
 exact ⟨S1,t,σt,_,s1,r1,c.fr f1,q1,λσ' H' σt' S' f=>he.nx σ' H' σt' S' (f1.trans f)⟩
theorem df (h:∀ {t g},PE X e t->PG X tg g->PS X (.Assign [tg] e pos) (iL t g)) (he:QE K X e we) (hg:QG K X tg g):QS K X (.Assign [tg] e pos) (iN we g):=PS.of (h he hg) λ_ _ _ h=>AN h
theorem aD {i:Nat}{x:Str}{pos':Pos}(hN:X.N.Nodup) (hi:X.N[i]?=some x) (hx:Loc X.env.scope x) (he:QE K X e we) (hs:swapsWith e (some (.Name x pos')) pos.line X.env=pure false:=by rfl)
  (hf:X.fn x=true\/X.env.scope.names.lookup x=some .local:=by first|exact .inl rfl|exact .inr rfl|assumption):QS K X (.Assign [.Name x pos'] e pos) (iN we (wgN i)):=PS.of (Ci hN hi hx he hs hf) λD σ H h=>by
 obtain ⟨S,σt,Dt,s,c,q,he⟩:=h
 exact ⟨S,σt,_,s,c,q,λv H1 t S1 f1 s1 r1 q1=>he.nx _ H1 _ S1 f1 s1 ((c.fr f1).set r1 i) q1⟩
end
end T2
namespace T2
open PySem PySem.Spec PyProof.Rows L2
abbrev WSp:=List T->Sto->(T->Sto->Prop)->Prop
def lSp (K:Fg) (w:WSp):Sp:=λvs H Q _=>∃ S ts Qt,SRp K H S/\Rps K H S ts vs/\w ts S Qt/\Bh K H S Qt Q
def cI (N:List Str) (ts:List T):StT:=ts.map some++List.replicate (N.length - ts.length) none
theorem kX {K:Fg}{H:Hp}{S:Sto}{N:List Str}{ts:List T}{vs:List V}(r:Rps K H S ts vs):Cov K H S (L2.bO N vs) (cI N ts):=by
 have l:=r.length
 refine ⟨by unfold L2.bO cI;simp [l],λi t e=>?_⟩
 unfold cI at e
 by_cases hi:i<ts.length
 ·rw [List.getElem?_append_left (by simpa using hi),List.getElem?_map] at e
  cases q:ts[i]? with
  |none=>rw [q] at e;cases e
  |some a =>
   rw [q] at e;cases e
   obtain ⟨v,hv,rv⟩:=r.get q
   refine ⟨v,?_,rv⟩
   unfold L2.bO
   rw [List.getElem?_append_left (by simp;omega),List.getElem?_map,hv];rfl
 ·rw [List.getElem?_append_right (by simpa using hi),List.getElem?_replicate] at e
  split at e<;>cases e
def Fin (Q:T->Sto->Prop) (t:T) (S:Sto):Prop:=(∃ S0,Le S0 S/\Q t S0)\/∃ p ts S0,t=.ref p/\S p=some (.lst ts)/\Le S0 S/\S0 p=none/\Q (.lst ts) S0
theorem Fin.mk {Q:T->Sto->Prop}{t:T}{S:Sto}(h:Q t S):Fin Q t S:=.inl ⟨S,.refl,h⟩
theorem Fin.le {Q:T->Sto->Prop}{t:T}{S S0:Sto}(l:Le S0 S) (h:Q t S0):Fin Q t S:=.inl ⟨S0,l,h⟩
theorem Fin.frz {Q:T->Sto->Prop}{p:Addr}{ts:List T}{S S0:Sto}(e:S p=some (.lst ts)) (l:Le S0 S) (n:S0 p=none) (h:Q (.lst ts) S0):Fin Q (.ref p) S:=.inr ⟨p,ts,S0,rfl,e,l,n,h⟩
theorem Fin.ends {K:Fg}{H H':Hp}{S S':Sto}{Qt:T->Sto->Prop}{Q:VK}(b:Bh K H S Qt Q){v:V}{t:T}(f:Fr H S H' S') (s:SRp K H' S') (r:Rp K H' S' t v) (q:Fin Qt t S'):Q v H':=by
 rcases q with ⟨S0,l,q⟩|⟨p,ts,S0,rfl,e,l,n,q⟩
 ·exact b v H' t S0 (f.trans (Fr.le l)) (s.le l) (r.fr (Fr.le l)) q
 ·cases r
  cases s p _ e with
  |lst hp rs=>exact b _ H' (.lst ts) S0 (f.trans (Fr.le l)) (s.le l) (.lst n hp (rs.fr (Fr.le l))) q
section
variable {P:Program}{w:World}{K:Fg}{mg:Str->Option Value}{base:Heap}
theorem aW {x qual:Str}{st:Stmt}{f:Addr}{fd:FuncData}{N ps:List Str}{k:Nat}{wsp:WSp}(F:Fun K x qual st f fd) (Sc:FnScope N ps (aj st)) (len:∀ ts S Q,wsp ts S Q->ts.length=ps.length)
  (hbody:∀ (cdv:Value) (A:Around) (outer:List Env) (s:Shared) (H:Hp) (E:XK),Room k (A.deeper (envOfC qual (aj st) s.heap.objs.size f cdv)) ->
   ∃ u,QSs K (cq CX0 P w K mg base N qual (aj st) f cdv A outer s H E).nox (av st) u/\∀ ts S Q,wsp ts S Q->u { nx:=λ_ S'=>Fin Q .non S',rt:=Fin Q } (cI N ts) S):FnOk P w K mg base CX0 (k+1) f fd ps (lSp K wsp):=by
 refine Fun.ok F Sc (λvs H Q E ⟨S,ts,Qt,s,r,q,_⟩=>by rw [r.length];exact len _ _ _ q) λcdv A outer s H vs Q E hr ⟨S,ts,Qt,sr,r,q,b⟩=>?_
 obtain ⟨u,hu,hq⟩:=hbody cdv A outer s H E hr
 refine ⟨_,hu,S,cI N ts,_,sr,kX r,hq ts S Qt q,⟨λ_ H' _ S' f s' _ q'=>Fin.ends b f s' .non q',λv H' t S' f s' r' q'=>Fin.ends b f s' r' q',λ_ _ _ _ _ _ _ q'=>q'.elim,λ_ _ _ _ _ _ _ q'=>q'.elim⟩⟩
theorem FnOk.weak {k:Nat}{f:Addr}{fd:FuncData}{ps:List Str}{u v:WSp}(F:FnOk P w K mg base CX0 k f fd ps (lSp K u)) (h:∀ ts S Q,v ts S Q->u ts S Q):FnOk P w K mg base CX0 k f fd ps (lSp K v) :=
 F.imp λ_ _ _ _ zz81=>by obtain ⟨S,ts,Qt,s,r,q,b⟩:=zz81;exact ⟨S,ts,Qt,s,r,h _ _ _ q,b⟩
end
section
variable {K:Fg}{X:Cx}{k:Nat}{f C:Addr}{fd:FuncData}{ps:List Str}{wsp:WSp}{dts:List T}{dvs:List V}{ds:List Value}{x m:Str}{p pos apos:Pos}{e o:Expr}{es:List Expr}{wa:WE}{wr:WA}
def j5 (wsp:WSp) (dts:List T) (wr:WA):WE:=λσ S Q=>wr σ S λts S1=>wsp (ts++dts) S1 Q
theorem y8 {σ H Q}(hd:∀ H S,Rps K H S dts dvs) (h:lE K (j5 wsp dts wr) σ H Q):m3 (lSp K wsp) dvs E0 (lA K wr) σ H Q:=by
 obtain ⟨S,σt,Qt,s,c,q,hq⟩:=h
 refine ⟨S,σt,_,s,c,q,λvs H1 ts S1 f1 s1 r1 q1=>?_⟩
 exact ⟨S1,_,Qt,s1,r1.append (hd _ _),q1,λv H' t S' f=>hq v H' t S' (f1.trans f)⟩
theorem CP (hd:∀ H S,Rps K H S dts dvs) (hp:PE X e (m3 (lSp K wsp) dvs E0 (lA K wr))):QE K X e (j5 wsp dts wr):=PE.of hp λ_ _ _ h=>y8 hd h
def dI (G:Addr->Prop) (m:Str) (wsp:WSp) (dts:List T) (wa:WE) (wr:WA):WE:=λσ S Q=>wa σ S λx S1=>∃ a C fs,x=.ref a/\S1 a=some (.ins C fs)/\G C/\fs.lookup m=none/\wr σ S1 λts S2=>wsp (x::(ts++dts)) S2 Q
end
theorem b7 {K:Fg}{H:Hp}{S:Sto}{m:Str}:∀ {fts:List (Str×T)}{fs:List (Str×V)},Paired (λ(p:Str×T) (q:Str×V)=>p.1=q.1/\Rp K H S p.2 q.2) fts fs->fts.lookup m=none->fs.lookup m=none
 |_,_,.nil,_=>rfl
 |(a,b)::l,(c,d)::l',.cons ⟨e,r⟩ t,h=>by
  simp only at e;subst e
  rw [List.lookup_cons] at h ⊢
  by_cases z:(m==a)=true
  ·rw [z] at h;cases h
  ·simp only [Bool.not_eq_true] at z
   rw [z] at h ⊢
   exact b7 t h
theorem kY {K:Fg}{H:Hp}{S:Sto}{m:Str}{t:T}:∀ {fts:List (Str×T)}{fs:List (Str×V)},Paired (λ(p:Str×T) (q:Str×V)=>p.1=q.1/\Rp K H S p.2 q.2) fts fs->fts.lookup m=some t->∃ v,fs.lookup m=some v/\Rp K H S t v
 |_,_,.nil,h=>by cases h
 |(a,b)::l,(c,d)::l',.cons ⟨e,r⟩ ps,h=>by
  simp only at e;subst e
  rw [List.lookup_cons] at h ⊢
  by_cases z:(m==a)=true
  ·rw [z] at h ⊢;cases h;exact ⟨d,rfl,r⟩
  ·simp only [Bool.not_eq_true] at z
   rw [z] at h ⊢
   exact kY ps h
def dA (f:Str) (v:T):List (Str×T)->List (Str×T)
 |[]=>[(f,v)]
 |(g,u)::r=>if g=f then (g,v)::r else (g,u)::dA f v r
theorem pj {K:Fg}{H:Hp}{S:Sto}{f:Str}{t:T}{v:V}(r:Rp K H S t v):∀ {fts:List (Str×T)}{fs:List (Str×V)},Paired (λ(p:Str×T) (q:Str×V)=>p.1=q.1/\Rp K H S p.2 q.2) fts fs ->
  Paired (λ(p:Str×T) (q:Str×V)=>p.1=q.1/\Rp K H S p.2 q.2) (dA f t fts) (ba f v fs)
 |_,_,.nil=>.cons ⟨rfl,r⟩ .nil
 |(a,b)::l,(c,d)::l',.cons ⟨e,q⟩ ps=>by
  simp only at e;subst e
  unfold dA ba
  by_cases z:a=f
  ·rw [if_pos z,if_pos z];exact .cons ⟨rfl,r⟩ ps
  ·rw [if_neg z,if_neg z];exact .cons ⟨rfl,q⟩ (pj r ps)
theorem Paired.len {α β:Type}{F:α->β->Prop}:∀ {l:List α}{l':List β},Paired F l l'->l'.length=l.length
 |_,_,.nil=>rfl
 |_,_,.cons _ t=>by simp [Paired.len t]
section
variable {K:Fg}{X:Cx}{CX:CXT}{k:Nat}{f:Addr}{fd:FuncData}{ps:List Str}{sp:Sp}{wsp:WSp}{dts:List T}{dvs:List V}{ds:List Value}{E:XK}{x m:Str}{p pos apos:Pos}{e o:Expr}{es:List Expr}{wa:WE}{wr:WA}{ta:TE}{t:TA}{G:Addr->Prop}
def gb (G:Addr->Prop) (m:Str) (sp:Sp) (dvs:List V) (E:XK) (ta:TE) (t:TA):TE:=λσ H Q=>ta σ H λx H1=>∃ a C dx fs,x=.ref a/\H1 a=some (.ins C dx fs)/\G C/\fs.lookup m=none /\
 t σ H1 λvs H2=>sp (x::(vs++dvs)) H2 Q E
theorem qo {pl:Sem Bool}(he:PE X o ta) (hG:∀ C,G C->Cls X.K C/\Meth X.K C m f) (F:FnOk X.prog X.w X.K X.mg X.base CX k f fd ps sp) (hr:Room k X.A) (hb:ay X.K fd ps ds) (hd:al dvs ds) (hx:eB CX X E) (ha:PA X (e::es) t)
  (hst:starEach (e::es) X.env=(false,eval e X.env)::starEach es X.env:=by rfl) (hpl:(backTo pos (starEach es X.env)).any (·.1)=false:=by rfl)
  (ht:eval (.Call (.Attribute o m apos) (e::es) [] pos) X.env=(do
   let ov <- eval o X.env
   standAt apos.atName
   let (f,first) <- holding [ov] (getMethod ov m pl)
   callWith pos f first (backTo pos (starEach (e::es) X.env)) (backToKw pos (keywordEach [] X.env))):=by rfl) :
  PE X (.Call (.Attribute o m apos) (e::es) [] pos) (gb G m sp dvs E ta t):=by
 intro pins s σ H Q I h
 refine PySem.W.methodCall_KW (pl:=pl) (thn (he pins s σ H _ I h) λu s1 ⟨x,H1,I1,rx,a,C,dx,fs,ex,ea,g,l,q⟩=>?_) ht
 subst ex
 obtain rfl:u=Value.ref a:=rx
 obtain ⟨c,hm⟩:=hG C g
 refine kR I1 ea c hm l ?_
 refine PySem.W.callWith_K (first:=[.ref a]) (h₀:=X.base) I.ok.mod.kin hm.kp (thn (ha pos pins s1 σ H1 _ I1 q) λus s2 ⟨vs,H2,I2,r,q2⟩=>⟨I2.kIn,?_⟩) hst hpl
 exact mB (us:=.ref a::us) (vs:=.ref a::vs) F hr hb hd hx I2 (.cons rfl r) q2
theorem yg {pl:Sem Bool}(he:PE X o ta) (hG:∀ C,G C->Cls X.K C/\Meth X.K C m f) (F:FnOk X.prog X.w X.K X.mg X.base CX k f fd ps sp) (hr:Room k X.A) (hb:ay X.K fd ps ds) (hd:al dvs ds) (hx:eB CX X E)
  (ht:eval (.Call (.Attribute o m apos) [] [] pos) X.env=(do
   let ov <- eval o X.env
   standAt apos.atName
   let (f,first) <- holding [ov] (getMethod ov m pl)
   callWith pos f first (backTo pos (starEach [] X.env)) (backToKw pos (keywordEach [] X.env))):=by rfl) :
  PE X (.Call (.Attribute o m apos) [] [] pos) (gb G m sp dvs E ta dn):=by
 intro pins s σ H Q I h
 refine PySem.W.methodCall_KW (pl:=pl) (thn (he pins s σ H _ I h) λu s1 ⟨x,H1,I1,rx,a,C,dx,fs,ex,ea,g,l,q⟩=>?_) ht
 subst ex
 obtain rfl:u=Value.ref a:=rx
 obtain ⟨c,hm⟩:=hG C g
 refine kR I1 ea c hm l ?_
 exact PySem.W.callWith_K0 (first:=[.ref a]) I1.kIn hm.kp (mB (us:=[.ref a]) (vs:=[.ref a]) F hr hb hd hx I1 (.cons rfl .nil) q)
theorem y9 {σ H Q}(hd:∀ H S,Rps K H S dts dvs) (h:lE K (dI G m wsp dts wa wr) σ H Q):gb G m (lSp K wsp) dvs E0 (lE K wa) (lA K wr) σ H Q:=by
 obtain ⟨S,σt,Qt,s,c,q,hq⟩:=h
 refine ⟨S,σt,_,s,c,q,λx H1 tx S1 f1 s1 r1 q1=>?_⟩
 obtain ⟨a,C,fs,rfl,ea,g,l,q1⟩:=q1
 cases r1
 cases s1 a _ ea with
 |ins eh pr =>
  refine ⟨a,C,_,_,rfl,eh,g,b7 pr l,S1,σt,_,s1,c.fr f1,q1,λvs H2 ts S2 f2 s2 r2 q2=>?_⟩
  exact ⟨S2,_,Qt,s2,.cons .ref (r2.append (hd _ _)),q2,λv H' t S' f=>hq v H' t S' ((f1.trans f2).trans f)⟩
theorem tf (hd:∀ H S,Rps K H S dts dvs) (hp:PE X e (gb G m (lSp K wsp) dvs E0 (lE K wa) (lA K wr))):QE K X e (dI G m wsp dts wa wr):=PE.of hp λ_ _ _ h=>y9 hd h
theorem yh {σ H Q}(hd:∀ H S,Rps K H S dts dvs) (h:lE K (dI G m wsp dts wa cM) σ H Q):gb G m (lSp K wsp) dvs E0 (lE K wa) dn σ H Q:=by
 obtain ⟨S,σt,Qt,s,c,q,hq⟩:=h
 refine ⟨S,σt,_,s,c,q,λx H1 tx S1 f1 s1 r1 q1=>?_⟩
 obtain ⟨a,C,fs,rfl,ea,g,l,q1⟩:=q1
 cases r1
 cases s1 a _ ea with
 |ins eh pr =>
  refine ⟨a,C,_,_,rfl,eh,g,b7 pr l,?_⟩
  exact ⟨S1,_,Qt,s1,.cons .ref (Rps.append .nil (hd _ _)),q1,λv H' t S' f=>hq v H' t S' (f1.trans f)⟩
theorem AO (hd:∀ H S,Rps K H S dts dvs) (hp:PE X e (gb G m (lSp K wsp) dvs E0 (lE K wa) dn)):QE K X e (dI G m wsp dts wa cM):=PE.of hp λ_ _ _ h=>yh hd h
def m6 (C:Addr) (wsp:WSp) (dts:List T) (wr:WA):WE:=λσ S Q=>wr σ S λts S1=>∀ x,S1 x=none->wsp (.ref x::(ts++dts)) (put S1 x (.ins C [])) (λt S2=>t=.non/\Q (.ref x) S2)
theorem lP {H:Hp}{S:Sto}{C x dx:Addr}(hx:H x=none) (hd:H dx=none):Fr H S (upd (upd H dx (.own x)) x (.ins C dx [])) (put S x (.ins C [])):=λa o e n =>
 ⟨by rw [aB (bj e hx),aB (bj e hd)];exact e,by rw [ak (bj e hx)];exact n⟩
theorem y' {H:Hp}{S:Sto}{C x dx:Addr}(s:SRp K H S) (hx:H x=none) (hd:H dx=none):SRp K (upd (upd H dx (.own x)) x (.ins C dx [])) (put S x (.ins C [])):=λa o e=>by
 by_cases ha:a=x
 ·subst ha;rw [au] at e;cases e;exact .ins aI .nil
 ·rw [ak ha] at e
  obtain ⟨u,hu⟩:=(s a o e).some
  exact (s a o e).fr (lP hx hd) (by rw [aB ha,aB (bj hu hd)])
theorem AQ {C:Addr}{S:Sto}{H:Hp}{ts:List T}{vs:List V}{Qt:T->Sto->Prop}{Q:VK}(hd:∀ H S,Rps K H S dts dvs) (s:SRp K H S) (r:Rps K H S ts vs) (b:Bh K H S Qt Q)
  (q:∀ x,S x=none->wsp (.ref x::(ts++dts)) (put S x (.ins C [])) (λt S2=>t=.non/\Qt (.ref x) S2)) (x dx:Addr) (hx:H x=none) (hdx:H dx=none) :
  lSp K wsp (.ref x::(vs++dvs)) (upd (upd H dx (.own x)) x (.ins C dx [])) (λv H2=>v=.non/\Q (.ref x) H2) E0:=by
 refine ⟨_,_,_,y' s hx hdx,.cons .ref ((r.fr (lP hx hdx)).append (hd _ _)),q x (s.fresh hx),λv H' t S' f s' r' q'=>?_⟩
 obtain ⟨rfl,q'⟩:=q'
 cases r'
 exact ⟨rfl,b _ H' _ S' ((lP hx hdx).trans f) s' .ref q'⟩
theorem AR {C:Addr}(hd:∀ H S,Rps K H S dts dvs) (hp:PE X e (uN C (lSp K wsp) dvs E0 dn)):QE K X e (m6 C wsp dts cM):=PE.of hp λσ H Q ⟨S,σt,Qt,s,c,q,hq⟩=>λx dx hx hdx _ =>
 AQ hd s .nil hq q x dx hx hdx
def nK (G:Addr->Prop) (wa:WE) (f:Str):WE:=λσ S Q=>wa σ S λx S1=>∃ a C fs v,x=.ref a/\S1 a=some (.ins C fs)/\G C/\fs.lookup f=some v/\Q v S1
theorem EW {f:Str}(hK:X.K=K) (hG:∀ C,G C->Cls K C/\bG K C f) (he:QE K X o wa) (hb:attributeBase o f X.env (eval o X.env)=eval o X.env):QE K X (.Attribute o f pos) (nK G wa f):=by
 subst hK
 refine PE.of (Cu he hb) λσ H Q zz82=>?_
 obtain ⟨S,σt,Qt,s,c,q,hq⟩:=zz82
 refine ⟨S,σt,_,s,c,q,λx H1 tx S1 f1 s1 r1 q1=>?_⟩
 obtain ⟨a,C,fs,v,rfl,ea,g,l,q1⟩:=q1
 cases r1
 cases s1 a _ ea with
 |ins eh pr =>
  obtain ⟨u,lu,ru⟩:=kY pr l
  exact ⟨a,C,_,_,u,rfl,eh,(hG C g).1,(hG C g).2,lu,hq u H1 v S1 f1 s1 ru q1⟩
def uX (G:Addr->Prop) (wa wv:WE) (f:Str):WS:=λD σ S=>wv σ S λy S1=>wa σ S1 λx S2=>∃ a C fs,x=.ref a/\S2 a=some (.ins C fs)/\G C/\fs.length<1000/\D.nx σ (put S2 a (.ins C (dA f y fs)))
theorem pT {H:Hp}{S:Sto}{a C dx:Addr}{fts:List (Str×T)}{fs:List (Str×V)}{f:Str}{t:T}{v:V}(s:SRp K H S) (ea:S a=some (.ins C fts)) (eh:H a=some (.ins C dx fs))
  (pr:Paired (λ(p:Str×T) (q:Str×V)=>p.1=q.1/\Rp K H S p.2 q.2) fts fs) (r:Rp K H S t v):Fr H S (upd H a (.ins C dx (ba f v fs))) (put S a (.ins C (dA f t fts)))/\SRp K (upd H a (.ins C dx (ba f v fs))) (put S a (.ins C (dA f t fts))):=by
 have hn:S a≠none:=by rw [ea];simp
 refine ⟨Fr.write hn,s.write hn (.ins aI ?_)⟩
 exact Paired.mapP (pj r pr) λ_ _ z=>⟨z.1,z.2.fr (Fr.write hn)⟩
theorem tj {f:Str}{wv:WE}{value:Expr}{pos':Pos}(hK:X.K=K) (hG:∀ C,G C->Cls K C/\bG K C f) (ha:QE K X o wa) (hv:QE K X value wv) (hs:swapsWith value (some (.Attribute o f pos')) pos.line X.env=pure false:=by rfl) :
  QS K X (.Assign [.Attribute o f pos'] value pos) (uX G wa wv f):=by
 subst hK
 refine PS.of (Cv ha hv hs) λD σ H zz83=>?_
 obtain ⟨S,σt,Dt,s,c,q,he⟩:=zz83
 refine ⟨S,σt,_,s,c,q,λy H1 ty S1 f1 s1 r1 q1=>?_⟩
 refine ⟨S1,σt,_,s1,c.fr f1,q1,λx H2 tx S2 f2 s2 r2 q2=>?_⟩
 obtain ⟨a,C,fs,rfl,ea,g,l,q2⟩:=q2
 cases r2
 cases s2 a _ ea with
 |ins eh pr =>
  obtain ⟨fw,sw⟩:=pT (f:=f) s2 ea eh pr (r1.fr f2)
  exact ⟨a,C,_,_,rfl,eh,(hG C g).1,(hG C g).2,by rw [Paired.len pr];exact l,he.nx _ _ σt _ ((f1.trans f2).trans fw) sw (c.fr ((f1.trans f2).trans fw)) q2⟩
def qp (G:Addr->Prop) (wa wv:WE) (f:Str):WS:=λD σ S=>wa σ S λx S1=>∃ a C fs i,x=.ref a/\S1 a=some (.ins C fs)/\G C/\fs.lookup f=some (.int i) /\
 wv σ S1 λy S2=>∃ j fs',y=.int j/\S2 a=some (.ins C fs')/\fs'.length<1000/\D.nx σ (put S2 a (.ins C (dA f (.int (i+j)) fs')))
theorem yi {f:Str}{wv:WE}{value:Expr}{tpos:Pos}(hK:X.K=K) (hG:∀ C,G C->Cls K C/\bG K C f) (ha:QE K X o wa) (hv:QE K X value wv):QS K X (.AugAssign (.Attribute o f tpos) .Add value pos) (qp G wa wv f):=by
 subst hK
 refine PS.of (xT ha hv Cw) λD σ H zz84=>?_
 obtain ⟨S,σt,Dt,s,c,q,he⟩:=zz84
 refine ⟨S,σt,_,s,c,q,λx H1 tx S1 f1 s1 r1 q1=>?_⟩
 obtain ⟨a,C,fs,i,rfl,ea,g,l,q1⟩:=q1
 cases r1
 cases s1 a _ ea with
 |ins eh pr =>
  obtain ⟨u,lu,ru⟩:=kY pr l
  cases ru
  refine ⟨a,C,_,_,_,rfl,eh,(hG C g).1,(hG C g).2,lu,S1,σt,_,s1,c.fr f1,q1,λy H2 ty S2 f2 s2 r2 q2=>?_⟩
  obtain ⟨j,fs',rfl,ea2,l2,q2⟩:=q2
  cases r2
  cases s2 a _ ea2 with
  |ins eh2 pr2 =>
   obtain ⟨fw,sw⟩:=pT (f:=f) (t:=.int (i+j)) (v:=.int (i+j)) s2 ea2 eh2 pr2 .int
   exact ⟨i,j,rfl,rfl,_,_,eh2,by rw [Paired.len pr2];exact l2,he.nx _ _ σt _ ((f1.trans f2).trans fw) sw (c.fr ((f1.trans f2).trans fw)) q2⟩
end
def aH (S:Sto):T->Option (List T)
 |.lst ts=>some ts
 |.scr ns=>some (ns.map T.int)
 |.ref a=>match S a with
  |some (.lst ts)=>some ts
  |_=>none
 |_=>none
theorem eD {S:Sto}{p:Addr}{ts:List T}(e:S p=some (.lst ts)):aH S (.ref p)=some ts:=by delta aH;dsimp only;rw [e]
def ck (S:Sto):T->Option (List T)
 |.lst ts=>some ts
 |.ref a=>match S a with
  |some (.lst ts)=>some ts
  |_=>none
 |_=>none
theorem jw {K H S t v ts}(s:SRp K H S) (r:Rp K H S t v) (e:ck S t=some ts):∃ p vs,v=.ref p/\H p=some (.lst vs)/\Rps K H S ts vs:=by
 cases r with
 |lst n h q=>cases e;exact ⟨_,_,rfl,h,q⟩
 |ref =>
  rename_i a
  delta ck at e
  dsimp only at e
  cases q:S a with
  |none=>rw [q] at e;cases e
  |some o =>
   rw [q] at e
   cases o with
   |lst us=>cases e;cases s a _ q with
    |lst h rs=>exact ⟨a,_,rfl,h,rs⟩
   |_=>cases e
 |_=>cases e
theorem bF {K H S t v ts}(s:SRp K H S) (r:Rp K H S t v) (e:aH S t=some ts):∃ p vs,v=.ref p/\SqL K H p vs/\Rps K H S ts vs:=by
 cases r with
 |scr h=>cases e;exact ⟨_,_,rfl,h.sq,Rps.ints⟩
 |lst n h q=>cases e;exact ⟨_,_,rfl,SqL.of h,q⟩
 |ref =>
  obtain ⟨p,vs,e1,e2,e3⟩:=jw s (Rp.ref (K:=K) (H:=H) (S:=S)) (show ck S (.ref _)=some ts from e)
  exact ⟨p,vs,e1,SqL.of e2,e3⟩
 |_=>cases e
def newL (tr:Bool) (ts:List T) (S:Sto) (Q:T->Sto->Prop):Prop:=match tr with
 |false=>Q (.lst ts) S
 |true=>∀ p,S p=none->Q (.ref p) (put S p (.lst ts))
theorem gc {K H S ts vs tr Qt}{Q:VK}(s:SRp K H S) (r:Rps K H S ts vs) (n:newL tr ts S Qt) (b:Bh K H S Qt Q):∀ p,H p=none->Q (.ref p) (upd H p (.lst vs)):=λp hp=>by
 cases tr with
 |false=>exact b _ _ (.lst ts) S (Fr.new hp) (s.new hp) (.lst (s.fresh hp) aI (r.fr (Fr.new hp))) n
 |true=>exact b _ _ (.ref p) _ (Fr.newT hp) (s.newT hp (.lst aI (r.fr (Fr.newT hp)))) .ref (n p (s.fresh hp))
section
variable {K:Fg}{X:Cx}
def gI (C:Int->Int->Prop) (f:Int->Int->T):G2:=λx y S Q=>match x,y with
 |.int i,.int j=>C i j/\Q (f i j) S
 |_,_=>False
theorem j6 {f:Value->Value->Sem Value}{C:Int->Int->Prop}{g:Int->Int->Int}(h:OpR X f (rI C λi j=>.int (g i j))):OpR X f (l2 K (gI C λi j=>.int (g i j))):=by
 rintro pins s σ H x y v u Q I rx ry ⟨S,tx,ty,Qt,sr,hx,hy,hg,b⟩
 cases hx<;>first|exact hg.elim|skip
 cases hy<;>first|exact hg.elim|skip
 exact h pins s σ H _ _ v u Q I rx ry ⟨_,_,rfl,rfl,hg.1,b _ H _ S .refl sr .int hg.2⟩
theorem CQ {f:Value->Value->Sem Value}{g:Int->Int->Int}(h:OpR X f (rI0 λi j=>.int (g i j))):OpR X f (l2 K (gI (λ_ _=>True) λi j=>.int (g i j))):=by
 rintro pins s σ H x y v u Q I rx ry ⟨S,tx,ty,Qt,sr,hx,hy,hg,b⟩
 cases hx<;>first|exact hg.elim|skip
 cases hy<;>first|exact hg.elim|skip
 exact h pins s σ H _ _ v u Q I rx ry ⟨_,_,rfl,rfl,b _ H _ S .refl sr .int hg.2⟩
def gC:G2:=gI (λ_ _=>True) λi j=>.int (i - j)
def v6:G2:=gI (λ_ j=>0<j/\j<18446744073709551616) λi j=>.int (i / j)
def v7:G2:=gI (λ_ j=>0<j) λi j=>.int (i % j)
def v9:G2:=gI vQ λi j=>.int (i ^ j.toNat)
def wf:G2:=gI (λ_ j=>0<=j) λi j=>.int (i / 2 ^ j.toNat)
theorem iF:OpR X (binaryOp .Sub) (l2 K gC):=CQ Cl
theorem m7:OpR X (binaryOp .FloorDiv) (l2 K v6):=j6 yY
theorem cL:OpR X (binaryOp .Mod) (l2 K v7):=j6 Co
theorem j7:OpR X (binaryOp .Pow) (l2 K v9):=j6 Cq
theorem EX:OpR X (binaryOp .RShift) (l2 K wf):=j6 Cr
def kE (tr:Bool):G2:=λx y S Q=>match x,y with
 |.int i,.int j=>Q (.int (i+j)) S
 |.str a,.str c=>a.length+c.length<=sizeLine/\Q (.str (a++c)) S
 |x,y=>∃ ts us,ck S x=some ts/\ck S y=some us/\ts.length+us.length<=sizeLine/\newL tr (ts++us) S Q
theorem aT (tr:Bool):OpR X (binaryOp .Add) (l2 K (kE tr)):=by
 rintro pins s σ H x y v u Q I rx ry ⟨S,tx,ty,Qt,sr,hx,hy,hg,b⟩
 have lists:(∃ ts us,ck S tx=some ts/\ck S ty=some us/\ts.length+us.length<=sizeLine/\newL tr (ts++us) S Qt)->wpAny (model X.prog X.w) X.A (binaryOp .Add v u) (EP X pins σ Q) X.xe s:=by
  rintro ⟨ts,us,e1,e2,hz,n⟩
  obtain ⟨p,vs,rfl,h1,r1⟩:=jw sr hx e1
  obtain ⟨q,ws,rfl,h2,r2⟩:=jw sr hy e2
  exact CD pins s σ H _ _ v u Q I rx ry ⟨p,q,vs,ws,rfl,rfl,h1,h2,by rw [r1.length,r2.length];exact hz,gc sr (r1.append r2) n b⟩
 cases tx with
 |int i =>
  cases ty with
  |int j=>cases hx;cases hy;exact Ck pins s σ H _ _ v u Q I rx ry ⟨i,j,rfl,rfl,b _ H _ S .refl sr .int hg⟩
  |_=>exact lists hg
 |str a =>
  cases ty with
  |str c=>cases hx;cases hy;exact xu pins s σ H _ _ v u Q I rx ry ⟨a,c,rfl,rfl,hg.1,b _ H _ S .refl sr .str hg.2⟩
  |_=>exact lists hg
 |_=>exact lists hg
def wg (tr:Bool):G2:=λx y S Q=>match x,y with
 |.int i,.int j=>iM i j/\Q (.int (i * j)) S
 |x,.int k=>∃ ts,ck S x=some ts /\ -(2 ^ 63)<=k/\k<2 ^ 63/\ts.length * k.toNat<=sizeLine/\newL tr (List.replicate k.toNat ts).flatten S Q
 |_,_=>False
theorem Rps.rep {H S ts vs}(r:Rps K H S ts vs):∀ n:Nat,Rps K H S (List.replicate n ts).flatten (List.replicate n vs).flatten
 |0=>.nil
 |n+1=>by simp only [List.replicate_succ,List.flatten_cons];exact r.append (Rps.rep r n)
theorem gw (tr:Bool):OpR X (binaryOp .Mult) (l2 K (wg tr)):=by
 rintro pins s σ H x y v u Q I rx ry ⟨S,tx,ty,Qt,sr,hx,hy,hg,b⟩
 have lists:∀ k,ty=.int k->(∃ ts,ck S tx=some ts /\ -(2 ^ 63)<=k/\k<2 ^ 63/\ts.length * k.toNat<=sizeLine/\newL tr (List.replicate k.toNat ts).flatten S Qt)->wpAny (model X.prog X.w) X.A (binaryOp .Mult v u) (EP X pins σ Q) X.xe s:=by
  rintro k rfl ⟨ts,e1,k1,k2,hz,n⟩
  obtain ⟨p,vs,rfl,h1,r1⟩:=jw sr hx e1
  cases hy
  exact CF pins s σ H _ _ v u Q I rx ry ⟨p,k,vs,rfl,rfl,h1,k1,k2,by rw [r1.length];exact hz,gc sr (r1.rep _) n b⟩
 cases ty with
 |int k =>
  cases tx with
  |int i=>cases hx;cases hy;exact Cn pins s σ H _ _ v u Q I rx ry ⟨i,k,rfl,rfl,hg.1,b _ H _ S .refl sr .int hg.2⟩
  |_=>exact lists k rfl hg
 |_=>cases tx<;>exact hg.elim
mutual
def bq:T->Option PyData
 |.non=>some .none
 |.bl b=>some (.bool b)
 |.int i=>some (.int i)
 |.str x=>some (.str x)
 |.tup ts=>(aY ts).map .tuple
 |.lst ts=>(aY ts).map .list
 |.scr ns=>some (.list (ns.map .int))
 |_=>none
def aY:List T->Option (List PyData)
 |[]=>some []
 |t::ts=>match bq t,aY ts with
  |some d,some ds=>some (d::ds)
  |_,_=>none
end
def a7 (S:Sto) (t:T):Option PyData:=match t with
 |.ref a=>match S a with
  |some (.lst ts)=>(aY ts).map .list
  |_=>none
 |t=>bq t
theorem qr {ts:List T}:bq (.tup ts)=(aY ts).map .tuple:=rfl
theorem qt {ts:List T}:bq (.lst ts)=(aY ts).map .list:=rfl
theorem rq {t:T}{ts:List T}:aY (t::ts)=(match bq t,aY ts with|some d,some ds=>some (d::ds)|_,_=>none):=rfl
theorem rA {t:T}{ts:List T}{d:PyData}{ds:List PyData}(h1:bq t=some d) (h2:aY ts=some ds):aY (t::ts)=some (d::ds):=by rw [rq,h1,h2]
theorem AS {t:T}{ts:List T}{es:List PyData}(e:aY (t::ts)=some es):∃ d ds,bq t=some d/\aY ts=some ds/\es=d::ds:=by
 rw [rq] at e
 cases h1:bq t with
 |none=>rw [h1] at e;cases e
 |some d =>
  cases h2:aY ts with
  |none=>rw [h1,h2] at e;cases e
  |some dl=>rw [h1,h2] at e;cases e;exact ⟨d,dl,rfl,rfl,rfl⟩
theorem za {H:Hp}{ns:List Int}:DatVs K H (ns.map V.int) (ns.map PyData.int):=by
 induction ns with
 |nil=>exact .nil
 |cons a l ih=>exact .cons (.int a) ih
mutual
theorem lQ {H S}:∀ {t v d},Rp K H S t v->bq t=some d->DatV K H v d
 |_,_,_,.non,e=>by cases e;exact .non
 |_,_,_,.bl,e=>by cases e;exact .bl _
 |_,_,_,.int,e=>by cases e;exact .int _
 |_,_,_,.str,e=>by cases e;exact .str _
 |_,_,_,.ty,e=>by cases e
 |_,_,_,.ref,e=>by cases e
 |_,_,_,.tup n h r,e=>by
  simp only [qr,qt,Option.map_eq_some_iff] at e
  obtain ⟨ds,e,rfl⟩:=e
  exact .tup (SqT.of h) (jl r e)
 |_,_,_,.lst n h r,e=>by
  simp only [qr,qt,Option.map_eq_some_iff] at e
  obtain ⟨ds,e,rfl⟩:=e
  exact .lst (SqL.of h) (jl r e)
 |_,_,_,.scr h,e=>by cases e;exact .lst h.sq za
theorem jl {H S}:∀ {ts vs ds},Rps K H S ts vs->aY ts=some ds->DatVs K H vs ds
 |_,_,_,.nil,e=>by cases e;exact .nil
 |_,_,_,.cons (t:=t) (ts:=ts) a r,e=>by
  obtain ⟨d,dl,h1,h2,rfl⟩:=AS e
  exact .cons (lQ a h1) (jl r h2)
end
theorem dD {H S t v d}(s:SRp K H S) (r:Rp K H S t v) (e:a7 S t=some d):DatV K H v d:=by
 cases t with
 |ref a =>
  cases r
  delta a7 at e
  dsimp only at e
  cases q:S a with
  |none=>rw [q] at e;cases e
  |some o =>
   rw [q] at e
   cases o with
   |lst us =>
    simp only [Option.map_eq_some_iff] at e
    obtain ⟨ds,e,rfl⟩:=e
    cases s a _ q with
    |lst h rs=>exact .lst (SqL.of h) (jl rs e)
   |_=>cases e
 |_=>exact lQ r e
def gEq (neg:Bool):G2:=λx y S Q=>match x,y with
 |.int i,.int j=>Q (.bl (neg ^^ decide (i=j))) S
 |.str i,.str j=>Q (.bl (neg ^^ decide (i=j))) S
 |.bl i,.bl j=>Q (.bl (neg ^^ decide (i=j))) S
 |x,y=>∃ dx dy,a7 S x=some dx/\a7 S y=some dy/\dx.canLay0=true/\dy.canLay0=true/\min dx.depth dy.depth<=64/\Q (.bl (neg ^^ PyData.eqv dx dy)) S
theorem bu (hK:X.K=K) (hu:X.A.units+64<cLine):OpR X (compareOp .Eq) (l2 K (gEq false)):=by
 subst hK
 rintro pins s σ H x y v u Q I rx ry ⟨S,tx,ty,Qt,sr,hx,hy,hg,b⟩
 have deep:(∃ dx dy,a7 S tx=some dx/\a7 S ty=some dy/\dx.canLay0=true/\dy.canLay0=true/\min dx.depth dy.depth<=64/\Qt (.bl (false ^^ PyData.eqv dx dy)) S)->wpAny (model X.prog X.w) X.A (compareOp .Eq v u) (EP X pins σ Q) X.xe s:=by
  rintro ⟨dx,dy,e1,e2,c1,c2,hd,q⟩
  exact CH hu pins s σ H _ _ v u Q I rx ry ⟨dx,dy,dD sr hx e1,dD sr hy e2,c1,c2,hd,b _ H _ S .refl sr .bl q⟩
 cases tx with
 |int i =>
  cases ty with
  |int j=>cases hx;cases hy;exact mY pins s σ H _ _ v u Q I rx ry ⟨rfl,b _ H _ S .refl sr .bl (by have hg:Qt (.bl (false ^^ decide (i=j))) S:=hg;simpa using hg)⟩
  |_=>exact deep hg
 |str i =>
  cases ty with
  |str j=>cases hx;cases hy;exact mY pins s σ H _ _ v u Q I rx ry ⟨rfl,b _ H _ S .refl sr .bl (by have hg:Qt (.bl (false ^^ decide (i=j))) S:=hg;simpa using hg)⟩
  |_=>exact deep hg
 |bl i =>
  cases ty with
  |bl j=>cases hx;cases hy;exact mY pins s σ H _ _ v u Q I rx ry ⟨rfl,b _ H _ S .refl sr .bl (by have hg:Qt (.bl (false ^^ decide (i=j))) S:=hg;simpa using hg)⟩
  |_=>exact deep hg
 |_=>exact deep hg
theorem dQ (hK:X.K=K) (hu:X.A.units+64<cLine):OpR X (compareOp .NotEq) (l2 K (gEq true)):=by
 subst hK
 rintro pins s σ H x y v u Q I rx ry ⟨S,tx,ty,Qt,sr,hx,hy,hg,b⟩
 have deep:(∃ dx dy,a7 S tx=some dx/\a7 S ty=some dy/\dx.canLay0=true/\dy.canLay0=true/\min dx.depth dy.depth<=64/\Qt (.bl (true ^^ PyData.eqv dx dy)) S)->wpAny (model X.prog X.w) X.A (compareOp .NotEq v u) (EP X pins σ Q) X.xe s:=by
  rintro ⟨dx,dy,e1,e2,c1,c2,hd,q⟩
  exact CI hu pins s σ H _ _ v u Q I rx ry ⟨dx,dy,dD sr hx e1,dD sr hy e2,c1,c2,hd,b _ H _ S .refl sr .bl q⟩
 cases tx with
 |int i =>
  cases ty with
  |int j=>cases hx;cases hy;exact mZ pins s σ H _ _ v u Q I rx ry ⟨rfl,b _ H _ S .refl sr .bl (by have hg:Qt (.bl (true ^^ decide (i=j))) S:=hg;simpa using hg)⟩
  |_=>exact deep hg
 |str i =>
  cases ty with
  |str j=>cases hx;cases hy;exact mZ pins s σ H _ _ v u Q I rx ry ⟨rfl,b _ H _ S .refl sr .bl (by have hg:Qt (.bl (true ^^ decide (i=j))) S:=hg;simpa using hg)⟩
  |_=>exact deep hg
 |bl i =>
  cases ty with
  |bl j=>cases hx;cases hy;exact mZ pins s σ H _ _ v u Q I rx ry ⟨rfl,b _ H _ S .refl sr .bl (by have hg:Qt (.bl (true ^^ decide (i=j))) S:=hg;simpa using hg)⟩
  |_=>exact deep hg
 |_=>exact deep hg
def ltS (a c:Str):Bool:=decide (a.cps.toList<c.cps.toList)
def gLt:G2:=λx y S Q=>match x,y with
 |.int i,.int j=>Q (.bl (decide (i<j))) S
 |.str a,.str c=>Q (.bl (ltS a c)) S
 |_,_=>False
def gLe:G2:=λx y S Q=>match x,y with
 |.int i,.int j=>Q (.bl (decide (i<=j))) S
 |.str a,.str c=>Q (.bl (!ltS c a)) S
 |_,_=>False
def gGt:G2:=λx y S Q=>match x,y with
 |.int i,.int j=>Q (.bl (decide (j<i))) S
 |_,_=>False
theorem wj:OpR X (compareOp .Lt) (l2 K gLt):=by
 rintro pins s σ H x y v u Q I rx ry ⟨S,tx,ty,Qt,sr,hx,hy,hg,b⟩
 cases hx<;>first|exact hg.elim|skip
 ·cases hy<;>first|exact hg.elim|skip
  exact EC pins s σ H _ _ v u Q I rx ry ⟨_,_,rfl,rfl,b _ H _ S .refl sr .bl hg⟩
 ·cases hy<;>first|exact hg.elim|skip
  exact xO pins s σ H _ _ v u Q I rx ry ⟨_,_,rfl,rfl,b _ H _ S .refl sr .bl hg⟩
theorem dR:OpR X (compareOp .LtE) (l2 K gLe):=by
 rintro pins s σ H x y v u Q I rx ry ⟨S,tx,ty,Qt,sr,hx,hy,hg,b⟩
 cases hx<;>first|exact hg.elim|skip
 ·cases hy<;>first|exact hg.elim|skip
  exact ED pins s σ H _ _ v u Q I rx ry ⟨_,_,rfl,rfl,b _ H _ S .refl sr .bl hg⟩
 ·cases hy<;>first|exact hg.elim|skip
  exact ya pins s σ H _ _ v u Q I rx ry ⟨_,_,rfl,rfl,b _ H _ S .refl sr .bl hg⟩
theorem kF:OpR X (compareOp .Gt) (l2 K gGt):=by
 rintro pins s σ H x y v u Q I rx ry ⟨S,tx,ty,Qt,sr,hx,hy,hg,b⟩
 cases hx<;>first|exact hg.elim|skip
 cases hy<;>first|exact hg.elim|skip
 exact EE pins s σ H _ _ v u Q I rx ry ⟨_,_,rfl,rfl,b _ H _ S .refl sr .bl hg⟩
def wm (wa:WE):WE:=λσ S Q=>wa σ S λx S1=>match x with
 |.int i=>Q (.int (-i)) S1
 |_=>False
theorem iG {a:Expr}{wa:WE}{pos:Pos}(ha:QE K X a wa):QE K X (.UnaryOp .USub a pos) (wm wa):=PE.of (EB Cs ha) λσ H Q zz85=>by
 obtain ⟨S,σt,Qt,s,c,q,hq⟩:=zz85
 refine ⟨S,σt,_,s,c,q,λx H1 tx S1 f1 s1 r1 q1=>?_⟩
 cases r1<;>first|exact q1.elim|skip
 exact ⟨_,rfl,hq _ H1 _ S1 f1 s1 .int q1⟩
def ixT (S:Sto) (x y:T):Option T:=match x,y with
 |.tup ts,.int i=>atI ts i
 |.str z,.int i=>if z.length<=sizeLine then (atI z.cps.toList i).map λc=>.str ⟨#[c]⟩ else none
 |x,.int i=>(aH S x).bind λts=>atI ts i
 |_,_=>none
theorem tm {S:Sto}{p:Addr}{ts:List T}{i:Int}(e:S p=some (.lst ts)):ixT S (.ref p) (.int i)=atI ts i:=by
 show (aH S (.ref p)).bind (λts=>atI ts i)=_
 rw [eD e];rfl
theorem tq {S:Sto}{ts:List T}{i:Int}:ixT S (.lst ts) (.int i)=atI ts i:=rfl
def gIx:G2:=λx y S Q=>∃ r,ixT S x y=some r/\Q r S
theorem tw {H S ts vs i t}(r:Rps K H S ts vs) (e:atI ts i=some t):∃ v,atI vs i=some v/\Rp K H S t v:=by
 unfold atI at e ⊢
 rw [r.length]
 cases q:ixN ts.length i with
 |none=>rw [q] at e;cases e
 |some j =>
  rw [q] at e
  simp only [Option.bind_some] at e ⊢
  exact r.get e
theorem Hi (hK:X.K=K):IxR X (l2 K gIx):=by
 subst hK
 rintro value slice pins s σ H x y v u Q I rx ry ⟨S,tx,ty,Qt,sr,hx,hy,⟨r,e,q⟩,b⟩ hs
 have lists:∀ i,ty=.int i->(aH S tx).bind (λts=>atI ts i)=some r->wpAny (model X.prog X.w) X.A (subscriptTail value slice v u) (EP X pins σ Q) X.xe s:=by
  rintro i rfl e
  cases hy
  cases h1:aH S tx with
  |none=>rw [h1] at e;cases e
  |some ts =>
   rw [h1] at e
   obtain ⟨p,vs,rfl,hq,rs⟩:=bF sr hx h1
   obtain ⟨w',e2,r2⟩:=tw rs e
   exact Ar value slice pins s σ H _ _ v u Q I rx ry ⟨p,vs,i,w',rfl,rfl,hq,e2,b _ H _ S .refl sr r2 q⟩ hs
 cases ty with
 |int i =>
  cases tx with
  |tup ts =>
   cases hy
   cases hx with
   |tup n hp rs =>
    obtain ⟨w',e2,r2⟩:=tw rs (show atI ts i=some r from e)
    exact Cz value slice pins s σ H _ _ v u Q I rx ry ⟨_,_,i,w',rfl,rfl,SqT.of hp,e2,b _ H _ S .refl sr r2 q⟩ hs
  |str z =>
   cases hy
   cases hx
   delta ixT at e
   dsimp only at e
   split at e
   ·next hz =>
    simp only [Option.map_eq_some_iff] at e
    obtain ⟨c,e,rfl⟩:=e
    exact CA value slice pins s σ H _ _ v u Q I rx ry ⟨z,i,c,rfl,rfl,hz,e,b _ H _ S .refl sr .str q⟩ hs
   ·cases e
  |_=>exact lists i rfl e
 |_=>cases tx<;>cases e
theorem az {a c:Expr}{wa wc:WE}{pos:Pos}(hK:X.K=K) (ha:QE K X a wa) (hc:QE K X c wc) (hs:rh c):QE K X (.Subscript a c pos) (w2 gIx wa wc):=PE.of (EG (Hi hK) ha hc hs) λ_ _ _ h=>j4 h
abbrev WO:=StT->Sto->(Option Int->Sto->Prop)->Prop
def lO (K:Fg) (w:WO):TO:=λσ H Q=>∃ S σt Qt,SRp K H S/\Cov K H S σ σt/\w σt S Qt/\∀ b H' S',Fr H S H' S'->SRp K H' S'->Qt b S'->Q b H'
def QO (K:Fg) (X:Cx) (e:Option Expr) (w:WO):Prop:=PO X e (lO K w)
theorem PO.of {e:Option Expr}{t t':TO}(h:PO X e t) (i:∀ σ H Q,t' σ H Q->t σ H Q):PO X e t':=λpins s σ H Q I q=>h pins s σ H Q I (i σ H Q q)
def woN:WO:=λ_ S Q=>Q none S
def woS (wa:WE):WO:=λσ S Q=>wa σ S λx S1=>match x with
 |.int i=>Q (some i) S1
 |_=>False
theorem cY:QO K X none woN:=PO.of Ao λσ H Q zz86=>by obtain ⟨S,σt,Qt,s,c,q,hq⟩:=zz86;exact hq none H S .refl s q
theorem cj {e:Expr}{wa:WE}(h:QE K X e wa):QO K X (some e) (woS wa):=PO.of (Ap h) λσ H Q zz87=>by
 obtain ⟨S,σt,Qt,s,c,q,hq⟩:=zz87
 refine ⟨S,σt,_,s,c,q,λx H1 tx S1 f1 s1 r1 q1=>?_⟩
 cases r1<;>first|exact q1.elim|skip
 exact ⟨_,rfl,hq _ H1 S1 f1 s1 q1⟩
def dS (ts:List T) (lo hi:Option Int):List T:=(ts.drop (HT.sIx ts.length 0 lo)).take (HT.sIx ts.length ts.length hi - HT.sIx ts.length 0 lo)
theorem CS {H S ts vs lo hi}(r:Rps K H S ts vs):Rps K H S (dS ts lo hi) (gD vs lo hi):=by
 unfold dS gD
 rw [r.length]
 exact (r.drop _).take _
def gSl (tr:Bool) (x:T) (lo hi:Option Int) (S:Sto) (Q:T->Sto->Prop):Prop:=match x with
 |.str z=>z.length<=sizeLine/\Q (.str (Txt.slice z lo hi)) S
 |x=>∃ ts,aH S x=some ts/\newL tr (dS ts lo hi) S Q
def l3 (K:Fg) (g:T->Option Int->Option Int->Sto->(T->Sto->Prop)->Prop):V->Option Int->Option Int->Hp->VK->Prop:=λx lo hi H Q=>∃ S tx Qt,SRp K H S/\Rp K H S tx x/\g tx lo hi S Qt/\Bh K H S Qt Q
theorem Hj (tr:Bool) (hK:X.K=K):SlR X (l3 K (gSl tr)):=by
 subst hK
 rintro pins s σ H x v vl vu lo hi sl Q I rx hs pl pu ⟨S,tx,Qt,sr,hx,hg,b⟩
 have lists:(∃ ts,aH S tx=some ts/\newL tr (dS ts lo hi) S Qt)->vU X.K x lo hi H Q:=by
  rintro ⟨ts,e,n⟩
  obtain ⟨p,vs,rfl,hq,rs⟩:=bF sr hx e
  exact ⟨p,vs,rfl,hq,gc sr (CS rs) n b⟩
 cases tx with
 |str z=>cases hx;exact CK pins s σ H _ v vl vu lo hi sl Q I rx hs pl pu ⟨z,rfl,hg.1,b _ H _ S .refl sr .str hg.2⟩
 |_=>exact Au pins s σ H _ v vl vu lo hi sl Q I rx hs pl pu (lists hg)
def wSl (tr:Bool) (wa:WE) (wl wh:WO):WE:=λσ S Q=>wa σ S λx S1=>wl σ S1 λl S2=>wh σ S2 λh S3=>gSl tr x l h S3 Q
theorem cH (tr:Bool){e:Expr}{lo hi:Option Expr}{wa:WE}{wl wh:WO}{p2 pos:Pos}(hK:X.K=K) (he:QE K X e wa) (hl:QO K X lo wl) (hu:QO K X hi wh):QE K X (.Subscript e (.Slice lo hi none p2) pos) (wSl tr wa wl wh) :=
 PE.of (yV (Hj tr hK) he hl hu) λσ H Q zz88=>by
  obtain ⟨S,σt,Qt,s,c,q,hq⟩:=zz88
  refine ⟨S,σt,_,s,c,q,λx H1 tx S1 f1 s1 r1 q1=>?_⟩
  refine ⟨S1,σt,_,s1,c.fr f1,q1,λl H2 S2 f2 s2 q2=>?_⟩
  refine ⟨S2,σt,_,s2,c.fr (f1.trans f2),q2,λh H3 S3 f3 s3 q3=>?_⟩
  exact ⟨S3,tx,Qt,s3,(r1.fr f2).fr f3,q3,λv H' t S' f=>hq v H' t S' (((f1.trans f2).trans f3).trans f)⟩
end
structure Src where
 items:List T
 grd:Sto->Prop
abbrev WI:=StT->Sto->(Src->Sto->Prop)->Prop
structure Iter (K:Fg) (J:It) (src:Src) (H1:Hp) (S1:Sto):Prop where
 go:∀ H S i,Fr H1 S1 H S->SRp K H S->src.grd S->i<src.items.length->J.go i H
 yld:∀ H S i x H',Fr H1 S1 H S->SRp K H S->src.grd S->i<src.items.length->J.yld i H x H'->∃ t,src.items[i]?=some t/\Fr H S H' S/\SRp K H' S/\Rp K H' S t x
 stop:∀ H S,Fr H1 S1 H S->SRp K H S->src.grd S->J.stop src.items.length H
def lI (K:Fg) (w:WI):TI:=λσ H R=>∃ S σt Rt,SRp K H S/\Cov K H S σ σt/\w σt S Rt/\∀ J H1 src S1,Fr H S H1 S1->SRp K H1 S1->Iter K J src H1 S1->Rt src S1->R J H1
def QI (K:Fg) (X:Cx) (tg iter:Expr) (w:WI):Prop:=PI X tg iter (lI K w)
section
variable {K:Fg}{X:Cx}{tg:Expr}
theorem PI.of {e:Expr}{t t':TI}(h:PI X tg e t) (i:∀ σ H Q,t' σ H Q->t σ H Q):PI X tg e t':=λpins s σ H Q I q=>h pins s σ H Q I (i σ H Q q)
theorem jx {α:Type}{l:List α}{i:Nat}{t:α}(h:l[i]?=some t):l.drop i=t::l.drop (i+1):=by
 obtain ⟨hl,e⟩:=List.getElem?_eq_some_iff.mp h
 rw [<- e];exact List.drop_eq_getElem_cons hl
def cN (grd:Sto->Prop) (g:WG) (wb:WS) (D:EndsT):List T->StT->Sto->Prop
 |[],σ,S=>grd S/\D.nx σ S
 |t::ts,σ,S=>grd S/\g t σ S λσ2 S2=>wb { nx:=cN grd g wb D ts,rt:=D.rt,bk:=D.nx,ct:=cN grd g wb D ts } σ2 S2
def nM (wi:WI) (g:WG) (wb:WS):WS:=λD σ S=>wi σ S λsrc S1=>cN src.grd g wb D src.items σ S1
theorem AT {wi:WI}{g:WG}{wb:WS}{D σ H}(h:lS K (nM wi g wb) D σ H):vO (lI K wi) (lG K g) (lS K wb) D σ H:=by
 obtain ⟨S,σt,Dt,s,c,q,he⟩:=h
 refine ⟨S,σt,_,s,c,q,λJ H1 src S1 f1 s1 it q1=>?_⟩
 refine ⟨λi m σ H=>m=src.items.length - i/\i<=src.items.length/\∃ S σt,Fr H1 S1 H S/\SRp K H S/\Cov K H S σ σt/\cN src.grd g wb Dt (src.items.drop i) σt S,
  ⟨_,rfl,Nat.zero_le _,S1,σt,.refl,s1,c.fr f1,by simpa using q1⟩,?_⟩
 rintro i m σ H ⟨rfl,hi,S2,σt2,f2,s2,c2,q2⟩
 by_cases hl:i<src.items.length
 ·have e1:src.items[i]?=some src.items[i]:=by simp [hl]
  rw [jx e1] at q2
  obtain ⟨hg,q2⟩:=q2
  refine .inr ⟨it.go H S2 i f2 s2 hg hl,λσ' H'=>∃ S σt,Fr H1 S1 H' S/\SRp K H' S/\Cov K H' S σ' σt/\cN src.grd g wb Dt (src.items.drop (i+1)) σt S,λσ' H' n=>⟨src.items.length - (i+1),by omega,rfl,hl,n⟩,λx H' y=>?_⟩
  obtain ⟨t,et,f3,s3,r3⟩:=it.yld H S2 i x H' f2 s2 hg hl y
  rw [e1] at et;cases et
  refine ⟨S2,_,σt2,_,s3,r3,c2.fr f3,q2,λσ4 H4 σt4 S4 f4 s4 c4 q4=>?_⟩
  have fA:=(f2.trans f3).trans f4
  refine ⟨S4,σt4,_,s4,c4,q4,⟨λσ' H' σt' S' f s' c' q'=>⟨S',σt',fA.trans f,s',c',q'⟩,λv H' t S' f=>he.rt v H' t S' ((f1.trans fA).trans f),λσ' H' σt' S' f=>he.nx σ' H' σt' S' ((f1.trans fA).trans f),λσ' H' σt' S' f s' c' q'=>⟨S',σt',fA.trans f,s',c',q'⟩⟩⟩
 ·have e:i=src.items.length:=by omega
  subst e
  rw [List.drop_eq_nil_of_le (Nat.le_refl _)] at q2
  exact .inl ⟨it.stop H S2 f2 s2 q2.1,he.nx σ H σt2 S2 (f1.trans f2) s2 c2 q2.2⟩
theorem dJ {iter:Expr}{body:List Stmt}{wi:WI}{g:WG}{wb:WS}{pos:Pos}(hp:PassesOwn (model X.prog X.w) X.A X.env X.xe) (hc:X.calm=true) (hi:QI K X tg iter wi) (hg:QG K X tg g) (hb:QSs K X body wb)
  (hs:∀ x,foldedSetIterable iter X.env x=pure x:=by intro _;rfl):QS K X (.For tg iter body [] pos) (nM wi g wb):=PS.of (Cj hp hc hi hg hb hs) λ_ _ _ h=>AT h
def eE (t:T) (ts:List T) (S:Sto):Prop:=match t with
 |.ref a=>S a=some (.lst ts)
 |_=>True
def wiL (wa:WE):WI:=λσ S R=>wa σ S λx S1=>∃ ts,aH S1 x=some ts/\R ⟨ts,eE x ts⟩ S1
theorem yj {S S':Sto}{x:T}{ts:List T}(e:aH S x=some ts) (h:eE x ts S'):aH S' x=some ts:=by
 cases x with
 |ref a=>exact eD h
 |lst us=>exact e
 |scr us=>exact e
 |_=>cases e
theorem yk {H1:Hp}{S1:Sto}{x:T}{a:Addr}{ts:List T}(r:Rp K H1 S1 x (.ref a)) (e:aH S1 x=some ts):Iter K (Itl K a) ⟨ts,eE x ts⟩ H1 S1:=by
 have main:∀ H S,Fr H1 S1 H S->SRp K H S->eE x ts S->∃ vs,SqL K H a vs/\Rps K H S ts vs:=λH S f s g=>by
  obtain ⟨p,vs,ep,hq,rs⟩:=bF s (r.fr f) (yj e g)
  cases ep
  exact ⟨vs,hq,rs⟩
 refine ⟨λH S i f s g hl=>?_,λH S i y H' f s g hl hy=>?_,λH S f s g=>?_⟩
 ·obtain ⟨vs,hq,rs⟩:=main H S f s g
  obtain ⟨v,hv,_⟩:=rs.get (i:=i) (t:=ts[i]) (by simp [show i<ts.length from hl])
  exact ⟨vs,v,hq,hv⟩
 ·obtain ⟨vs,hq,rs⟩:=main H S f s g
  obtain ⟨rfl,hy⟩:=hy
  obtain ⟨t,et,rt⟩:=rs.getV (hy vs hq)
  exact ⟨t,et,.refl,s,rt⟩
 ·obtain ⟨vs,hq,rs⟩:=main H S f s g
  exact ⟨vs,hq,by rw [rs.length];exact Nat.le_refl _⟩
theorem bV {l:Expr}{wa:WE}(hK:X.K=K) (hl:QE K X l wa):QI K X tg l (wiL wa):=by
 subst hK
 refine PI.of (Af hl) λσ H R zz89=>?_
 obtain ⟨S,σt,Rt,s,c,q,hq⟩:=zz89
 refine ⟨S,σt,_,s,c,q,λv H1 t S1 f1 s1 r1 q1=>?_⟩
 obtain ⟨ts,e,q1⟩:=q1
 obtain ⟨p,vs,rfl,hS,rs⟩:=bF s1 r1 e
 exact ⟨p,rfl,⟨vs,hS⟩,hq _ H1 _ S1 f1 s1 (yk r1 e) q1⟩
def bH (lo:Int) (n:Nat):List T:=(List.range n).map λ(i:Nat)=>T.int (lo+i)
theorem xB {lo:Int}{n:Nat}{H1 S1}:Iter K (Itr lo n) ⟨bH lo n,λ_=>True⟩ H1 S1:=by
 refine ⟨λH S i f s g hl=>by simpa [bH,Itr] using hl,λH S i y H' f s g hl hy=>?_,λH S f s g=>by simp [bH,Itr]⟩
 obtain ⟨rfl,rfl⟩:=hy
 have hl':i<n:=by simpa [bH] using hl
 exact ⟨.int (lo+i),by simp [bH,hl'],.refl,s,.int⟩
def wp (wa:WE):WI:=λσ S R=>wa σ S λx S1=>match x with
 |.int j=>-(2 ^ 62)<=j/\j<2 ^ 62/\R ⟨bH 0 j.toNat,λ_=>True⟩ S1
 |_=>False
theorem gN {a:Expr}{wa:WE}{p pos:Pos}(hg:Gl X "range") (hm:X.mg "range"=none) (ha:QE K X a wa) (hs:starEach [a] X.env=[(false,eval a X.env)]:=by rfl) (hs':starEach [a] X.env=(false,eval a X.env)::starEach [] X.env:=by rfl) :
  QI K X tg (.Call (.Name "range" p) [a] [] pos) (wp wa) :=
 PI.of (xM hg hm (qZ ha sR hs') hs) λσ H R zz90=>by
  obtain ⟨S,σt,Rt,s,c,q,hq⟩:=zz90
  refine ⟨S,σt,_,s,c,q,λx H1 tx S1 f1 s1 r1 q1=>?_⟩
  cases r1<;>first|exact q1.elim|skip
  exact ⟨_,rfl,q1.1,q1.2.1,hq _ H1 _ S1 f1 s1 xB q1.2.2⟩
def h8 (z:Str):List T:=z.cps.toList.map λc=>T.str ⟨#[c]⟩
def wiS (wa:WE):WI:=λσ S R=>wa σ S λx S1=>match x with
 |.str z=>R ⟨h8 z,λ_=>True⟩ S1
 |_=>False
theorem CT {l:Expr}{wa:WE}(hl:QE K X l wa):QI K X tg l (wiS wa):=PI.of (CJ hl) λσ H R zz91=>by
 obtain ⟨S,σt,Rt,s,c,q,hq⟩:=zz91
 refine ⟨S,σt,_,s,c,q,λx H1 tx S1 f1 s1 r1 q1=>?_⟩
 cases r1<;>first|exact q1.elim|skip
 refine ⟨_,rfl,hq _ H1 _ S1 f1 s1 ⟨λH S i f s g hl=>by simpa [h8,Its] using hl,λH S i y H' f s g hl hy=>?_,λH S f s g=>by simp [h8,Its]⟩ q1⟩
 obtain ⟨rfl,c,ec,rfl⟩:=hy
 exact ⟨.str ⟨#[c]⟩,by simp [h8,ec],.refl,s,.str⟩
def whT (t:WT) (wb:WS) (D:EndsT):Nat->StT->Sto->Prop
 |0,_,_=>False
 |n+1,σ,S=>t σ S λb S1=>if b=true then wb { nx:=whT t wb D n,rt:=D.rt,bk:=D.nx,ct:=whT t wb D n } σ S1 else D.nx σ S1
def mG (t:WT) (wb:WS):WS:=λD σ S=>∃ n,whT t wb D n σ S
theorem yl {t:WT}{wb:WS}{D σ H}(h:lS K (mG t wb) D σ H):sO (lT K t) (lS K wb) D σ H:=by
 obtain ⟨S0,σt0,Dt,s0,c0,⟨n0,q0⟩,he⟩:=h
 refine ⟨λm σ H=>∃ S σt,Fr _ S0 H S/\SRp K H S/\Cov K H S σ σt/\whT t wb Dt m σt S,⟨n0,S0,σt0,.refl,s0,c0,q0⟩,?_⟩
 rintro m σ H ⟨S,σt,f,s,c,q⟩
 cases m with
 |zero=>exact q.elim
 |succ m =>
  refine ⟨S,σt,_,s,c,q,λb H1 S1 f1 s1 q1=>?_⟩
  cases b with
  |true =>
   refine ⟨λσ' H'=>∃ S σt,Fr _ S0 H' S/\SRp K H' S/\Cov K H' S σ' σt/\whT t wb Dt m σt S,λσ' H' n=>⟨m,by omega,n⟩,?_⟩
   have fA:=f.trans f1
   exact ⟨S1,σt,_,s1,c.fr f1,q1,⟨λσ' H' σt' S' g s' c' q'=>⟨S',σt',fA.trans g,s',c',q'⟩,λv H' t S' g=>he.rt v H' t S' (fA.trans g),λσ' H' σt' S' g=>he.nx σ' H' σt' S' (fA.trans g),λσ' H' σt' S' g s' c' q'=>⟨S',σt',fA.trans g,s',c',q'⟩⟩⟩
  |false=>exact he.nx σ H1 σt S1 (f.trans f1) s1 (c.fr f1) q1
theorem rB {c:Expr}{body:List Stmt}{t:WT}{wb:WS}{pos:Pos}(hp:PassesOwn (model X.prog X.w) X.A X.env X.xe) (hc:QT K X c t) (hb:QSs K X body wb):QS K X (.While c body [] pos) (mG t wb):=PS.of (yM hp hc hb) λ_ _ _ h=>yl h
def QTs (K:Fg) (X:Cx) (ifs:List Expr) (w:WT):Prop:=PTs X ifs (lT K w)
def uY:WT:=λ_ S Q=>Q true S
theorem cZ:QTs K X [] uY:=λpins s σ H Q I zz92=>by obtain ⟨S,σt,Qt,sr,c,q,hq⟩:=zz92;exact AC pins s σ H Q I (hq true H S .refl sr q)
theorem g8 {c:Expr}{w:WT}(h:QT K X c w):QTs K X [c] w:=AD h
def fS (n:Nat) (caps:List Nat) (σ:StT):StT:=List.replicate n none++caps.map λi=>(σ[i]?).join
def dg (grd:Sto->Prop) (g:WG) (tt:WT) (te:WE) (Q:List T->Sto->Prop):List T->List T->StT->Sto->Prop
 |[],acc,_,S=>grd S/\Q acc S
 |x::xs,acc,σ,S=>grd S/\g x σ S λσ2 S2=>tt σ2 S2 λb S3=>if b=true then te σ2 S3 λy S4=>acc.length<sizeLine/\dg grd g tt te Q xs (acc++[y]) σ2 S4 else dg grd g tt te Q xs acc σ2 S3
def j8 (tr:Bool) (wi:WI) (n:Nat) (caps:List Nat) (g:WG) (tt:WT) (te:WE):WE:=λσ S Q=>wi σ S λsrc S1=>dg src.grd g tt te (λts S2=>newL tr ts S2 Q) src.items [] (fS n caps σ) S1
theorem zb {H S σ σt n caps}(c:Cov K H S σ σt):Cov K H S (fX n caps σ) (fS n caps σt):=by
 refine ⟨by simp [fX,fS],λi t e=>?_⟩
 unfold fS at e
 unfold fX
 by_cases hi:i<n
 ·rw [List.getElem?_append_left (by simpa using hi),List.getElem?_replicate] at e
  rw [if_pos hi] at e;cases e
 ·rw [List.getElem?_append_right (by simpa using hi)] at e ⊢
  simp only [List.length_replicate,List.getElem?_map] at e ⊢
  cases q:caps[i - n]? with
  |none=>rw [q] at e;cases e
  |some j =>
   rw [q] at e
   simp only [Option.map_some,Option.some.injEq] at e ⊢
   cases z:σt[j]? with
   |none=>rw [z] at e;cases e
   |some o =>
    rw [z] at e
    simp only [Option.join_some] at e
    subst e
    obtain ⟨v,hv,rv⟩:=c.2 j t z
    exact ⟨v,by rw [hv];rfl,rv⟩
mutual
theorem Rp.chg {H S D φ o}(e:H D=some (.ext φ)):∀ {t v},Rp K H S t v->Rp K (upd H D o) S t v
 |_,_,.non=>.non
 |_,_,.bl=>.bl
 |_,_,.int=>.int
 |_,_,.str=>.str
 |_,_,.ty=>.ty
 |_,_,.ref=>.ref
 |_,_,.tup n h r=>.tup n (by rw [aB (cJ h e (by intro z;cases z))];exact h) (Rps.chg e r)
 |_,_,.lst n h r=>.lst n (by rw [aB (cJ h e (by intro z;cases z))];exact h) (Rps.chg e r)
 |_,_,.scr h=>.scr (by
   rcases h with ⟨n,o',h⟩|h
   ·exact .inl ⟨n,o',by rw [aB (cJ h e (by intro z;cases z))];exact h⟩
   ·exact .inr h)
theorem Rps.chg {H S D φ o}(e:H D=some (.ext φ)):∀ {ts vs},Rps K H S ts vs->Rps K (upd H D o) S ts vs
 |_,_,.nil=>.nil
 |_,_,.cons a b=>.cons (Rp.chg e a) (Rps.chg e b)
end
theorem SRp.chg {H S D φ o}(e:H D=some (.ext φ)) (n:S D=none) (s:SRp K H S):SRp K (upd H D o) S:=λa o' h=>by
 have ha:a≠D:=λz=>by rw [z,n] at h;cases h
 cases s a o' h with
 |lst h' r=>exact .lst (by rw [aB ha];exact h') (Rps.chg e r)
 |dK h' r=>exact .dK (by rw [aB ha];exact h') (Paired.mapP r λ_ _ z=>⟨z.1,Rp.chg e z.2⟩)
 |dT h' r=>exact .dT (by rw [aB ha];exact h') (Paired.mapP r λ_ _ z=>⟨z.1,Rp.chg e z.2⟩)
 |fK h' r=>exact .fK (by rw [aB ha];exact h') (Paired.mapP r λ_ _ z=>⟨z.1,Rp.chg e z.2⟩)
 |ins h' r=>exact .ins (by rw [aB ha];exact h') (Paired.mapP r λ_ _ z=>⟨z.1,Rp.chg e z.2⟩)
 |exk h'=>exact .exk (by rw [aB ha];exact h')
theorem Cov.chg {H S D φ o σ σt}(e:H D=some (.ext φ)) (c:Cov K H S σ σt):Cov K (upd H D o) S σ σt:=⟨c.1,λi t h=>by
 obtain ⟨v,h1,r⟩:=c.2 i t h
 exact ⟨v,h1,Rp.chg e r⟩⟩
theorem Fr.at {H S H1 S1 D o}(f:Fr H1 S1 H S) (hD:H1 D=none):Fr H1 S1 (upd H D o) S:=λa u h n=>by
 rw [aB (bj h hD)];exact f a u h n
mutual
theorem Rp.trk {H S D φ o p}(e:H D=some (.ext φ)):∀ {t v},Rp K H S t v->Rp K (upd H D o) (put S D p) t v
 |_,_,.non=>.non
 |_,_,.bl=>.bl
 |_,_,.int=>.int
 |_,_,.str=>.str
 |_,_,.ty=>.ty
 |_,_,.ref=>.ref
 |_,_,.tup n h r=>.tup (by rw [ak (cJ h e (by intro z;cases z))];exact n) (by rw [aB (cJ h e (by intro z;cases z))];exact h) (Rps.trk e r)
 |_,_,.lst n h r=>.lst (by rw [ak (cJ h e (by intro z;cases z))];exact n) (by rw [aB (cJ h e (by intro z;cases z))];exact h) (Rps.trk e r)
 |_,_,.scr h=>.scr (by
   rcases h with ⟨n,o',h⟩|h
   ·exact .inl ⟨by rw [ak (cJ h e (by intro z;cases z))];exact n,o',by rw [aB (cJ h e (by intro z;cases z))];exact h⟩
   ·exact .inr h)
theorem Rps.trk {H S D φ o p}(e:H D=some (.ext φ)):∀ {ts vs},Rps K H S ts vs->Rps K (upd H D o) (put S D p) ts vs
 |_,_,.nil=>.nil
 |_,_,.cons a b=>.cons (Rp.trk e a) (Rps.trk e b)
end
theorem SRp.trk {H S D φ zs acc}(e:H D=some (.ext φ)) (s:SRp K H S) (r:Rps K H S acc zs):SRp K (upd H D (.lst zs)) (put S D (.lst acc)):=λa o' h=>by
 by_cases ha:a=D
 ·subst ha;rw [au] at h;cases h;exact .lst aI (Rps.trk e r)
 ·rw [ak ha] at h
  cases s a o' h with
  |lst h' r=>exact .lst (by rw [aB ha];exact h') (Rps.trk e r)
  |dK h' r=>exact .dK (by rw [aB ha];exact h') (Paired.mapP r λ_ _ z=>⟨z.1,Rp.trk e z.2⟩)
  |dT h' r=>exact .dT (by rw [aB ha];exact h') (Paired.mapP r λ_ _ z=>⟨z.1,Rp.trk e z.2⟩)
  |fK h' r=>exact .fK (by rw [aB ha];exact h') (Paired.mapP r λ_ _ z=>⟨z.1,Rp.trk e z.2⟩)
  |ins h' r=>exact .ins (by rw [aB ha];exact h') (Paired.mapP r λ_ _ z=>⟨z.1,Rp.trk e z.2⟩)
  |exk h'=>exact .exk (by rw [aB ha];exact h')
theorem qv {tr:Bool}{wi:WI}{n:Nat}{caps:List Nat}{g:WG}{tt:WT}{te:WE}{σ H Q}(h:lE K (j8 tr wi n caps g tt te) σ H Q):mC (lI K wi) n caps (lG K g) (lT K tt) (lE K te) σ H Q:=by
 obtain ⟨S,σt,Qt,s,c,q,hq⟩:=h
 refine ⟨S,σt,_,s,c,q,λJ H1 src S1 f1 s1 it q1=>?_⟩
 intro D hD
 refine ⟨λi m zs σc H=>m=src.items.length - i/\i<=src.items.length/\H D=some (bc D zs)/\∃ S σt acc,S D=none/\Fr H1 S1 H S/\Rps K H S acc zs/\SRp K H S/\Cov K H S σc σt/\dg src.grd g tt te (λts S2=>newL tr ts S2 Qt) (src.items.drop i) acc σt S,
  ⟨_,rfl,Nat.zero_le _,aI,S1,fS n caps σt,[],s1.fresh hD,Fr.new hD,.nil,s1.new hD,zb ((c.fr f1).fr (Fr.new hD)),by simpa using q1⟩,?_⟩
 rintro i m zs σc H ⟨rfl,hi,e2,S2,σt2,acc,n2,f2,r2,s2,c2,q2⟩
 refine ⟨e2,?_⟩
 by_cases hl:i<src.items.length
 ·have e1:src.items[i]?=some src.items[i]:=by simp [hl]
  rw [jx e1] at q2
  obtain ⟨hg,q2⟩:=q2
  refine .inr ⟨it.go H S2 i f2 s2 hg hl,λzs' σ' H'=>H' D=some (bc D zs')/\∃ S σt acc,S D=none/\Fr H1 S1 H' S/\Rps K H' S acc zs'/\SRp K H' S/\Cov K H' S σ' σt/\dg src.grd g tt te (λts S2=>newL tr ts S2 Qt) (src.items.drop (i+1)) acc σt S,
   λzs' σ' H' n=>⟨src.items.length - (i+1),by omega,rfl,hl,n⟩,λx H' y=>?_⟩
  obtain ⟨t,et,f3,s3,r3⟩:=it.yld H S2 i x H' f2 s2 hg hl y
  rw [e1] at et;cases et
  have e3:=f3 D _ e2 n2
  refine ⟨S2,_,σt2,_,s3,r3,c2.fr f3,q2,λσ4 H4 σt4 S4 f4 s4 c4 q4=>?_⟩
  have e4:=f4 D _ e3.1 e3.2
  refine ⟨S4,σt4,_,s4,c4,q4,λb H5 S5 f5 s5 q5=>?_⟩
  have e5:=f5 D _ e4.1 e4.2
  have fB:=((f3.trans f4).trans f5)
  cases b with
  |false=>exact ⟨e5.1,S5,σt4,acc,e5.2,f2.trans fB,r2.fr fB,s5,c4.fr f5,q5⟩
  |true =>
   refine ⟨S5,σt4,_,s5,c4.fr f5,q5,λy H6 ty S6 f6 s6 r6 q6=>?_⟩
   have e6:=f6 D _ e5.1 e5.2
   have fC:=fB.trans f6
   exact ⟨e6.1,by rw [r2.length];exact q6.1,aI,S6,σt4,acc++[ty],e6.2,Fr.at (f2.trans fC) hD,Rps.chg e6.1 ((r2.fr fC).append (.cons r6 .nil)),s6.chg e6.1 e6.2,((c4.fr f5).fr f6).chg e6.1,q6.2⟩
 ·have e:i=src.items.length:=by omega
  subst e
  rw [List.drop_eq_nil_of_le (Nat.le_refl _)] at q2
  refine .inl ⟨it.stop H S2 f2 s2 q2.1,?_⟩
  have fE:Fr H1 S1 (upd H D (.lst zs)) S2:=Fr.at f2 hD
  cases tr with
  |false=>exact hq _ _ (.lst acc) S2 (f1.trans fE) (s2.chg e2 n2) (.lst n2 aI (Rps.chg e2 r2)) q2.2
  |true =>
   have fr1:Fr H1 S1 (upd H D (.lst zs)) (put S2 D (.lst acc)):=λa o h nn=>by
    have ha:a≠D:=bj h hD
    rw [ak ha];exact fE a o h nn
   exact hq _ _ (.ref D) _ (f1.trans fr1) (SRp.trk e2 s2 r2) .ref (q2.2 D n2)
theorem c8 (tr:Bool){elt iter target:Expr}{ifs:List Expr}{scope:Scope}{pos:Pos}{wi:WI}{g:WG}{tt:WT}{te:WE}(Nc:List Str) (n:Nat) (caps:List Nat) (hcalm:X.calm=true) (hi:QI K X target iter wi) (hg:∀ C s₀ H₀ ex,QG K (X.comp scope Nc C s₀ H₀ ex) target g)
  (ht:∀ C s₀ H₀ ex,QTs K (X.comp scope Nc C s₀ H₀ ex) ifs tt) (he:∀ C s₀ H₀ ex,QE K (X.comp scope Nc C s₀ H₀ ex) elt te) (hsc:fW X.env.scope scope=true:=by rfl) (hcp:eJ X.N Nc scope n caps=true:=by rfl) (hs:∀ x,foldedSetIterable iter X.env x=pure x:=by intro _;rfl) :
  QE K X (.ListComp elt [⟨target,iter,ifs,0⟩] scope pos) (j8 tr wi n caps g tt te):=PE.of (y0 Nc n caps hcalm hi hg ht he hsc hcp hs) λ_ _ _ h=>qv h
theorem gO (tr:Bool){elt iter target:Expr}{ifs:List Expr}{scope:Scope}{pos:Pos}{wi:WI}{g:WG}{tt:WT}{te:WE}{i:Nat}{x:Str}{px spos:Pos}(Nc:List Str) (n:Nat) (caps:List Nat) (hcalm:X.calm=true) (hN:X.N.Nodup) (hix:X.N[i]?=some x) (hx:Loc X.env.scope x)
  (hi:QI K X target iter wi) (hg:∀ C s₀ H₀ ex,QG K (X.comp scope Nc C s₀ H₀ ex) target g)
  (ht:∀ C s₀ H₀ ex,QTs K (X.comp scope Nc C s₀ H₀ ex) ifs tt) (he:∀ C s₀ H₀ ex,QE K (X.comp scope Nc C s₀ H₀ ex) elt te)
  (hsw:swapsWith (.ListComp elt [⟨target,iter,ifs,0⟩] scope pos) (some (.Name x px)) spos.line X.env=pure true:=by rfl) (hsc:fW X.env.scope scope=true:=by rfl) (hcp:eJ X.N Nc scope n caps=true:=by rfl) (hs:∀ x,foldedSetIterable iter X.env x=pure x:=by intro _;rfl)
  (hf:X.fn x=true\/X.env.scope.names.lookup x=some .local:=by first|exact .inl rfl|exact .inr rfl|assumption) :
  QS K X (.Assign [.Name x px] (.ListComp elt [⟨target,iter,ifs,0⟩] scope pos) spos) (iN (j8 tr wi n caps g tt te) (wgN i)):=PS.of (y1 Nc n caps hcalm hN hix hx hi hg ht he hsw hsc hcp hs hf) λD σ H h=>by
 obtain ⟨S,σt,Dt,s,c,q,he⟩:=h
 exact qv ⟨S,σt,_,s,c,q,λv H1 t S1 f1 s1 r1 q1=>he.nx _ H1 _ S1 f1 s1 ((c.fr f1).set r1 i) q1⟩
end
end T2
namespace L2
open PySem PySem.Spec PyProof.Rows
section
variable {X:Cx}
def AU:V->List V->Hp->VK->Prop:=λx vs H Q=>∃ a b,x=.str a/\vs=[.str b]/\Q (.bl (Txt.startswith a b)) H
theorem w5:MtR X "str.startswith" AU:=by
 intro pins s σ H x vs v us Q I rx rv h
 obtain ⟨a,b,rfl,rfl,q⟩:=h
 obtain ⟨t,rfl⟩:=rx
 obtain ⟨u,rfl,t2,rfl⟩:=bg rv
 exact SC.startswith ⟨.bl _,H,I,rfl,q⟩
def AV:V->List V->Hp->VK->Prop:=λx vs H Q=>∃ l xs i y,x=.ref l/\vs=[.int i,y]/\H l=some (.lst xs)/\xs.length<sizeLine/\0<=i/\i<2 ^ 62/\Q .non (upd H l (.lst (xs.take i.toNat++y::xs.drop i.toNat)))
theorem xC (its:List Value) (u:Value) (k:Nat) (hk:k<=its.length):(its.toArray.extract 0 k).push u++its.toArray.extract k=(its.take k++u::its.drop k).toArray:=by
 apply Array.ext'
 simp [List.take_of_length_le]
theorem ym:MtM X "list.insert" AV:=by
 intro pins s σ H x vs v us Q I rx rv h
 obtain ⟨l,xs,i,y,rfl,rfl,hH,hz,h0,h1,q⟩:=h
 cases rx
 obtain ⟨u1,u2,rfl,⟨t,rfl⟩,ru⟩:=eI rv
 obtain ⟨z,its,n,r,hl,e⟩:=I.lstM hH
 have hf:Builtin.List.listFitsIndex i=true:=by
  unfold Builtin.List.listFitsIndex
  simp only [Bool.and_eq_true,decide_eq_true_eq]
  omega
 refine call_meets F.slot_list_insert ⟨_,e,rfl⟩ F.entry_list_insert (F.args_list_insert_3 _ _ _) (PySem.AutoSeq1.list_insert_list_int_val_1 l its.toArray n i t u2 (by simp [hf]) (by rw [List.size_toArray];omega)) ⟨e,?_⟩
 have hm:(its.take i.toNat++u2::its.drop i.toNat)=(its.take (min i.toNat its.length)++u2::its.drop (min i.toNat its.length)):=by
  by_cases hi:i.toNat<=its.length
  ·rw [Nat.min_eq_left hi]
  ·rw [Nat.min_eq_right (by omega),List.take_of_length_le (by omega),List.take_of_length_le (Nat.le_refl _),List.drop_eq_nil_of_le (by omega),List.drop_eq_nil_of_le (Nat.le_refl _)]
 refine ⟨.non,_,I.lset (its':=its.take i.toNat++u2::its.drop i.toNat) hH e ?_ ((r.take _).append (.cons ru (r.drop _))) ?_,rfl,q⟩
 ·show (its.toArray.extract 0 (if i<0 then _ else min i.toNat its.toArray.size)).push u2++its.toArray.extract (if i<0 then _ else min i.toNat its.toArray.size)=_
  rw [if_neg (by omega),hm,List.size_toArray]
  exact xC its u2 _ (Nat.min_le_right _ _)
 ·simp only [List.length_append,List.length_take,List.length_cons,List.length_drop]
  omega
end
end L2
namespace T2
open PySem PySem.Spec PyProof.Rows L2
section
variable {K:Fg}{X:Cx}
def bP:T->Bool
 |.non=>true
 |.bl _=>true
 |.int _=>true
 |.str _=>true
 |_=>false
def eqF:T->T->Bool
 |.non,.non=>true
 |.bl a,.bl b=>a==b
 |.bl a,.int b=>(if a then 1 else 0)==b
 |.int a,.bl b=>a==(if b then 1 else 0)
 |.int a,.int b=>a==b
 |.str a,.str b=>a==b
 |_,_=>false
theorem EY {a b:Str}:eqF (.str a) (.str b)=(a==b):=rfl
theorem h9 {H S t v}(r:Rp K H S t v) (f:bP t=true):cK v=true:=by cases r<;>first|rfl|cases f
theorem EZ {H S t v t' v'}(r:Rp K H S t v) (r':Rp K H S t' v') (f:bP t=true) (f':bP t'=true):eqV v v'=eqF t t':=by
 cases r<;>first|(cases f;done)|(cases r'<;>first|(cases f';done)|rfl)
theorem iO {H S t v}(r:Rp K H S t v) (f:bP t=true):∀ {ts vs},Rps K H S ts vs->ts.all bP=true->vs.all cK=true/\inV v vs=ts.any λy=>eqF y t
 |_,_,.nil,_=>⟨rfl,rfl⟩
 |_,_,.cons a b,h=>by
  rw [List.all_cons,Bool.and_eq_true] at h
  obtain ⟨h1,h2⟩:=iO r f b h.2
  refine ⟨by rw [List.all_cons,h9 a h.1,h1];rfl,?_⟩
  unfold inV at h2 ⊢
  rw [List.any_cons,List.any_cons,h2,EZ a r h.1 f]
def bX:T->Option Key
 |.int i=>some (.inl i)
 |.str x=>some (.inr x)
 |_=>none
def gIn (neg:Bool):G2:=λx y S Q=>(∃ i j,x=.str i/\y=.str j/\Q (.bl (neg ^^ !(Builtin.Str.occurrences j i 0 j.length 1).isEmpty)) S) \/
 (∃ ts,y=.tup ts/\bP x=true/\ts.all bP=true/\Q (.bl (neg ^^ ts.any λy=>eqF y x)) S) \/
 ∃ ts,aH S y=some ts/\bP x=true/\ts.all bP=true/\Q (.bl (neg ^^ ts.any λy=>eqF y x)) S
theorem Hk (hK:X.K=K):OpR X (compareOp .In) (l2 K (gIn false)):=by
 subst hK
 rintro pins s σ H x y v u Q I rx ry ⟨S,tx,ty,Qt,sr,hx,hy,hg,b⟩
 rcases hg with ⟨i,j,rfl,rfl,q⟩|⟨ts,rfl,fx,ft,q⟩|⟨ts,e,fx,ft,q⟩
 ·obtain rfl:=hx.istr
  obtain rfl:=hy.istr
  exact xP pins s σ H _ _ v u Q I rx ry ⟨i,j,rfl,rfl,b _ H _ S .refl sr .bl (by simpa using q)⟩
 ·obtain ⟨p,vs,rfl,hp,rs⟩:=hy.itup
  obtain ⟨h1,h2⟩:=iO hx fx rs ft
  refine pK pins s σ H _ _ v u Q I rx ry ⟨_,_,rfl,.inr (SqT.of hp),h9 hx fx,h1,?_⟩
  rw [h2]
  exact b _ H _ S .refl sr .bl (by simpa using q)
 ·obtain ⟨p,vs,rfl,hq,rs⟩:=bF sr hy e
  obtain ⟨h1,h2⟩:=iO hx fx rs ft
  refine pK pins s σ H _ _ v u Q I rx ry ⟨p,vs,rfl,.inl hq,h9 hx fx,h1,?_⟩
  rw [h2]
  exact b _ H _ S .refl sr .bl (by simpa using q)
theorem rD (hK:X.K=K):OpR X (compareOp .NotIn) (l2 K (gIn true)):=by
 subst hK
 rintro pins s σ H x y v u Q I rx ry ⟨S,tx,ty,Qt,sr,hx,hy,hg,b⟩
 rcases hg with ⟨i,j,rfl,rfl,q⟩|⟨ts,rfl,fx,ft,q⟩|⟨ts,e,fx,ft,q⟩
 ·obtain rfl:=hx.istr
  obtain rfl:=hy.istr
  exact xa pins s σ H _ _ v u Q I rx ry ⟨i,j,rfl,rfl,b _ H _ S .refl sr .bl (by simpa using q)⟩
 ·obtain ⟨p,vs,rfl,hp,rs⟩:=hy.itup
  obtain ⟨h1,h2⟩:=iO hx fx rs ft
  refine oF pins s σ H _ _ v u Q I rx ry ⟨_,_,rfl,.inr (SqT.of hp),h9 hx fx,h1,?_⟩
  rw [h2]
  exact b _ H _ S .refl sr .bl (by simpa using q)
 ·obtain ⟨p,vs,rfl,hq,rs⟩:=bF sr hy e
  obtain ⟨h1,h2⟩:=iO hx fx rs ft
  refine oF pins s σ H _ _ v u Q I rx ry ⟨p,vs,rfl,.inl hq,h9 hx fx,h1,?_⟩
  rw [h2]
  exact b _ H _ S .refl sr .bl (by simpa using q)
abbrev GC:=List T->Sto->(T->Sto->Prop)->Prop
def lC (K:Fg) (g:GC):List V->Hp->VK->Prop:=λxs H Q=>∃ S ts Qt,SRp K H S/\Rps K H S ts xs/\g ts S Qt/\Bh K H S Qt Q
def wCB (g:GC) (wr:WA):WE:=λσ S Q=>wr σ S λts S1=>g ts S1 Q
theorem CU {g:GC}{wr:WA}{σ H Q}(h:lE K (wCB g wr) σ H Q):tCB (lC K g) (lA K wr) σ H Q:=by
 obtain ⟨S,σt,Qt,s,c,q,hq⟩:=h
 refine ⟨S,σt,_,s,c,q,λvs H1 ts S1 f1 s1 r1 q1=>?_⟩
 exact ⟨S1,ts,Qt,s1,r1,q1,λv H' t S' f=>hq v H' t S' (f1.trans f)⟩
theorem wq {g:GC}{wr:WA}{e:Expr}(hp:PE X e (tCB (lC K g) (lA K wr))):QE K X e (wCB g wr):=PE.of hp λ_ _ _ h=>CU h
def kG (S:Sto):T->Option Int
 |.str z=>if z.length<=sizeLine then some z.length else none
 |.tup ts=>some ts.length
 |t=>(aH S t).map λts=>ts.length
def kH:GC:=λts S Q=>match ts with
 |[x]=>∃ n,kG S x=some n/\Q (.int n) S
 |_=>False
theorem a9 (hK:X.K=K):aX X (.builtin "len") (lC K kH):=by
 subst hK
 rintro pins s σ H xs us Q I r ⟨S,ts,Qt,sr,rs,hg,b⟩
 cases rs with
 |nil=>exact hg.elim
 |cons a l =>
  cases l with
  |cons _ _=>exact hg.elim
  |nil =>
   obtain ⟨n,e,q⟩:=hg
   rename_i t v
   have lists:(aH S t).map (λts=>(ts.length:Int))=some n->wpAny (model X.prog X.w) X.A (call (.builtin "len") us) (EP X pins σ Q) X.xe s:=by
    intro e3
    rw [Option.map_eq_some_iff] at e3
    obtain ⟨ts,e3,rfl⟩:=e3
    obtain ⟨p,vs,rfl,hq,rs⟩:=bF sr a e3
    exact oG pins s σ H _ us Q I r ⟨p,vs,rfl,.inl hq,by rw [rs.length];exact b _ H _ S .refl sr .int q⟩
   cases t with
   |str z =>
    cases a
    delta kG at e
    dsimp only at e
    split at e
    ·next hz=>cases e;exact xc pins s σ H _ us Q I r ⟨z,rfl,hz,b _ H _ S .refl sr .int q⟩
    ·cases e
   |tup ts =>
    cases a with
    |tup n' hp rs=>cases e;exact oG pins s σ H _ us Q I r ⟨_,_,rfl,.inr (SqT.of hp),by rw [rs.length];exact b _ H _ S .refl sr .int q⟩
   |_=>exact lists e
def tyT (S:Sto):T->Option Value
 |.non=>some (.type "NoneType")
 |.bl _=>some (.type "bool")
 |.int _=>some (.type "int")
 |.str _=>some (.type "str")
 |.tup _=>some (.type "tuple")
 |.lst _=>some (.type "list")
 |.ref a=>match S a with
  |some (.lst _)=>some (.type "list")
  |some (.dK _)=>some (.type "dict")
  |some (.dT _)=>some (.type "dict")
  |_=>none
 |_=>none
def wt (K:Fg):GC:=λts S Q=>match ts with
 |[x,.ty n]=>∃ t b,tyT S x=some t/\PySem.W.kitOne K t (.type n)=some b/\Q (.bl b) S
 |_=>False
theorem CV {H S t v ty}(s:SRp K H S) (r:Rp K H S t v) (e:tyT S t=some ty):TyOf K H v ty:=by
 cases r with
 |non=>cases e;exact .non
 |bl=>cases e;exact .bl _
 |int=>cases e;exact .int _
 |str=>cases e;exact .str _
 |tup n h _=>cases e;exact .tup h
 |lst n h _=>cases e;exact .lst h
 |ty=>cases e
 |scr _=>cases e
 |ref =>
  rename_i a
  delta tyT at e
  dsimp only at e
  cases q:S a with
  |none=>rw [q] at e;cases e
  |some o =>
   rw [q] at e
   cases o with
   |lst us=>cases e;cases s a _ q with
    |lst h rs=>exact .lst h
   |dK us=>cases e;cases s a _ q with
    |dK h rs=>exact .dK h
   |dT us=>cases e;cases s a _ q with
    |dT h rs=>exact .dT h
   |fK _ _ _ _=>cases e
   |ins _ _=>cases e
   |exk _=>cases e
theorem m8 (hK:X.K=K):aX X (.builtin "isinstance") (lC K (wt K)):=by
 subst hK
 rintro pins s σ H xs us Q I r ⟨S,ts,Qt,sr,rs,hg,b⟩
 cases rs with
 |nil=>exact hg.elim
 |cons a l =>
  cases l with
  |nil=>exact hg.elim
  |cons a2 l2 =>
   cases l2 with
   |cons _ _=>cases a2<;>exact hg.elim
   |nil =>
    cases a2<;>first|exact hg.elim|skip
    obtain ⟨t,k,e,hk,q⟩:=hg
    exact xm pins s σ H _ us Q I r ⟨_,_,t,k,rfl,⟨_,rfl,λz h=>h,hk⟩,CV sr a e,b _ H _ S .refl sr .bl q⟩
def uZ (tr:Bool):GC:=λts S Q=>match ts with
 |[.tup us]=>newL tr us S Q
 |[x]=>∃ us,aH S x=some us/\newL tr us S Q
 |_=>False
theorem CW (tr:Bool) (hK:X.K=K):aX X (.type "list") (lC K (uZ tr)):=by
 subst hK
 rintro pins s σ H xs us Q I r ⟨S,ts,Qt,sr,rs,hg,b⟩
 cases rs with
 |nil=>exact hg.elim
 |cons a l =>
  cases l with
  |cons _ _=>cases a<;>exact hg.elim
  |nil =>
   rename_i t v
   have lists:(∃ us,aH S t=some us/\newL tr us S Qt)->wpAny (model X.prog X.w) X.A (call (.type "list") us) (EP X pins σ Q) X.xe s:=by
    rintro ⟨ws,e,n⟩
    obtain ⟨p,vs,rfl,hq,rs⟩:=bF sr a e
    exact oH pins s σ H _ us Q I r ⟨p,vs,rfl,.inl hq,gc sr rs n b⟩
   cases t with
   |tup ws =>
    cases a with
    |tup n' hp rs=>exact oH pins s σ H _ us Q I r ⟨_,_,rfl,.inr (SqT.of hp),gc sr rs hg b⟩
   |_=>exact lists hg
def dL:List T->Option (List Int)
 |[]=>some []
 |.int i::ts=>(dL ts).map (i::·)
 |_=>none
theorem lU {i:Int}{ts:List T}:dL (.int i::ts)=(dL ts).map (i::·):=rfl
theorem lV {H S}:∀ {ts vs ns},Rps K H S ts vs->dL ts=some ns->vs=ns.map V.int
 |_,_,_,.nil,e=>by cases e;rfl
 |_,_,_,.cons a b,e=>by
  cases a<;>first|(cases e;done)|skip
  simp only [lU,Option.map_eq_some_iff] at e
  obtain ⟨ns,e,rfl⟩:=e
  rw [List.map_cons,<- lV b e]
def dU:List T->Option (List Bool)
 |[]=>some []
 |.bl i::ts=>(dU ts).map (i::·)
 |_=>none
theorem CY {i:Bool}{ts:List T}:dU (.bl i::ts)=(dU ts).map (i::·):=rfl
theorem tD {H S}:∀ {ts vs ns},Rps K H S ts vs->dU ts=some ns->vs=ns.map V.bl
 |_,_,_,.nil,e=>by cases e;rfl
 |_,_,_,.cons a b,e=>by
  cases a<;>first|(cases e;done)|skip
  simp only [CY,Option.map_eq_some_iff] at e
  obtain ⟨ns,e,rfl⟩:=e
  rw [List.map_cons,<- tD b e]
def dM:List T->Option (List Str)
 |[]=>some []
 |.str i::ts=>(dM ts).map (i::·)
 |_=>none
theorem rE {i:Str}{ts:List T}:dM (.str i::ts)=(dM ts).map (i::·):=rfl
theorem rF {H S}:∀ {ts vs ns},Rps K H S ts vs->dM ts=some ns->vs=ns.map V.str
 |_,_,_,.nil,e=>by cases e;rfl
 |_,_,_,.cons a b,e=>by
  cases a<;>first|(cases e;done)|skip
  simp only [rE,Option.map_eq_some_iff] at e
  obtain ⟨ns,e,rfl⟩:=e
  rw [List.map_cons,<- rF b e]
def wu:GC:=λts S Q=>match ts with
 |[x]=>∃ us ns,aH S x=some us/\dL us=some ns/\ns≠[]/\∀ m,m∈ns->(∀ i∈ns,i<=m)->Q (.int m) S
 |_=>False
theorem m9 (hK:X.K=K) (hc:X.calm=true):aX X (.builtin "max") (lC K wu):=by
 subst hK
 rintro pins s σ H xs us Q I r ⟨S,ts,Qt,sr,rs,hg,b⟩
 cases rs with
 |nil=>exact hg.elim
 |cons a l =>
  cases l with
  |cons _ _=>exact hg.elim
  |nil =>
   obtain ⟨ws,ns,e,en,h0,q⟩:=hg
   obtain ⟨p,vs,rfl,hq,rs⟩:=bF sr a e
   exact x8 hc pins s σ H _ us Q I r ⟨p,ns,rfl,by rw [<- lV rs en];exact hq,h0,λm h1 h2=>b _ H _ S .refl sr .int (q m h1 h2)⟩
def ww:GC:=λts S Q=>match ts with
 |[x]=>∃ us bs,aH S x=some us/\dU us=some bs/\Q (.bl (bs.all id)) S
 |_=>False
theorem u4 (hK:X.K=K) (hc:X.calm=true):aX X (.builtin "all") (lC K ww):=by
 subst hK
 rintro pins s σ H xs us Q I r ⟨S,ts,Qt,sr,rs,hg,b⟩
 cases rs with
 |nil=>exact hg.elim
 |cons a l =>
  cases l with
  |cons _ _=>exact hg.elim
  |nil =>
   obtain ⟨ws,ns,e,en,q⟩:=hg
   obtain ⟨p,vs,rfl,hq,rs⟩:=bF sr a e
   exact yb hc pins s σ H _ us Q I r ⟨p,ns,rfl,by rw [<- tD rs en];exact hq,b _ H _ S .refl sr .bl q⟩
def wx:GC:=λts S Q=>∃ i j,ts=[.int i,.int j]/\Q (.int (if j<i then j else i)) S
theorem E1 (hc:X.calm=true):aX X (.builtin "min") (lC K wx):=by
 rintro pins s σ H xs us Q I r ⟨S,ts,Qt,sr,rs,⟨i,j,rfl,q⟩,b⟩
 cases rs with
 |cons a l =>
  cases l with
  |cons a2 l2 =>
   cases l2
   obtain rfl:=a.iint
   obtain rfl:=a2.iint
   exact xQ hc pins s σ H _ us Q I r ⟨_,_,rfl,b _ H _ S .refl sr .int q⟩
def wy:GC:=λts S Q=>match ts with
 |[.int i]=>Q (.int i) S
 |[.bl k]=>Q (.int (if k then 1 else 0)) S
 |_=>False
theorem u5:aX X (.type "int") (lC K wy):=by
 rintro pins s σ H xs us Q I r ⟨S,ts,Qt,sr,rs,hg,b⟩
 cases rs with
 |nil=>exact hg.elim
 |cons a l =>
  cases l with
  |cons _ _=>cases a<;>exact hg.elim
  |nil =>
   cases a<;>first|exact hg.elim|skip
   ·exact pF pins s σ H _ us Q I r (.inr ⟨_,rfl,b _ H _ S .refl sr .int hg⟩)
   ·exact pF pins s σ H _ us Q I r (.inl ⟨_,rfl,b _ H _ S .refl sr .int hg⟩)
abbrev GM:=T->List T->Sto->(T->Sto->Prop)->Prop
def lM (K:Fg) (g:GM):V->List V->Hp->VK->Prop:=λx xs H Q=>∃ S t ts Qt,SRp K H S/\Rp K H S t x/\Rps K H S ts xs/\g t ts S Qt/\Bh K H S Qt Q
def tyM (ty:String) (S:Sto) (x:T):Prop:=match x with
 |.str _=>ty="str"
 |.lst _=>ty="list"
 |.ref a=>match S a with
  |some (.lst _)=>ty="list"
  |some (.dK _)=>ty="dict"
  |some (.dT _)=>ty="dict"
  |_=>False
 |_=>False
def wBM (ty:String) (g:GM) (wa:WE) (wr:WA):WE:=λσ S Q=>wa σ S λx S1=>tyM ty S1 x/\wr σ S1 λts S2=>g x ts S2 Q
theorem va {H S t v ty}(s:SRp K H S) (r:Rp K H S t v) (h:tyM ty S t):tyV K ty v H:=by
 cases r with
 |str=>exact h
 |lst n hp _=>exact .inl ⟨h,_,SqL.of hp⟩
 |ref =>
  rename_i a
  delta tyM at h
  dsimp only at h
  cases q:S a with
  |none=>rw [q] at h;exact h.elim
  |some o =>
   rw [q] at h
   cases o with
   |lst us=>cases s a _ q with
    |lst hp _=>exact .inl ⟨h,_,SqL.of hp⟩
   |dK us=>cases s a _ q with
    |dK hp _=>exact .inr (.inr (.inl ⟨h,.inl ⟨_,hp⟩⟩))
   |dT us=>cases s a _ q with
    |dT hp _=>exact .inr (.inr (.inl ⟨h,.inr ⟨_,hp⟩⟩))
   |fK _ _ _ _=>exact h.elim
   |ins _ _=>exact h.elim
   |exk _=>exact h.elim
 |_=>exact h.elim
theorem CZ {ty:String}{g:GM}{wa:WE}{wr:WA}{σ H Q}(h:lE K (wBM ty g wa wr) σ H Q):tBM K ty (lM K g) (lE K wa) (lA K wr) σ H Q:=by
 obtain ⟨S,σt,Qt,s,c,q,hq⟩:=h
 refine ⟨S,σt,_,s,c,q,λx H1 tx S1 f1 s1 r1 q1=>?_⟩
 refine ⟨va s1 r1 q1.1,S1,σt,_,s1,c.fr f1,q1.2,λvs H2 ts S2 f2 s2 r2 q2=>?_⟩
 exact ⟨S2,tx,ts,Qt,s2,r1.fr f2,r2,q2,λv H' t S' f=>hq v H' t S' ((f1.trans f2).trans f)⟩
theorem AW {ty:String}{g:GM}{wa:WE}{σ H Q}(h:lE K (wBM ty g wa cM) σ H Q):kA K ty (lM K g) (lE K wa) σ H Q:=by
 obtain ⟨S,σt,Qt,s,c,q,hq⟩:=h
 refine ⟨S,σt,_,s,c,q,λx H1 tx S1 f1 s1 r1 q1=>?_⟩
 exact ⟨va s1 r1 q1.1,S1,tx,[],Qt,s1,r1,.nil,q1.2,λv H' t S' f=>hq v H' t S' (f1.trans f)⟩
theorem Hl {ty:String}{g:GM}{wa:WE}{wr:WA}{e:Expr}(hp:PE X e (tBM K ty (lM K g) (lE K wa) (lA K wr))):QE K X e (wBM ty g wa wr):=PE.of hp λ_ _ _ h=>CZ h
theorem E2 {ty:String}{g:GM}{wa:WE}{e:Expr}(hp:PE X e (kA K ty (lM K g) (lE K wa))):QE K X e (wBM ty g wa cM):=PE.of hp λ_ _ _ h=>AW h
def tE (tr:Bool):GM:=λx ts S Q=>match x,ts with
 |.str a,[.str c]=>c.length≠0/\a.length<=1000/\newL tr ((Txt.split a c).map T.str) S Q
 |_,_=>False
theorem lW (tr:Bool):MtR X "str.split" (lM K (tE tr)):=by
 rintro pins s σ H x vs v us Q I rx rv ⟨S,t,ts,Qt,sr,hx,rs,hg,b⟩
 cases hx<;>first|exact hg.elim|skip
 cases rs with
 |nil=>exact hg.elim
 |cons a l =>
  cases l with
  |cons _ _=>cases a<;>exact hg.elim
  |nil =>
   cases a<;>first|exact hg.elim|skip
   exact yZ pins s σ H _ _ v us Q I rx rv ⟨_,_,rfl,rfl,hg.1,hg.2.1,gc sr Rps.strs hg.2.2 b⟩
def na:GM:=λx ts S Q=>match x,ts with
 |.str a,[y]=>∃ us zs,aH S y=some us/\dM us=some zs/\JoinOk a zs=true/\Q (.str (Txt.join a zs)) S
 |_,_=>False
theorem jO (hK:X.K=K):MtR X "str.join" (lM K na):=by
 subst hK
 rintro pins s σ H x vs v us Q I rx rv ⟨S,t,ts,Qt,sr,hx,rs,hg,b⟩
 cases hx<;>first|exact hg.elim|skip
 cases rs with
 |nil=>exact hg.elim
 |cons a l =>
  cases l with
  |cons _ _=>exact hg.elim
  |nil =>
   obtain ⟨ws,zs,e,en,hj,q⟩:=hg
   obtain ⟨p,ys,rfl,hq,rs⟩:=bF sr a e
   exact AE pins s σ H _ _ v us Q I rx rv ⟨_,p,zs,rfl,rfl,by rw [<- rF rs en];exact hq,hj,b _ H _ S .refl sr .str q⟩
def rG:GM:=λx ts S Q=>match x,ts with
 |.str a,[.str c]=>Q (.bl (Txt.startswith a c)) S
 |_,_=>False
theorem qw:MtR X "str.startswith" (lM K rG):=by
 rintro pins s σ H x vs v us Q I rx rv ⟨S,t,ts,Qt,sr,hx,rs,hg,b⟩
 cases hx<;>first|exact hg.elim|skip
 cases rs with
 |nil=>exact hg.elim
 |cons a l =>
  cases l with
  |cons _ _=>cases a<;>exact hg.elim
  |nil =>
   cases a<;>first|exact hg.elim|skip
   exact w5 pins s σ H _ _ v us Q I rx rv ⟨_,_,rfl,rfl,b _ H _ S .refl sr .bl hg⟩
theorem ia {H S}{a:Addr}{ts:List T}(s:SRp K H S) (e:S a=some (.lst ts)):∃ vs,H a=some (.lst vs)/\Rps K H S ts vs:=by
 cases s a _ e with
 |lst h r=>exact ⟨_,h,r⟩
theorem jh {H S}{a:Addr}{ts us:List T}{ws:List V}{Qt:T->Sto->Prop}{Q:VK}{t:T}{v:V}(s:SRp K H S) (e:S a=some (.lst ts)) (r:Rps K H S us ws) (b:Bh K H S Qt Q) (rt:Rp K H S t v) (q:Qt t (put S a (.lst us))):Q v (upd H a (.lst ws)):=by
 have hn:S a≠none:=by rw [e];simp
 exact b _ _ t _ (Fr.write hn) (s.write hn (.lst aI (r.fr (Fr.write hn)))) (rt.fr (Fr.write hn)) q
def rH:GM:=λx ts S Q=>match x,ts with
 |.ref a,[y]=>∃ us,S a=some (.lst us)/\us.length<sizeLine/\Q .non (put S a (.lst (us++[y])))
 |_,_=>False
theorem zc:MtR X "list.append" (lM K rH):=by
 rintro pins s σ H x vs v us Q I rx rv ⟨S,t,ts,Qt,sr,hx,rs,hg,b⟩
 cases hx<;>first|exact hg.elim|skip
 cases rs with
 |nil=>exact hg.elim
 |cons a l =>
  cases l with
  |cons _ _=>exact hg.elim
  |nil =>
   obtain ⟨ws,e,hl,q⟩:=hg
   obtain ⟨ys,hy,ry⟩:=ia sr e
   exact pM pins s σ H _ _ v us Q I rx rv ⟨_,ys,_,rfl,rfl,hy,by rw [ry.length];exact hl,jh sr e (ry.append (.cons a .nil)) b .non q⟩
def wz:GM:=λx ts S Q=>match x,ts with
 |.ref a,[]=>∃ us y,S a=some (.lst us)/\us[us.length - 1]?=some y/\Q y (put S a (.lst us.dropLast))
 |_,_=>False
theorem Rps.dropLast {H S}{ts vs}(r:Rps K H S ts vs):Rps K H S ts.dropLast vs.dropLast:=by
 rw [List.dropLast_eq_take,List.dropLast_eq_take,r.length];exact r.take _
theorem E3:MtR X "list.pop" (lM K wz):=by
 rintro pins s σ H x vs v us Q I rx rv ⟨S,t,ts,Qt,sr,hx,rs,hg,b⟩
 cases hx<;>first|exact hg.elim|skip
 cases rs with
 |cons a l=>exact hg.elim
 |nil =>
  obtain ⟨ws,y,e,hl,q⟩:=hg
  obtain ⟨ys,hy,ry⟩:=ia sr e
  obtain ⟨z,hz,rz⟩:=ry.get hl
  exact CC pins s σ H _ _ v us Q I rx rv ⟨_,ys,z,rfl,rfl,hy,by rw [ry.length];exact hz,jh sr e ry.dropLast b rz q⟩
def rJ:GM:=λx ts S Q=>match x,ts with
 |.ref a,[.int i,y]=>∃ us,S a=some (.lst us)/\us.length<sizeLine/\0<=i/\i<2 ^ 62/\Q .non (put S a (.lst (us.take i.toNat++y::us.drop i.toNat)))
 |_,_=>False
theorem zd:MtR X "list.insert" (lM K rJ):=by
 rintro pins s σ H x vs v us Q I rx rv ⟨S,t,ts,Qt,sr,hx,rs,hg,b⟩
 cases hx<;>first|exact hg.elim|skip
 cases rs with
 |nil=>exact hg.elim
 |cons a l =>
  cases l with
  |nil=>cases a<;>exact hg.elim
  |cons a2 l2 =>
   cases l2 with
   |cons _ _=>cases a<;>exact hg.elim
   |nil =>
    cases a<;>first|exact hg.elim|skip
    obtain ⟨ws,e,hl,h0,h1,q⟩:=hg
    obtain ⟨ys,hy,ry⟩:=ia sr e
    exact ym pins s σ H _ _ v us Q I rx rv ⟨_,ys,_,_,rfl,rfl,hy,by rw [ry.length];exact hl,h0,h1,jh sr e ((ry.take _).append (.cons a2 (ry.drop _))) b .non q⟩
abbrev GS:=T->T->T->Sto->(Sto->Prop)->Prop
def iP (K:Fg) (g:GS):kq:=λo i v H Q=>∃ S to ti tv Qt,SRp K H S/\Rp K H S to o/\Rp K H S ti i/\Rp K H S tv v/\g to ti tv S Qt/\∀ H' S',Fr H S H' S'->SRp K H' S'->Qt S'->Q H'
def E4:GS:=λo i v S Q=>match o,i with
 |.ref a,.int k=>∃ us j,S a=some (.lst us)/\ixN us.length k=some j/\Q (put S a (.lst (us.set j v)))
 |_,_=>False
theorem C0:eP X (iP K E4):=by
 rintro pins s σ H o i v ov iv u Q I ro ri rv ⟨S,to,ti,tv,Qt,sr,hO,hI,hV,hg,b⟩
 cases hO<;>first|exact hg.elim|skip
 cases hI<;>first|exact hg.elim|skip
 rename_i a k
 obtain ⟨us,j,e,hj,q⟩:=hg
 obtain ⟨ys,hy,ry⟩:=ia sr e
 have hn:S a≠none:=by rw [e];simp
 exact yW pins s σ H _ _ _ ov iv u Q I ro ri rv ⟨_,ys,_,j,rfl,rfl,hy,by rw [ry.length];exact hj,b _ _ (Fr.write hn) (sr.write hn (.lst aI ((Rps.set hV j ry).fr (Fr.write hn)))) q⟩
def ng (k:Nat):GS:=λo i v S Q=>match o,i with
 |.ref a,.int j=>j=k/\∃ us,S a=some (.lst us)/\k<us.length/\Q (put S a (.lst (us.set k v)))
 |_,_=>False
theorem jP (k:Nat):eP X (iP K (ng k)):=by
 rintro pins s σ H o i v ov iv u Q I ro ri rv ⟨S,to,ti,tv,Qt,sr,hO,hI,hV,hg,b⟩
 refine C0 pins s σ H o i v ov iv u Q I ro ri rv ⟨S,to,ti,tv,Qt,sr,hO,hI,hV,?_,b⟩
 cases hO<;>first|exact hg.elim|skip
 cases hI<;>first|exact hg.elim|skip
 obtain ⟨rfl,us,e,hk,q⟩:=hg
 refine ⟨us,k,e,?_,q⟩
 unfold ixN
 rw [if_pos (by omega),if_pos (by omega)]
 rfl
def wgS (wo wi:WE) (g:GS):WG:=λt σ S Q=>wo σ S λo S1=>wi σ S1 λi S2=>g o i t S2 λS3=>Q σ S3
theorem C1 {o i:Expr}{wo wi:WE}{g:GS}{pos:Pos}(h:PG X (.Subscript o i pos) (L2.gC (lE K wo) (lE K wi) (iP K g))):QG K X (.Subscript o i pos) (wgS wo wi g):=PG.of h λv σ H Q zz93=>by
 obtain ⟨S,t,σt,Qt,s,r,c,q,hq⟩:=zz93
 refine ⟨S,σt,_,s,c,q,λx H1 tx S1 f1 s1 r1 q1=>?_⟩
 refine ⟨S1,σt,_,s1,c.fr f1,q1,λy H2 ty S2 f2 s2 r2 q2=>?_⟩
 exact ⟨S2,tx,ty,t,_,s2,r1.fr f2,r2,(r.fr f1).fr f2,q2,λH' S' f s' q'=>hq σ H' σt S' ((f1.trans f2).trans f) s' (c.fr ((f1.trans f2).trans f)) q'⟩
end
theorem pk {t:WT}{wb:WS}{D:EndsT}{σ:StT}{S:Sto}(Iv Po:StT->Sto->Prop) (μ:StT->Sto->Nat) (h0:Iv σ S)
  (step:∀ σ S (N X:StT->Sto->Prop),Iv σ S->(∀ σ' S',Iv σ' S'->μ σ' S'<μ σ S->N σ' S')->(∀ σ' S',Po σ' S'->X σ' S')->t σ S λb S1=>if b=true then wb { nx:=N,rt:=D.rt,bk:=X,ct:=N } σ S1 else X σ S1)
  (out:∀ σ S,Po σ S->D.nx σ S):mG t wb D σ S:=by
 have main:∀ n σ S,Iv σ S->μ σ S<n->whT t wb D n σ S:=by
  intro n
  induction n with
  |zero=>intro σ S _ h;omega
  |succ n ih=>intro σ S iv h;exact step σ S _ _ iv (λσ' S' iv' lt=>ih σ' S' iv' (by omega)) out
 exact ⟨_,main _ σ S h0 (Nat.lt_succ_self _)⟩
theorem vc {w u:WS}{D:EndsT}{σ:StT}{S:Sto}(M:StT->Sto->Prop) (h1:∀ X:StT->Sto->Prop,(∀ σ S,M σ S->X σ S)->w { D with nx:=X } σ S) (h2:∀ σ S,M σ S->u D σ S):nJ w u D σ S:=h1 _ h2
theorem qy {grd:Sto->Prop}{g:WG}{wb:WS}{D:EndsT}{items:List T}{σ:StT}{S:Sto}(Iv:List T->StT->Sto->Prop) (h0:Iv items σ S)
  (step:∀ t ts σ S (N:StT->Sto->Prop),Iv (t::ts) σ S->(∀ σ' S',Iv ts σ' S'->N σ' S')->grd S/\g t σ S λσ2 S2=>wb { nx:=N,rt:=D.rt,bk:=D.nx,ct:=N } σ2 S2)
  (done:∀ σ S,Iv [] σ S->grd S/\D.nx σ S):cN grd g wb D items σ S:=by
 induction items generalizing σ S with
 |nil=>exact done σ S h0
 |cons t ts ih=>exact step t ts σ S _ h0 λσ' S' iv=>ih iv
theorem jy {α:Type}{grd:Sto->Prop}{g:WG}{wb:WS}{D:EndsT}{f:α->T}{ls:List α}{σ:StT}{S:Sto}(Iv:List α->StT->Sto->Prop) (h0:Iv ls σ S)
  (step:∀ a r σ S (N:StT->Sto->Prop),Iv (a::r) σ S->(∀ σ' S',Iv r σ' S'->N σ' S')->grd S/\g (f a) σ S λσ2 S2=>wb { nx:=N,rt:=D.rt,bk:=D.nx,ct:=N } σ2 S2)
  (done:∀ σ S,Iv [] σ S->grd S/\D.nx σ S):cN grd g wb D (ls.map f) σ S:=by
 induction ls generalizing σ S with
 |nil=>exact done σ S h0
 |cons a r ih=>exact step a r σ S _ h0 λσ' S' iv=>ih iv
theorem pt {grd:Sto->Prop}{g:WG}{wb:WS}{D:EndsT}{lo:Int}{n:Nat}{σ:StT}{S:Sto}(Iv:Nat->StT->Sto->Prop) (h0:Iv 0 σ S)
  (step:∀ k σ S (N:StT->Sto->Prop),k<n->Iv k σ S->(∀ σ' S',Iv (k+1) σ' S'->N σ' S')->grd S/\g (.int (lo+k)) σ S λσ2 S2=>wb { nx:=N,rt:=D.rt,bk:=D.nx,ct:=N } σ2 S2)
  (done:∀ σ S,Iv n σ S->grd S/\D.nx σ S):cN grd g wb D (bH lo n) σ S:=by
 unfold bH
 have main:∀ (m k:Nat) σ S,k+m=n->Iv k σ S->cN grd g wb D ((List.range' k m).map λ(i:Nat)=>T.int (lo+i)) σ S:=by
  intro m
  induction m with
  |zero=>intro k σ S e iv;rw [show k=n by omega] at iv;exact done σ S iv
  |succ m ih =>
   intro k σ S e iv
   rw [List.range'_succ,List.map_cons]
   exact step k σ S _ (by omega) iv λσ' S' iv'=>ih (k+1) σ' S' (by omega) iv'
 rw [List.range_eq_range']
 exact main n 0 σ S (by omega) h0
theorem fP {grd:Sto->Prop}{g:WG}{tt:WT}{te:WE}{Q:List T->Sto->Prop}{items acc:List T}{σ:StT}{S:Sto}(Iv:List T->List T->StT->Sto->Prop) (h0:Iv items acc σ S)
  (step:∀ t ts acc σ S (N:List T->StT->Sto->Prop),Iv (t::ts) acc σ S->(∀ acc' σ' S',Iv ts acc' σ' S'->N acc' σ' S') ->
   grd S/\g t σ S λσ2 S2=>tt σ2 S2 λb S3=>if b=true then te σ2 S3 λy S4=>acc.length<sizeLine/\N (acc++[y]) σ2 S4 else N acc σ2 S3)
  (done:∀ acc σ S,Iv [] acc σ S->grd S/\Q acc S):dg grd g tt te Q items acc σ S:=by
 induction items generalizing acc σ S with
 |nil=>exact done acc σ S h0
 |cons t ts ih=>exact step t ts acc σ S _ h0 λacc' σ' S' iv=>ih iv
theorem d0 {α:Type}{grd:Sto->Prop}{g:WG}{tt:WT}{te:WE}{Q:List T->Sto->Prop}(f:α->T) (φ:α->Option T) (cs:StT){ls:List α}{S:Sto}(hg:grd S) (hz:ls.length<=sizeLine)
  (step:∀ a∈ls,∀ (u:Option T) (acc:List T) (N:List T->StT->Sto->Prop),acc.length<sizeLine->(∀ u',N (acc++(φ a).toList) (u'::cs) S) ->
   g (f a) (u::cs) S λσ2 S2=>tt σ2 S2 λb S3=>if b=true then te σ2 S3 λy S4=>acc.length<sizeLine/\N (acc++[y]) σ2 S4 else N acc σ2 S3)
  (done:Q (ls.filterMap φ) S):dg grd g tt te Q (ls.map f) [] (none::cs) S:=by
 refine fP (λitems acc σ' S'=>∃ pre suf u,ls=pre++suf/\items=suf.map f/\acc=pre.filterMap φ/\σ'=u::cs/\S'=S) ⟨[],ls,none,rfl,rfl,rfl,rfl,rfl⟩ ?_ ?_
 ·rintro t ts acc σ' S' N ⟨pre,suf,u,e,e2,rfl,rfl,rfl⟩ hN
  cases suf with
  |nil=>cases e2
  |cons a r =>
   simp only [List.map_cons,List.cons.injEq] at e2
   obtain ⟨rfl,rfl⟩:=e2
   refine ⟨hg,step a (by rw [e];simp) u _ N ?_ λu'=>hN _ _ _ ⟨pre++[a],r,u',by rw [e];simp,rfl,?_,rfl,rfl⟩⟩
   ·have h1:=List.length_filterMap_le φ pre
    have h2:=congrArg List.length e
    simp only [List.length_append,List.length_cons] at h2
    omega
   ·rw [List.filterMap_append];cases h:φ a<;>simp [h]
 ·rintro acc σ' S' ⟨pre,suf,u,e,e2,rfl,rfl,rfl⟩
  cases suf with
  |nil=>rw [List.append_nil] at e;subst e;exact ⟨hg,done⟩
  |cons a r=>cases e2
section
variable {σ:StT}{S S0:Sto}{D:EndsT}{Q:T->Sto->Prop}{B:Bool->Sto->Prop}{L:List T->Sto->Prop}{t x y z:T}{p:Addr}
theorem E5 {w u:WS}(h:w { D with nx:=u D } σ S):nJ w u D σ S:=h
theorem C2 (h:D.nx σ S):uT D σ S:=h
theorem C3 {w:WE}(h:w σ S λ_ S1=>D.nx σ S1):uU w D σ S:=h
theorem E6 {w:WE}(h:w σ S D.rt):v4 w D σ S:=h
theorem E7 {t:WT}{w u:WS}(h:t σ S λb S1=>if b=true then w D σ S1 else u D σ S1):v5 t w u D σ S:=h
theorem E8 {w:WE}{g:WG}(h:w σ S λt S1=>g t σ S1 D.nx):iN w g D σ S:=h
theorem vd {i:Nat}{σ2:StT}{Q:StT->Sto->Prop}(e:σ.set i (some t)=σ2) (h:Q σ2 S):wgN i t σ S Q:=by subst e;exact h
theorem Hm {wo wi:WE}{g:GS}{Q:StT->Sto->Prop}(h:wo σ S λo S1=>wi σ S1 λi S2=>g o i t S2 λS3=>Q σ S3):wgS wo wi g t σ S Q:=h
theorem Hn {n:Nat}{g:WGs}{ts:List T}{Q:StT->Sto->Prop}(l:ts.length=n) (h:g ts σ S Q):uW n g (.tup ts) σ S Q:=⟨ts,rfl,l,h⟩
theorem AX {g:WG}{h:WGs}{ts:List T}{Q:StT->Sto->Prop}(q:g t σ S λσ' S'=>h ts σ' S' Q):sZ g h (t::ts) σ S Q:=⟨t,ts,rfl,q⟩
theorem C4 {Q:StT->Sto->Prop}(q:Q σ S):uV [] σ S Q:=⟨rfl,q⟩
theorem E9 {wi:WI}{g:WG}{wb:WS}(h:wi σ S λsrc S1=>cN src.grd g wb D src.items σ S1):nM wi g wb D σ S:=h
theorem i_V {i:Nat}(e:σ[i]?=some (some t)) (h:Q t S):wV i σ S Q:=⟨t,e,h⟩
theorem i_C (h:Q t S):wC t σ S Q:=h
theorem i_2 {g:G2}{wa wb:WE}(h:wa σ S λx S1=>wb σ S1 λy S2=>g x y S2 Q):w2 g wa wb σ S Q:=h
theorem i_B {w:WE}(h:w σ S λx S1=>∃ k,x=.bl k/\B k S1):wB w σ S B:=h
theorem Ho {k:Bool}{C:Bool->Prop}(h:C k):∃ k',T.bl k=.bl k'/\C k':=⟨k,rfl,h⟩
theorem AY {g g':G2}{wa wb wc:WE}(h:wa σ S λx S1=>wb σ S1 λy S2=>g x y S2 λz S3=>∃ k,z=.bl k/\if k=true then wc σ S3 λu S4=>g' y u S4 Q else Q (.bl false) S3):mF g g' wa wb wc σ S Q:=h
theorem Fc {t u:WT}(h:t σ S λc S1=>if c=true then u σ S1 B else B false S1):vX t u σ S B:=h
theorem Hq {t u:WT}(h:t σ S λc S1=>if c=true then B true S1 else u σ S1 B):wOr t u σ S B:=h
theorem Ff {t:WT}(h:t σ S λc S1=>B (!c) S1):vY t σ S B:=h
theorem C5 (h:B true S):uY σ S B:=h
theorem C6 {wa wb:WE}(h:wa σ S λx S1=>∃ k,x=.bl k/\if k=true then wb σ S1 Q else Q (.bl false) S1):uQ wa wb σ S Q:=h
theorem Fh {wa wb:WE}(h:wa σ S λx S1=>∃ k,x=.bl k/\if k=true then Q (.bl true) S1 else wb σ S1 Q):vZ wa wb σ S Q:=h
theorem Fi (h:L [] S):cM σ S L:=h
theorem C7 {wa:WE}{wr:WA}(h:wa σ S λx S1=>wr σ S1 λxs S2=>L (x::xs) S2):uR wa wr σ S L:=h
theorem Fj {wr:WA}(h:wr σ S λts S1=>ts.length<=sizeLine/\Q (.tup ts) S1):v0 wr σ S Q:=h
theorem Fl {wr:WA}(h:wr σ S λts S1=>ts.length<=sizeLine/\Q (.lst ts) S1):v3 wr σ S Q:=h
theorem C8 {wr:WA}(h:wr σ S λts S1=>ts.length<=sizeLine/\∀ p,S1 p=none->Q (.ref p) (put S1 p (.lst ts))):uS wr σ S Q:=h
theorem C9 {w:WSp}{dts:List T}{wr:WA}(h:wr σ S λts S1=>w (ts++dts) S1 Q):j5 w dts wr σ S Q:=h
theorem Hr {g:GC}{wr:WA}(h:wr σ S λts S1=>g ts S1 Q):wCB g wr σ S Q:=h
theorem Hs {ty:String}{g:GM}{wa:WE}{wr:WA}(h:wa σ S λx S1=>tyM ty S1 x/\wr σ S1 λts S2=>g x ts S2 Q):wBM ty g wa wr σ S Q:=h
theorem Fm {wa:WE}(h:wa σ S λx S1=>match x with|.int i=>Q (.int (-i)) S1|_=>False):wm wa σ S Q:=h
theorem Ht {tr:Bool}{wa:WE}{wl wh:WO}(h:wa σ S λx S1=>wl σ S1 λl S2=>wh σ S2 λh S3=>gSl tr x l h S3 Q):wSl tr wa wl wh σ S Q:=h
theorem Hu {O':Option Int->Sto->Prop}(h:O' none S):woN σ S O':=h
theorem Hv {wa:WE}{O':Option Int->Sto->Prop}(h:wa σ S λx S1=>match x with|.int i=>O' (some i) S1|_=>False):woS wa σ S O':=h
theorem Dc {tr:Bool}{wi:WI}{n:Nat}{caps:List Nat}{g:WG}{tt:WT}{te:WE}(h:wi σ S λsrc S1=>dg src.grd g tt te (λts S2=>newL tr ts S2 Q) src.items [] (fS n caps σ) S1):j8 tr wi n caps g tt te σ S Q:=h
theorem De {ts:List T}(h:Q (.lst ts) S):newL false ts S Q:=h
variable {R:Src->Sto->Prop}
theorem Hw {wa:WE}(h:wa σ S λx S1=>∃ ts,aH S1 x=some ts/\R ⟨ts,eE x ts⟩ S1):wiL wa σ S R:=h
theorem Fn {wa:WE}(h:wa σ S λx S1=>match x with|.int j=>-(2 ^ 62)<=j/\j<2 ^ 62/\R ⟨bH 0 j.toNat,λ_=>True⟩ S1|_=>False):wp wa σ S R:=h
theorem Hx {wa:WE}(h:wa σ S λx S1=>match x with|.str z=>R ⟨h8 z,λ_=>True⟩ S1|_=>False):wiS wa σ S R:=h
variable {i j:Int}{a c:Str}{ts us:List T}
theorem Fo (h:Q (.int (i - j)) S):gC (.int i) (.int j) S Q:=⟨trivial,h⟩
theorem Fq (h0:0<j) (h1:j<18446744073709551616) (h:Q (.int (i / j)) S):v6 (.int i) (.int j) S Q:=⟨⟨h0,h1⟩,h⟩
theorem Fs (h0:0<j) (h:Q (.int (i % j)) S):v7 (.int i) (.int j) S Q:=⟨h0,h⟩
theorem Ft (h0:0<=j) (h1:j<=1000000) (h2:i.natAbs<2 ^ 64) (h:Q (.int (i ^ j.toNat)) S):v9 (.int i) (.int j) S Q:=⟨⟨h0,h1,h2⟩,h⟩
theorem Fu (h0:0<=j) (h:Q (.int (i / 2 ^ j.toNat)) S):wf (.int i) (.int j) S Q:=⟨h0,h⟩
theorem Dg {tr:Bool}(h:Q (.int (i+j)) S):kE tr (.int i) (.int j) S Q:=h
theorem Dh {tr:Bool}(h0:a.length+c.length<=sizeLine) (h:Q (.str (a++c)) S):kE tr (.str a) (.str c) S Q:=⟨h0,h⟩
theorem mH {tr:Bool}(e1:ck S x=some ts) (e2:ck S y=some us) (hz:ts.length+us.length<=sizeLine) (h:newL tr (ts++us) S Q):kE tr x y S Q:=by
 cases x<;>first|(cases e1;done)|exact ⟨ts,us,e1,e2,hz,h⟩
theorem Di {tr:Bool}(h0:iM i j) (h:Q (.int (i * j)) S):wg tr (.int i) (.int j) S Q:=⟨h0,h⟩
theorem Fv {n:Bool}(h:Q (.bl (n ^^ decide (i=j))) S):gEq n (.int i) (.int j) S Q:=h
theorem Fy {n:Bool}(h:Q (.bl (n ^^ decide (a=c))) S):gEq n (.str a) (.str c) S Q:=h
theorem Fz {n k l:Bool}(h:Q (.bl (n ^^ decide (k=l))) S):gEq n (.bl k) (.bl l) S Q:=h
theorem FA (h:Q (.bl (decide (i<j))) S):gLt (.int i) (.int j) S Q:=h
theorem FB (h:Q (.bl (decide (i<=j))) S):gLe (.int i) (.int j) S Q:=h
theorem FC (h:Q (.bl (decide (j<i))) S):gGt (.int i) (.int j) S Q:=h
theorem FD (h:Q (.bl (!ltS c a)) S):gLe (.str a) (.str c) S Q:=h
theorem nh (e:atI ts i=some t) (h:Q t S):gIx (.tup ts) (.int i) S Q:=⟨t,e,h⟩
theorem eN (e:atI ts i=some t) (h:Q t S):gIx (.lst ts) (.int i) S Q:=⟨t,e,h⟩
theorem FE (e:S p=some (.lst ts)) (e2:atI ts i=some t) (h:Q t S):gIx (.ref p) (.int i) S Q:=⟨t,(tm e).trans e2,h⟩
theorem FF {d:Nat}(hz:a.length<=sizeLine) (e:atI a.cps.toList i=some d) (h:Q (.str ⟨#[d]⟩) S):gIx (.str a) (.int i) S Q:=⟨_,by show (if _ then _ else _)=_;rw [if_pos hz,e];rfl,h⟩
theorem FG {tr:Bool}{lo hi:Option Int}(hz:a.length<=sizeLine) (h:Q (.str (Txt.slice a lo hi)) S):gSl tr (.str a) lo hi S Q:=⟨hz,h⟩
theorem ve {tr:Bool}{lo hi:Option Int}(h:newL tr (dS ts lo hi) S Q):gSl tr (.lst ts) lo hi S Q:=⟨ts,rfl,h⟩
theorem FH {tr:Bool}{lo hi:Option Int}{ns:List Int}(h:newL tr (dS (ns.map T.int) lo hi) S Q):gSl tr (.scr ns) lo hi S Q:=⟨_,rfl,h⟩
theorem dF {α:Type}{ls:List α}(h0:0<=i) (h1:i<ls.length):∃ z,atI ls i=some z/\z∈ls:=by
 have hj:i.toNat<ls.length:=by omega
 refine ⟨ls[i.toNat],?_,List.getElem_mem hj⟩
 have e:((i.toNat:Nat):Int)=i:=by omega
 have:=Aq (xs:=ls) (j:=i.toNat) (v:=ls[i.toNat]) (by simp [hj])
 rw [e] at this
 exact this
theorem lX {α β:Type}{ls:List α}(f:α->β):atI (ls.map f) i=(atI ls i).map f:=by
 unfold atI
 rw [List.length_map]
 cases ixN ls.length i with
 |none=>rfl
 |some j=>simp [List.getElem?_map]
theorem ze {α:Type}{a:α}{l:List α}:atI (a::l) 0=some a:=by
 unfold atI ixN
 rw [if_pos (Int.le_refl 0),if_pos (by simp only [List.length_cons];omega)]
 rfl
theorem Dj (h:Q x S):gIx (.lst (x::ts)) (.int 0) S Q:=⟨x,ze,h⟩
theorem eO (P:T->Prop) (h0:0<=i) (h1:i<ts.length) (hp:∀ t∈ts,P t) (h:∀ t,P t->Q t S):gIx (.lst ts) (.int i) S Q:=by
 obtain ⟨z,e,hz⟩:=dF h0 h1
 exact ⟨z,by simp only [tq,e],h z (hp z hz)⟩
theorem FI {α:Type}{f:α->T}{ls:List α}(h0:0<=i) (h1:i<ls.length) (h:∀ z,z∈ls->atI ls i=some z->Q (f z) S):gIx (.lst (ls.map f)) (.int i) S Q:=by
 obtain ⟨z,e,hz⟩:=dF h0 h1
 exact ⟨f z,by simp only [tq,lX,e,Option.map_some],h z hz e⟩
theorem Dk {α:Type}{f:α->T}{ls:List α}(e:S p=some (.lst (ls.map f))) (h0:0<=i) (h1:i<ls.length) (h:∀ z,z∈ls->atI ls i=some z->Q (f z) S):gIx (.ref p) (.int i) S Q:=by
 obtain ⟨z,e',hz⟩:=dF h0 h1
 exact ⟨f z,by simp only [tm e,lX,e',Option.map_some],h z hz e'⟩
theorem AZ {Q:Sto->Prop}{k:Nat}(e0:i=k) (hk:k<ts.length) (e:ts.set k t=us) (h:Q (put S p (.lst us))):ng k (.ref p) (.int i) t (put S p (.lst ts)) Q:=⟨e0,ts,au,hk,by rw [bD,e];exact h⟩
theorem Dl {Q:Sto->Prop}{k:Nat}(e1:S p=some (.lst ts)) (e0:i=k) (hk:k<ts.length) (e:ts.set k t=us) (h:Q (put S p (.lst us))):ng k (.ref p) (.int i) t S Q:=⟨e0,ts,e1,hk,by rw [e];exact h⟩
theorem FJ {n:Bool}(f:bP x=true) (f2:ts.all bP=true) (h:Q (.bl (n ^^ ts.any λy=>eqF y x)) S):gIn n x (.tup ts) S Q:=.inr (.inl ⟨ts,rfl,f,f2,h⟩)
theorem FK {n:Bool}(e:S p=some (.lst ts)) (f:bP x=true) (f2:ts.all bP=true) (h:Q (.bl (n ^^ ts.any λy=>eqF y x)) S):gIn n x (.ref p) S Q:=.inr (.inr ⟨ts,eD e,f,f2,h⟩)
theorem tF (hz:a.length<=sizeLine) (h:Q (.int a.length) S):kH [.str a] S Q:=⟨_,if_pos hz,h⟩
theorem A0 (e:S p=some (.lst ts)):kG S (.ref p)=some (ts.length:Int):=by
 show (aH S (.ref p)).map (λts=>(ts.length:Int))=_
 rw [eD e];rfl
theorem A1:kG S (.lst ts)=some (ts.length:Int):=rfl
theorem Dm {α:Type}{f:α->T}{ls:List α}(h:Q (.int ls.length) S):kH [.lst (ls.map f)] S Q:=⟨_,by rw [A1,List.length_map],h⟩
theorem j9 {K:Fg}{n:String}{v:Value}{b:Bool}(e:tyT S x=some v) (k:PySem.W.kitOne K v (.type n)=some b) (h:Q (.bl b) S):wt K [x,.ty n] S Q:=⟨v,b,e,k,h⟩
theorem FL (h:Q (.int (if j<i then j else i)) S):wx [.int i,.int j] S Q:=⟨_,_,rfl,h⟩
theorem mI {ns:List Int}(e:dL ts=some ns) (h0:ns≠[]) (h:∀ m,m∈ns->(∀ i∈ns,i<=m)->Q (.int m) S):wu [.lst ts] S Q:=⟨ts,ns,rfl,e,h0,h⟩
theorem tG {bs:List Bool}(e:dU ts=some bs) (h:Q (.bl (bs.all id)) S):ww [.lst ts] S Q:=⟨ts,bs,rfl,e,h⟩
theorem Do {k:Bool}(h:Q (.int (if k then 1 else 0)) S):wy [.bl k] S Q:=h
theorem A2 {tr:Bool}(e:S p=some (.lst ts)) (h:newL tr ts S Q):uZ tr [.ref p] S Q:=⟨ts,eD e,h⟩
theorem A3 {tr:Bool}(h0:c.length≠0) (h1:a.length<=1000) (h:newL tr ((Txt.split a c).map T.str) S Q):tE tr (.str a) [.str c] S Q:=⟨h0,h1,h⟩
theorem rK {zs:List Str}(e:dM ts=some zs) (h0:JoinOk a zs=true) (h:Q (.str (Txt.join a zs)) S):na (.str a) [.lst ts] S Q:=⟨ts,zs,rfl,e,h0,h⟩
theorem rL {zs:List Str}(e0:S p=some (.lst ts)) (e:dM ts=some zs) (h0:JoinOk a zs=true) (h:Q (.str (Txt.join a zs)) S):na (.str a) [.ref p] S Q:=⟨ts,zs,eD e0,e,h0,h⟩
theorem zg (h:Q (.bl (Txt.startswith a c)) S):rG (.str a) [.str c] S Q:=h
theorem qz (e:S p=some (.lst ts)) (h0:ts.length<sizeLine) (h:Q .non (put S p (.lst (ts++[y])))):rH (.ref p) [y] S Q:=⟨ts,e,h0,h⟩
theorem zh (e:S p=some (.lst ts)) (h0:ts.length<sizeLine) (h1:0<=i) (h2:i<2 ^ 62) (h:Q .non (put S p (.lst (ts.take i.toNat++y::ts.drop i.toNat)))):rJ (.ref p) [.int i,y] S Q:=⟨ts,e,h0,h1,h2,h⟩
theorem FM (e:S p=some (.lst ts)) (h1:ts[ts.length - 1]?=some y) (h:Q y (put S p (.lst ts.dropLast))):wz (.ref p) [] S Q:=⟨ts,y,e,h1,h⟩
theorem FN {Q:Prop}(h:Q):tyM "str" S (.str a)/\Q:=⟨rfl,h⟩
theorem FO {Q:Prop}(e:S p=some (.lst ts)) (h:Q):tyM "list" S (.ref p)/\Q:=⟨by delta tyM;dsimp only;rw [e],h⟩
theorem FP {A:List T->Prop}(h:A ts):∃ us,aH S (.lst ts)=some us/\A us:=⟨ts,rfl,h⟩
theorem Hy {ts:List T}{n:Nat}{Q:Prop}(e:ts.length<=sizeLine) (h:Q):ts.length<=sizeLine/\Q:=⟨e,h⟩
theorem Dq (hz:a.length<=sizeLine) (h0:0<=i) (h1:i<a.length) (h:∀ d,d∈a.cps.toList->atI a.cps.toList i=some d->Q (.str ⟨#[d]⟩) S):gIx (.str a) (.int i) S Q:=by
 obtain ⟨d,e,hd⟩:=dF (ls:=a.cps.toList) h0 (by simpa [Str.length] using h1)
 exact FF hz e (h d hd e)
theorem A5 {α:Type}{f:α->T}{ls:List α}(e:S p=some (.lst (ls.map f))) (h:Q (.int ls.length) S):kH [.ref p] S Q:=⟨_,by simp only [A0 e,List.length_map],h⟩
theorem qA {o:O}(h:S p=some o):put S p o=S:=by
 funext b
 unfold put
 split
 ·next e=>rw [e,h]
 ·rfl
theorem Le.put {o:O}(h:S p=Option.none):Le S (T2.put S p o):=λa u e=>by
 have:a≠p:=λz=>by rw [z,h] at e;cases e
 rw [ak this];exact e
theorem qB {a b:Addr}{x y:O}(h:a≠b):T2.put (T2.put S a x) b y=T2.put (T2.put S b y) a x:=by
 funext c
 unfold T2.put
 by_cases h1:c=b
 ·by_cases h2:c=a
  ·exact absurd (h2.symm.trans h1) h
  ·simp [h1,h2,Ne.symm h]
 ·by_cases h2:c=a
  ·simp [h1,h2,h]
  ·simp [h1,h2]
theorem Ds {a b:Addr}{x y z:O}(h:a≠b):T2.put (T2.put (T2.put S a x) b y) a z=T2.put (T2.put S a z) b y:=by
 rw [qB (S:=T2.put S a x) (a:=b) (b:=a) (Ne.symm h),bD]
theorem lf {a b:Addr}{o:O}(h:T2.put S a o b=Option.none):b≠a/\S b=Option.none:=by
 have ne:b≠a:=λz=>by rw [z,au] at h;cases h
 exact ⟨ne,by rw [ak ne] at h;exact h⟩
theorem A6 (z:Str) (ws:List Str):((ws.map T.str).any λy=>eqF y (.str z))=decide (z∈ws):=by
 induction ws with
 |nil=>rfl
 |cons a l ih =>
  rw [List.map_cons,List.any_cons,ih,Bool.eq_iff_iff]
  simp only [EY,Bool.or_eq_true,beq_iff_eq,decide_eq_true_eq,List.mem_cons]
  constructor
  ·rintro (h|h)
   ·exact .inl h.symm
   ·exact .inr h
  ·rintro (h|h)
   ·exact .inl h.symm
   ·exact .inr h
theorem yn (ws:List Str):(ws.map T.str).all bP=true:=by
 induction ws with
 |nil=>rfl
 |cons a l ih=>rw [List.map_cons,List.all_cons,ih];rfl
theorem Du {n:Bool}{ws:List Str}{zz:Str}(e:S p=some (.lst (ws.map T.str))) (h:Q (.bl (n ^^ decide (zz∈ws))) S):gIn n (.str zz) (.ref p) S Q:=FK e rfl (yn ws) (by rw [A6];exact h)
theorem Le.put2 {S1 S2:Sto}{o:O}(l:Le S1 S2):Le (T2.put S1 p o) (T2.put S2 p o):=λa u e=>by
 by_cases h:a=p
 ·subst h;rw [au] at e ⊢;exact e
 ·rw [ak h] at e ⊢;exact l a u e
def bY {α:Type}(ls:List α) (lo hi:Option Int):List α:=(ls.drop (HT.sIx ls.length 0 lo)).take (HT.sIx ls.length ls.length hi - HT.sIx ls.length 0 lo)
theorem qC {α:Type}{f:α->T}{ls:List α}{lo hi:Option Int}:dS (ls.map f) lo hi=(bY ls lo hi).map f:=by
 unfold dS bY
 rw [List.length_map,List.map_take,List.map_drop]
theorem rM {α:Type}{ls:List α}{k:Int}(h:0<=k):bY ls none (some k)=ls.take k.toNat:=by
 unfold bY
 have e:((k.toNat:Nat):Int)=k:=by omega
 rw [<- e,HT.sIx_nat,HT.sIx_none,Int.toNat_natCast,List.drop_zero,Nat.sub_zero,Nat.min_comm,<- List.take_take]
 exact List.take_of_length_le (by rw [List.length_take];omega)
theorem FQ {tr:Bool}{α:Type}{f:α->T}{ls:List α}{lo hi:Option Int}(h:newL tr ((bY ls lo hi).map f) S Q):gSl tr (.lst (ls.map f)) lo hi S Q:=ve (by rw [qC];exact h)
theorem FR {A:Prop}(h0:-(2 ^ 62)<=j) (h1:j<2 ^ 62) (h:A):-(2 ^ 62)<=j/\j<2 ^ 62/\A:=⟨h0,h1,h⟩
theorem ifT {A C:Prop}(h:A):if true=true then A else C:=by rw [if_pos rfl];exact h
theorem ifF {A C:Prop}(h:C):if false=true then A else C:=by rw [if_neg Bool.false_ne_true];exact h
theorem Hz {A C:Prop}(h:C):if (!true)=true then A else C:=ifF h
theorem HA {A C:Prop}(h:A):if (!false)=true then A else C:=ifT h
theorem ifB {b:Bool}{A C:Prop}(h1:b=true->A) (h2:b=false->C):if b=true then A else C:=by
 cases b with
 |true=>exact ifT (h1 rfl)
 |false=>exact ifF (h2 rfl)
end
end T2
namespace S6
open PySem PyProof.Rows
def rk (ρ:Keyed->Nat) (xs:Array Keyed) (i:Nat):Nat:=((xs[i]?).map ρ).getD 0
theorem vf {ρ:Keyed->Nat}{xs ys:Array Keyed}{i j:Nat}(h:xs[i]?=ys[j]?):rk ρ xs i=rk ρ ys j:=by unfold rk;rw [h]
theorem ib {ρ:Keyed->Nat}{xs:Array Keyed}{i j:Nat}(hj:j<=xs.size) (k:Nat) :
  rk ρ (mirror xs i j ((j - i) / 2)) k=rk ρ xs (if i<=k/\k<j then i+j - 1 - k else k):=by
 refine vf ?_
 rw [getElem?_mirror_all hj]
 split<;>rfl
theorem rN {ρ:Keyed->Nat}{xs:Array Keyed}{n d:Nat}(hn:n<xs.size) (hd:d<=n) (k:Nat) :
  rk ρ (bubble xs n d) k=rk ρ xs (if k=n - d then n else if n - d<k/\k<=n then k - 1 else k):=by
 refine vf ?_
 rw [getElem?_bubble hn d hd]
 split
 ·rfl
 ·split<;>rfl
def Up (ρ:Keyed->Nat) (xs:Array Keyed) (n:Nat):Prop:=∀ i j,i<=j->j<n->rk ρ xs i<=rk ρ xs j
def Dn (ρ:Keyed->Nat) (xs:Array Keyed) (n:Nat):Prop:=∀ i j,i<=j->j<n->rk ρ xs j<=rk ρ xs i
structure Ok (kd:SortKind) (a₀:Array Keyed) (st:SortSt):Prop where
 perm:(arrOf st).Perm a₀
 kind:kindOf st=kd
 well:failedOf st=none
 runs:pendingOf st=#[]
theorem Ok.sz {kd a₀ st}(o:Ok kd a₀ st):(arrOf st).size=a₀.size:=o.perm.size_eq
theorem Ok.arr {kd a₀ st xs}(o:Ok kd a₀ st) (h:xs.Perm (arrOf st)):Ok kd a₀ (setArr st xs):=⟨h.trans o.perm,o.kind,o.well,o.runs⟩
def Cm (prog:Program) (w:World) (A:Around) (s:Shared) (kd:SortKind) (a₀:Array Keyed) (ρ:Keyed->Nat):Prop :=
 ∀ x y,x∈a₀.toList->y∈a₀.toList->∀ (E:Value->Shared->Prop) (Q:Bool->Shared->Prop),Q (decide (ρ x<ρ y)) s->wpAny (model prog w) A (keyLt' kd x.1 y.1) Q E s
section
variable {prog:Program}{w:World}{A:Around}{E:Value->Shared->Prop}{s:Shared}{a₀:Array Keyed}{kd:SortKind}{ρ:Keyed->Nat}{st:SortSt}
theorem ie {i j:Nat}{Q:Option Bool->SortSt->Prop}(C:Cm prog w A s kd a₀ ρ) (o:Ok kd a₀ st) (hi:i<a₀.size) (hj:j<a₀.size) (h:Q (some (decide (rk ρ (arrOf st) i<rk ρ (arrOf st) j))) st) :
  wpS (model prog w) A E s (ltAt' i j) Q st:=by
 have get:∀ k,k<a₀.size->∃ p,(arrOf st)[k]?=some p/\p∈a₀.toList:=λk hk=>by
  have hk':k<(arrOf st).size:=by rw [o.sz];exact hk
  exact ⟨_,getElem?_pos _ k hk',(Array.perm_iff_toList_perm.mp o.perm).mem_iff.mp (by simp)⟩
 obtain ⟨p,ep,mp⟩:=get i hi
 obtain ⟨q,eq,mq⟩:=get j hj
 have h':Q (some (decide (ρ p<ρ q))) st:=by unfold rk at h;rw [ep,eq] at h;exact h
 rw [ltAt'_eq]
 refine wpS_bind (wpS_get ?_)
 dsimp only
 rw [elem'_eq,ep]
 refine wpS_bind (wpS_pure ?_)
 rw [elem'_eq,eq]
 refine wpS_bind (wpS_pure ?_)
 rw [lt'_eq]
 refine wpS_bind (wpS_get (wpS_bind ?_))
 rw [o.kind]
 exact wpS_lift (wpAny_attempt (C p q mp mq _ _ ⟨rfl,wpS_pure h'⟩))
theorem vg {a n:Nat}{Q:AscSt->SortSt->Prop}(C:Cm prog w A s kd a₀ ρ) (o:Ok kd a₀ st) (hn:n<=a₀.size) (h1:1<=a) (ha:a<=n) (u:Up ρ (arrOf st) a)
  (h:∀ m,a<=m->m<=n->Up ρ (arrOf st) m->(m<n->rk ρ (arrOf st) m<rk ρ (arrOf st) (m - 1))->Q (none,m) st):wpS (model prog w) A E s (ascLoop a n) Q st:=by
 unfold ascLoop
 refine wpS_forRange (λk c z=>z=st/\c=(none,k)/\Up ρ (arrOf st) k) ?_ ?_ ⟨rfl,rfl,u⟩
 ·rintro k c z l1 l2 ⟨rfl,rfl,uk⟩
  refine wpS_bind (ie C o (by dsimp only;omega) (by dsimp only;omega) ?_)
  dsimp only
  by_cases g:rk ρ (arrOf z) k<rk ρ (arrOf z) (k - 1)
  ·rw [decide_eq_true g]
   exact wpS_pure (h k l1 (by omega) uk λ_=>g)
  ·rw [decide_eq_false g]
   refine wpS_pure ⟨rfl,rfl,λi j ij jk=>?_⟩
   rcases Nat.lt_or_ge j k with q|q
   ·exact uk i j ij q
   ·obtain rfl:j=k:=by omega
    rcases Nat.lt_or_ge i j with q|q
    ·have:=uk i (j - 1) (by omega) (by omega)
     omega
    ·obtain rfl:i=j:=by omega
     exact Nat.le_refl _
 ·rintro c z ⟨rfl,rfl,uk⟩
  rw [Nat.max_eq_right ha] at uk ⊢
  exact h n ha (Nat.le_refl _) uk λq=>absurd q (Nat.lt_irrefl _)
theorem tH {m n:Nat}{Q:Option Nat->SortSt->Prop}(C:Cm prog w A s kd a₀ ρ) (o:Ok kd a₀ st) (hn:n<=a₀.size) (h1:1<=m) (hm:m<=n) (d:Dn ρ (arrOf st) m)
  (h:∀ k z,Ok kd a₀ z->1<=k->k<=n->Up ρ (arrOf z) k->Q (some k) z):wpS (model prog w) A E s (tail3 m n) Q st:=by
 unfold tail3
 refine wpS_bind (wpS_reverse ?_)
 have o':Ok kd a₀ (setArr st (mirror (arrOf st) 0 m ((m - 0) / 2))):=o.arr (mirror_perm _ _ _ _)
 refine wpS_bind (vg C o' hn h1 hm (λi j ij jm=>?_) λk k1 k2 uk _=>wpS_pure (h k _ o' (by omega) k2 uk))
 show rk ρ (mirror (arrOf st) 0 m ((m - 0) / 2)) i<=rk ρ (mirror (arrOf st) 0 m ((m - 0) / 2)) j
 rw [ib (by rw [o.sz];omega),ib (by rw [o.sz];omega),if_pos (by omega),if_pos (by omega)]
 exact d _ _ (by omega) (by omega)
def Lk (ρ:Keyed->Nat) (xs:Array Keyed) (m e:Nat):Prop:=e+1<=m/\∀ i,m - (e+1)<=i->i<m->rk ρ xs i=rk ρ xs (m - 1)
theorem Lk.rev {xs:Array Keyed}{m e:Nat}(l:Lk ρ xs m e) (hm:m<=xs.size) (k:Nat):rk ρ (mirror xs (m - (e+1)) m ((m - (m - (e+1))) / 2)) k=rk ρ xs k:=by
 rw [ib hm]
 split
 ·rename_i q
  rw [l.2 _ (by have:=l.1;omega) (by omega),l.2 k q.1 q.2]
 ·rfl
theorem Dv {m n:Nat}{Q:DescSt->SortSt->Prop}(C:Cm prog w A s kd a₀ ρ) (o:Ok kd a₀ st) (hn:n<=a₀.size) (h1:1<=m) (hm:m<=n) (d:Dn ρ (arrOf st) m)
  (h:∀ k e z,Ok kd a₀ z->m<=k->k<=n->Dn ρ (arrOf z) k->Lk ρ (arrOf z) k e->Q (none,k,e) z):wpS (model prog w) A E s (descLoop m n) Q st:=by
 unfold descLoop
 refine wpS_forRange (λk c z=>∃ e,c=(none,k,e)/\Ok kd a₀ z/\Dn ρ (arrOf z) k/\Lk ρ (arrOf z) k e) ?_ ?_ ⟨0,rfl,o,d,h1,λi i1 i2=>by rw [show i=m - 1 by omega]⟩
 ·rintro k c z l1 l2 ⟨e,rfl,oz,dz,lz⟩
  refine wpS_bind (ie C oz (by dsimp only;omega) (by dsimp only;omega) ?_)
  dsimp only
  have more:∀ xs:Array Keyed,(∀ i,rk ρ xs i=rk ρ (arrOf z) i)->rk ρ (arrOf z) k<=rk ρ (arrOf z) (k - 1)->Dn ρ xs (k+1):=λxs hx le i j ij jk=>by
   rw [hx,hx]
   rcases Nat.lt_or_ge j k with q|q
   ·exact dz i j ij q
   ·obtain rfl:j=k:=by omega
    rcases Nat.lt_or_ge i j with q|q
    ·have:=dz i (j - 1) (by omega) (by omega)
     omega
    ·obtain rfl:i=j:=by omega
     exact Nat.le_refl _
  by_cases g:rk ρ (arrOf z) k<rk ρ (arrOf z) (k - 1)
  ·rw [decide_eq_true g]
   simp only [if_true]
   split
   ·refine wpS_bind (wpS_reverse (wpS_pure ⟨0,rfl,oz.arr (mirror_perm _ _ _ _),more _ (lz.rev (by rw [oz.sz];omega)) (by omega),by omega,λi i1 i2=>by rw [show i=k+1 - 1 by omega]⟩))
   ·exact wpS_pure ⟨0,rfl,oz,more _ (λ_=>rfl) (by omega),by omega,λi i1 i2=>by rw [show i=k+1 - 1 by omega]⟩
  ·rw [decide_eq_false g]
   simp only [Bool.false_eq_true,if_false]
   refine wpS_bind (ie C oz (by omega) (by omega) ?_)
   by_cases g2:rk ρ (arrOf z) (k - 1)<rk ρ (arrOf z) k
   ·rw [decide_eq_true g2]
    simp only [if_true]
    exact wpS_pure (h k e z oz l1 (by omega) dz lz)
   ·rw [decide_eq_false g2]
    simp only [Bool.false_eq_true,if_false]
    refine wpS_pure ⟨e+1,rfl,oz,more _ (λ_=>rfl) (by omega),by have:=lz.1;omega,λi i1 i2=>?_⟩
    rw [show k+1 - 1=k by omega]
    rcases Nat.lt_or_ge i k with q|q
    ·rw [lz.2 i (by omega) q];omega
    ·rw [show i=k by omega]
 ·rintro c z ⟨e,rfl,oz,dz,lz⟩
  rw [Nat.max_eq_right hm] at dz lz ⊢
  exact h n e z oz hm (Nat.le_refl _) dz lz
theorem pv {m n:Nat}{Q:Option Nat->SortSt->Prop}(C:Cm prog w A s kd a₀ ρ) (o:Ok kd a₀ st) (hn:n<=a₀.size) (hm:m+1<=n) (d:Dn ρ (arrOf st) (m+1))
  (h:∀ k z,Ok kd a₀ z->1<=k->k<=n->Up ρ (arrOf z) k->Q (some k) z):wpS (model prog w) A E s (descPart m n) Q st:=by
 unfold descPart
 refine wpS_bind (wpS_lift (wpAny_rule ⟨rfl,wpS_bind (Dv C o hn (by omega) hm d λk e z oz k1 k2 dz lz=>?_)⟩))
 dsimp only
 split
 ·refine wpS_bind (wpS_reverse (tH C (oz.arr (mirror_perm _ _ _ _)) hn (by omega) k2 (λi j ij jk=>?_) h))
  have e:=lz.rev (by rw [oz.sz];omega)
  show rk ρ (mirror _ _ _ _) j<=rk ρ (mirror _ _ _ _) i
  rw [e,e]
  exact dz i j ij jk
 ·exact tH C oz hn (by omega) k2 dz h
theorem A7 {n:Nat}{Q:Option Nat->SortSt->Prop}(C:Cm prog w A s kd a₀ ρ) (o:Ok kd a₀ st) (hn:n<=a₀.size) (h1:1<=n)
  (h:∀ k z,Ok kd a₀ z->1<=k->k<=n->Up ρ (arrOf z) k->Q (some k) z):wpS (model prog w) A E s (countRun' 0 n) Q st:=by
 rw [countRun0_eq]
 refine wpS_bind (vg C o hn (Nat.le_refl _) h1 (λi j ij j1=>by rw [show i=j by omega];exact Nat.le_refl _) λm m1 m2 um lm=>?_)
 dsimp only
 split
 ·rename_i q
  exact wpS_pure (h m st o m1 m2 um)
 ·rename_i q
  have mn:m<n:=by
   rcases Nat.lt_or_ge m n with z|z
   ·exact z
   ·exact (q (beq_iff_eq.mpr (by omega))).elim
  have gm:=lm mn
  split
  ·refine wpS_bind (ie C o (by omega) (by omega) ?_)
   dsimp only
   by_cases g:rk ρ (arrOf st) 0<rk ρ (arrOf st) (m - 1)
   ·rw [decide_eq_true g]
    exact wpS_pure (h m st o m1 m2 um)
   ·rw [decide_eq_false g]
    refine wpS_bind (wpS_reverse (pv C (o.arr (mirror_perm _ _ _ _)) hn mn (λi j ij jm=>?_) h))
    have all:∀ i,i<m->rk ρ (arrOf st) i=rk ρ (arrOf st) (m - 1):=λi im=>by
     have a1:=um 0 i (by omega) im
     have a2:=um i (m - 1) (by omega) (by omega)
     omega
    show rk ρ (mirror _ _ _ _) j<=rk ρ (mirror _ _ _ _) i
    rw [ib (by rw [o.sz];omega),ib (by rw [o.sz];omega)]
    rcases Nat.lt_or_ge j m with q1|q1
    ·rw [if_pos (by omega),if_pos (by omega),all _ (by omega),all (0+m - 1 - i) (by omega)]
     exact Nat.le_refl _
    ·obtain rfl:j=m:=by omega
     rw [if_neg (by omega)]
     split
     ·rw [all (0+j - 1 - i) (by omega)];omega
     ·rw [show i=j by omega];exact Nat.le_refl _
  ·refine pv C o hn mn (λi j ij jm=>?_) h
   obtain rfl:m=1:=by omega
   rcases Nat.lt_or_ge i j with q1|q1
   ·obtain ⟨rfl,rfl⟩:i=0/\j=1:=by omega
    exact Nat.le_of_lt gm
   ·rw [show i=j by omega];exact Nat.le_refl _
theorem FS {n ok:Nat}{Q:Bool->SortSt->Prop}(C:Cm prog w A s kd a₀ ρ) (o:Ok kd a₀ st) (hn:n<=a₀.size) (hk:ok<=n) (u:Up ρ (arrOf st) ok)
  (h:∀ z,Ok kd a₀ z->Up ρ (arrOf z) n->Q true z):wpS (model prog w) A E s (binarySort' 0 n ok) Q st:=by
 rw [binarySort'_eq]
 simp only [Nat.zero_add]
 have first:∀ {k:Nat},k<=max ok 1->Up ρ (arrOf st) k:=fun {k} hk1 i j ij jk=>by
  rcases Nat.lt_or_ge j ok with q|q
  ·exact u i j ij q
  ·rw [show i=j by omega];exact Nat.le_refl _
 refine wpS_bind (wpS_mono (wpS_forRange (λk c z=>c=(none,())/\Ok kd a₀ z/\∀ i,i<=k->i<=n->Up ρ (arrOf z) i) (Q:=λc z=>c=(none,())/\Ok kd a₀ z/\Up ρ (arrOf z) n) ?_ ?_ ⟨rfl,o,λi i1 _=>first i1⟩) ?_)
 ·rintro k c z l1 l2 ⟨rfl,oz,uz⟩
  have uk:=uz k (Nat.le_refl _) (by omega)
  have kz:k<(arrOf z).size:=by rw [oz.sz];omega
  refine wpS_bind (wpS_mono (wpS_forRange
   (λi c y=>y=z/\∃ l r,c=(none,l,r)/\l<=r/\r<=k/\r+i<=l+k/\(∀ j,j<l->rk ρ (arrOf z) j<=rk ρ (arrOf z) k)/\∀ j,r<=j->j<k->rk ρ (arrOf z) k<rk ρ (arrOf z) j)
   (Q:=λc y=>y=z/\∃ l r,c=(none,l,r)/\l<=k/\(∀ j,j<l->rk ρ (arrOf z) j<=rk ρ (arrOf z) k)/\∀ j,l<=j->j<k->rk ρ (arrOf z) k<rk ρ (arrOf z) j) ?_ ?_
   ⟨rfl,0,k,rfl,Nat.zero_le _,Nat.le_refl _,by omega,λj j0=>absurd j0 (Nat.not_lt_zero _),λj j1 j2=>by omega⟩) ?_)
  ·rintro i c y i1 i2 ⟨rfl,l,r,rfl,lr,rk',lk,lo,hi⟩
   dsimp only
   split
   ·obtain rfl:l=r:=by omega
    exact wpS_pure ⟨rfl,l,l,rfl,rk',lo,hi⟩
   ·refine wpS_bind (ie C oz (by omega) (by omega) ?_)
    by_cases g:rk ρ (arrOf y) k<rk ρ (arrOf y) ((l+r) / 2)
    ·rw [decide_eq_true g]
     refine wpS_pure ⟨rfl,l,(l+r) / 2,rfl,by omega,by omega,by omega,lo,λj j1 j2=>?_⟩
     exact Nat.lt_of_lt_of_le g (uk _ _ j1 j2)
    ·rw [decide_eq_false g]
     refine wpS_pure ⟨rfl,(l+r) / 2+1,r,rfl,by omega,rk',by omega,λj j1=>?_,hi⟩
     exact Nat.le_trans (uk _ _ (by omega) (by omega)) (Nat.le_of_not_lt g)
  ·rintro c y ⟨rfl,l,r,rfl,lr,rk',lk,lo,hi⟩
   obtain rfl:l=r:=by omega
   exact ⟨rfl,l,l,rfl,rk',lo,hi⟩
  ·rintro c y ⟨rfl,l,r,rfl,lk,lo,hi⟩
   dsimp only
   rw [moveDown'_eq]
   refine wpS_bind (wpS_modify (wpS_pure ⟨rfl,oz.arr (bubble_perm _ _ _),λm m1 m2 i j ij jm=>?_⟩))
   show rk ρ (bubble (arrOf y) k (k - l)) i<=rk ρ (bubble (arrOf y) k (k - l)) j
   rw [rN kz (by omega),rN kz (by omega),show k - (k - l)=l by omega]
   rcases Nat.lt_trichotomy j l with q|q|q
   ·rw [if_neg (by omega),if_neg (by omega),if_neg (by omega),if_neg (by omega)]
    exact uk _ _ ij (by omega)
   ·rw [if_pos q]
    split
    ·exact Nat.le_refl _
    ·rw [if_neg (by omega)]
     exact lo _ (by omega)
   ·rw [if_neg (show ¬ j=l by omega),if_pos (show l<j/\j<=k by omega)]
    split
    ·exact Nat.le_of_lt (hi _ (by omega) (by omega))
    ·split
     ·exact uk _ _ (by omega) (by omega)
     ·exact uk _ _ (by omega) (by omega)
 ·rintro c z ⟨e,oz,uz⟩
  exact ⟨e,oz,uz n (by omega) (Nat.le_refl _)⟩
 ·rintro c z ⟨rfl,oz,uz⟩
  exact wpS_pure (h z oz uz)
theorem Dx {Q:Unit->SortSt->Prop}(C:Cm prog w A s kd a₀ ρ) (o:Ok kd a₀ st) (h2:2<=a₀.size) (h64:a₀.size<64)
  (h:∀ z,(arrOf z).Perm a₀->failedOf z=none->Up ρ (arrOf z) a₀.size->Q () z):wpS (model prog w) A E s sortRuns' Q st:=by
 rw [sortRuns'_eq]
 refine wpS_bind (wpS_get ?_)
 dsimp only
 have run:minRun' a₀.size a₀.size 0=a₀.size:=by
  have:∀ f,0<f->minRun' f a₀.size 0=a₀.size:=λf hf=>by
   cases f with
   |zero=>omega
   |succ f=>rw [minRun'_succ,if_pos h64];rfl
  exact this _ (by omega)
 simp only [o.sz,run]
 let D:SortSt->Prop:=λz=>(arrOf z).Perm a₀/\failedOf z=none/\(pendingOf z).size=1/\Up ρ (arrOf z) a₀.size
 have fin:∀ z,Ok kd a₀ z->Up ρ (arrOf z) a₀.size->D (setPending z ((pendingOf z).push (0,a₀.size,0))):=λz oz uz=>⟨oz.perm,oz.well,by rw [show pendingOf (setPending z ((pendingOf z).push (0,a₀.size,0)))=(pendingOf z).push (0,a₀.size,0) from rfl,oz.runs];rfl,uz⟩
 refine wpS_bind (wpS_mono (wpS_forRange (λk c z=>(k=0/\c=(none,0)/\Ok kd a₀ z)\/(0<k/\c=(none,a₀.size)/\D z)) (Q:=λc z=>c=(none,a₀.size)/\D z) ?_ ?_ (.inl ⟨rfl,rfl,o⟩)) ?_)
 ·rintro k c z l1 l2 (⟨rfl,rfl,oz⟩|⟨k0,rfl,dz⟩)
  ·dsimp only
   rw [if_neg (by omega)]
   simp only [Nat.sub_zero,Nat.min_self,Nat.zero_add]
   refine wpS_bind (A7 C oz (Nat.le_refl _) (by omega) λm y oy m1 m2 uy=>?_)
   have none':∀ {x:SortSt},Ok kd a₀ x->(pendingOf x).back?=none:=λox=>by rw [ox.runs];rfl
   dsimp only
   split
   ·refine wpS_bind (wpS_lift (wpAny_rule ⟨rfl,wpS_bind (FS C oy (Nat.le_refl _) m2 uy λx ox ux=>?_)⟩))
    simp only [Bool.not_true,Bool.false_eq_true,if_false]
    refine wpS_bind (wpS_get ?_)
    rw [none' ox]
    exact wpS_bind (wpS_modify (wpS_pure (.inr ⟨Nat.one_pos,rfl,fin x ox ux⟩)))
   ·obtain rfl:m=a₀.size:=by omega
    refine wpS_bind (wpS_get ?_)
    rw [none' oy]
    exact wpS_bind (wpS_modify (wpS_pure (.inr ⟨Nat.one_pos,rfl,fin y oy uy⟩)))
  ·dsimp only
   rw [if_pos (Nat.le_refl _)]
   exact wpS_pure ⟨rfl,dz⟩
 ·rintro c z (⟨e,_⟩|⟨_,e,dz⟩)
  ·omega
  ·exact ⟨e,dz⟩
 ·rintro c z ⟨rfl,dz⟩
  dsimp only
  refine wpS_bind (wpS_mono (wpS_forRange (λ_ c y=>y=z/\c=(none,())) (Q:=λc y=>y=z/\c=(none,())) ?_ (λ_ _ e=>e) ⟨rfl,rfl⟩) ?_)
  ·rintro k c y _ _ ⟨rfl,rfl⟩
   refine wpS_bind (wpS_get ?_)
   rw [if_pos (by rw [dz.2.2.1];exact Nat.le_refl 1)]
   exact wpS_pure ⟨rfl,rfl⟩
  ·rintro c y ⟨rfl,rfl⟩
   exact wpS_pure (h _ dz.1 dz.2.1 dz.2.2.2)
end
end S6
namespace S6
open PySem PyProof.Rows PySem.SeqAt
inductive Ky where
 |i (n:Int)|s (x:Str)|tt (v:Bool)|nil|cons (h t:Ky)
 deriving DecidableEq
namespace Ky
mutual
def dat:Ky->PyData
 |.i n=>.int n
 |.s x=>.str x
 |.tt v=>.bool v
 |.nil=>.tuple []
 |.cons h t=>.tuple (dat h::row t)
def row:Ky->List PyData
 |.cons h t=>dat h::row t
 |_=>[]
end
def shp:Ky->Ky->Bool
 |.i _,.i _=>true
 |.s _,.s _=>true
 |.tt _,.tt _=>true
 |.nil,.nil=>true
 |.cons h t,.cons h' t'=>shp h h'&&shp t t'
 |_,_=>false
def lt:Ky->Ky->Bool
 |.i a,.i b=>decide (a<b)
 |.s a,.s b=>decide (a.cps.toList<b.cps.toList)
 |.tt a,.tt b=>!a&&b
 |.cons h t,.cons h' t'=>if h=h' then lt t t' else lt h h'
 |_,_=>false
def ok:Ky->Bool
 |.tt _=>false
 |.cons h t=>ok h&&ok t&&isRow t
 |_=>true
where isRow:Ky->Bool
 |.nil=>true
 |.cons _ _=>true
 |_=>false
def dep:Ky->Nat
 |.nil=>1
 |.cons h t=>max (dep h+1) (dep t)
 |_=>0
theorem bQ {h t h' t':Ky}:shp (.cons h t) (.cons h' t')=(shp h h'&&shp t t'):=rfl
theorem bR {a b:Int}:lt (.i a) (.i b)=decide (a<b):=rfl
theorem bS {a b:Str}:lt (.s a) (.s b)=decide (a.cps.toList<b.cps.toList):=rfl
theorem bT {a b:Bool}:lt (.tt a) (.tt b)=(!a&&b):=rfl
theorem bi {h t h' t':Ky}:lt (.cons h t) (.cons h' t')=if h=h' then lt t t' else lt h h':=rfl
theorem eQ {h t:Ky}:ok (.cons h t)=(ok h&&ok t&&ok.isRow t):=rfl
theorem kc {h t:Ky}:dep (.cons h t)=max (dep h+1) (dep t):=rfl
theorem Dy {a b:Str}(h:a≠b):a.cps.toList≠b.cps.toList:=λe=>h (by
 cases a;cases b
 simp only [Str.mk.injEq] at h ⊢
 exact Array.toList_inj.mp e)
theorem tri:∀ {x y:Ky},shp x y=true->lt x y=true\/x=y\/lt y x=true
 |.i a,.i b,_=>by
  simp only [bR,bS,bT,bi,decide_eq_true_eq,Ky.i.injEq];omega
 |.s a,.s b,_=>by
  simp only [bR,bS,bT,bi,decide_eq_true_eq,Ky.s.injEq]
  by_cases e:a=b
  ·exact .inr (.inl e)
  ·by_cases l:a.cps.toList<b.cps.toList
   ·exact .inl l
   ·refine .inr (.inr ?_)
    rcases List.le_iff_lt_or_eq.mp (List.not_lt.mp l) with z|z
    ·exact z
    ·exact (Dy e z.symm).elim
 |.tt a,.tt b,_=>by cases a<;>cases b<;>simp [bR,bS,bT,bi]
 |.nil,.nil,_=>.inr (.inl rfl)
 |.cons h t,.cons h' t',e=>by
  simp only [bQ,Bool.and_eq_true] at e
  by_cases q:h=h'
  ·subst q
   rcases tri e.2 with z|z|z
   ·exact .inl (by simp [bR,bS,bT,bi,z])
   ·exact .inr (.inl (by rw [z]))
   ·exact .inr (.inr (by simp [bR,bS,bT,bi,z]))
  ·rcases tri e.1 with z|z|z
   ·exact .inl (by simp [bR,bS,bT,bi,q,z])
   ·exact (q z).elim
   ·exact .inr (.inr (by simp [bR,bS,bT,bi,Ne.symm q,z]))
theorem irr:∀ x:Ky,lt x x=false
 |.i _=>by simp [bR,bS,bT,bi]
 |.s x=>by simp only [bR,bS,bT,bi,decide_eq_false_iff_not];exact List.lt_irrefl _
 |.tt v=>by cases v<;>rfl
 |.nil=>rfl
 |.cons h t=>by simp [bR,bS,bT,bi,irr t]
theorem trans:∀ {x y z:Ky},shp x y=true->shp y z=true->lt x y=true->lt y z=true->lt x z=true
 |.i a,.i b,.i c,_,_,p,q=>by simp only [bR,bS,bT,bi,decide_eq_true_eq] at *;omega
 |.s a,.s b,.s c,_,_,p,q=>by simp only [bR,bS,bT,bi,decide_eq_true_eq] at *;exact List.lt_trans p q
 |.tt a,.tt b,.tt c,_,_,p,q=>by cases a<;>cases b<;>cases c<;>simp [bR,bS,bT,bi] at *
 |.cons h t,.cons h' t',.cons h2 t2,e,f,p,q=>by
  simp only [bQ,Bool.and_eq_true] at e f
  simp only [bR,bS,bT,bi] at p q ⊢
  by_cases a:h=h'
  ·subst a
   rw [if_pos rfl] at p
   by_cases b:h=h2
   ·subst b
    rw [if_pos rfl] at q ⊢
    exact trans e.2 f.2 p q
   ·rw [if_neg b] at q ⊢;exact q
  ·rw [if_neg a] at p
   by_cases b:h'=h2
   ·subst b
    rw [if_neg a];exact p
   ·rw [if_neg b] at q
    have:=trans e.1 f.1 p q
    rw [if_neg (λz=>by rw [z,irr] at this;cases this)]
    exact this
theorem HB {x y:Ky}(h:shp x y=true) (p:lt x y=true):lt y x=false:=by
 cases q:lt y x with
 |false=>rfl
 |true =>
  have h':shp y x=true:=by
   have:∀ {a b:Ky},shp a b=true->shp b a=true:=by
    intro a
    induction a with
    |cons u v iu iv =>
     intro b e
     cases b with
     |cons=>simp only [bQ,Bool.and_eq_true] at e ⊢;exact ⟨iu e.1,iv e.2⟩
     |_=>cases e
    |_=>intro b e;cases b<;>first|rfl|cases e
   exact this h
  have:=trans h h' p q
  rw [irr] at this;cases this
theorem zi:∀ {a b:Ky},shp a b=true->shp b a=true:=by
 intro a
 induction a with
 |cons u v iu iv =>
  intro b e
  cases b with
  |cons=>simp only [bQ,Bool.and_eq_true] at e ⊢;exact ⟨iu e.1,iv e.2⟩
  |_=>cases e
 |_=>intro b e;cases b<;>first|rfl|cases e
theorem jz:∀ {x y:Ky},shp x y=true->ok x=true->PyData.eqv (dat x) (dat y)=decide (x=y)/\(ok.isRow x=true->PyData.eqvAll (row x) (row y)=decide (x=y))
 |.i a,.i b,_,_=>⟨by simp only [dat,PyData.eqv,Ky.i.injEq];rfl,λh=>by cases h⟩
 |.s a,.s b,_,_=>⟨by simp only [dat,PyData.eqv,Ky.s.injEq];rfl,λh=>by cases h⟩
 |.tt a,.tt b,_,_=>⟨by cases a<;>cases b<;>rfl,λh=>by cases h⟩
 |.nil,.nil,_,_=>⟨rfl,λ_=>rfl⟩
 |.cons h t,.cons h' t',e,o=>by
  simp only [bQ,Bool.and_eq_true] at e
  simp only [eQ,Bool.and_eq_true] at o
  have h1:=(jz e.1 o.1.1).1
  have h2:=(jz e.2 o.1.2).2 o.2
  have z:PyData.eqvAll (dat h::row t) (dat h'::row t')=decide (Ky.cons h t=Ky.cons h' t'):=by
   simp only [PyData.eqvAll,h1,h2,Ky.cons.injEq,Bool.decide_and]
  exact ⟨by simp only [dat,PyData.eqv];exact z,λ_=>by simp only [row];exact z⟩
end Ky
end S6
namespace S6
open PySem PyProof.Rows PySem.SeqAt
theorem tI {α:Type}{p q:α->Bool}{x:α}:∀ {l:List α},(∀ z∈l,p z=true->q z=true)->x∈l->p x=false->q x=true->l.countP p<l.countP q
 |[],_,h,_,_=>by cases h
 |y::l,m,h,px,qx=>by
  have ml:∀ z∈l,p z=true->q z=true:=λz hz=>m z (List.mem_cons_of_mem _ hz)
  have le:=List.countP_mono_left ml
  rw [List.countP_cons,List.countP_cons]
  rcases List.mem_cons.mp h with rfl|h
  ·simp only [px,qx,Bool.false_eq_true,if_false,if_true];omega
  ·have ih:=tI ml h px qx
   have:(if p y=true then 1 else 0)<=if q y=true then 1 else 0:=by
    split
    ·rw [if_pos (m y (List.mem_cons_self ..) ‹_›)];exact Nat.le_refl _
    ·exact Nat.zero_le _
   omega
def rnk (ks:List Ky) (x:Ky):Nat:=ks.countP λz=>Ky.lt z x
theorem tJ {ks:List Ky}(hs:∀ x∈ks,∀ y∈ks,Ky.shp x y=true){x y:Ky}(hx:x∈ks) (hy:y∈ks):decide (rnk ks x<rnk ks y)=Ky.lt x y:=by
 cases e:Ky.lt x y with
 |true=>exact decide_eq_true (tI (λz hz l=>Ky.trans (hs z hz x hx) (hs x hx y hy) l e) hx (Ky.irr x) e)
 |false =>
  refine decide_eq_false (Nat.not_lt.mpr (List.countP_mono_left λz hz l=>?_))
  rcases Ky.tri (hs x hx y hy) with q|q|q
  ·rw [e] at q;cases q
  ·rw [q];exact l
  ·exact Ky.trans (hs z hz y hy) (hs y hy x hx) l q
inductive Cp where
 |lt|gt|ge|le
def cop:Cp->CmpOp
 |.lt=>.Lt
 |.gt=>.Gt
 |.ge=>.GtE
 |.le=>.LtE
def gl (g:Cp) (x y:Ky):Bool:=match g with
 |.lt=>Ky.lt x y
 |.gt=>Ky.lt y x
 |.ge=>!Ky.lt x y
 |.le=>!Ky.lt y x
def kI:CmpOp->Bool
 |.GtE=>true
 |.LtE=>true
 |_=>false
def dh (A:Around) (s:Shared) (op:CmpOp) (x y:Value) (c:Bool):Prop :=
 ∀ (prog:Program) (w:World) (E:Value->Shared->Prop) (Q:Value->Shared->Prop),Q (.bool c) s->wpAny (model prog w) A (richCompare op x y) Q E s
inductive LexAt (A:Around) (s:Shared) (op:CmpOp):List Value->List Value->Bool->Prop
 |nil:LexAt A s op [] [] (kI op)
 |same {x y xs ys c}:EqAt A s x y true->LexAt A s op xs ys c->LexAt A s op (x::xs) (y::ys) c
 |diff {x y xs ys c}:EqAt A s x y false->dh A s op x y c->LexAt A s op (x::xs) (y::ys) c
def fT (op:CmpOp) (us vs:List Value) (n m:Nat):Sem Fin:=do
 for (x,y) in us.zip vs do
  if !(<- eqBool x y) then
   rule "tuple.compare.by-the-first-pair-that-differs";return <- ret (<- richCompare op x y)
 ret (Builtin.Tuple.tupleCompareSizes op n m)
theorem yo (a b:Value):Builtin.«tuple.__lt__» ⟨[a,b],[]⟩=(do
  if !(<- isInstance b (.type "tuple")) then return <- ret .notImplemented
  let xs <- Builtin.Tuple.tupleItemsOf a
  let ys <- Builtin.Tuple.tupleItemsOf b
  fT .Lt xs.toList ys.toList xs.size ys.size):=rfl
theorem yp (a b:Value):Builtin.«tuple.__le__» ⟨[a,b],[]⟩=(do
  if !(<- isInstance b (.type "tuple")) then return <- ret .notImplemented
  let xs <- Builtin.Tuple.tupleItemsOf a
  let ys <- Builtin.Tuple.tupleItemsOf b
  fT .LtE xs.toList ys.toList xs.size ys.size):=rfl
theorem yq (a b:Value):Builtin.«tuple.__ge__» ⟨[a,b],[]⟩=(do
  if !(<- isInstance b (.type "tuple")) then return <- ret .notImplemented
  let xs <- Builtin.Tuple.tupleItemsOf a
  let ys <- Builtin.Tuple.tupleItemsOf b
  fT .GtE xs.toList ys.toList xs.size ys.size):=rfl
theorem yr (a b:Value):Builtin.«tuple.__gt__» ⟨[a,b],[]⟩=(do
  if !(<- isInstance b (.type "tuple")) then return <- ret .notImplemented
  let xs <- Builtin.Tuple.tupleItemsOf a
  let ys <- Builtin.Tuple.tupleItemsOf b
  fT .Gt xs.toList ys.toList xs.size ys.size):=rfl
section
variable {A:Around}{s:Shared}
theorem jQ {g:Cp}{prog:Program}{w:World}{E:Value->Shared->Prop}{P:Fin->Shared->Prop}{us vs:List Value}{c:Bool}(L:LexAt A s (cop g) us vs c){n m:Nat}(hnm:n=m)
  (h:P (.done (.ret (.bool c))) s):wpAny (model prog w) A (fT (cop g) us vs n m) P E s:=by
 unfold fT
 refine wpAny_bind ?_
 refine wpAny_forIn_list _ (λrest r z=>r.1=none/\z=s/\∃ us' vs',rest=us'.zip vs'/\LexAt A s (cop g) us' vs' c) _ ?_ ?_ _ _ ⟨rfl,rfl,us,vs,rfl,L⟩
 ·rintro ⟨x,y⟩ rest r z ⟨hr,rfl,us',vs',hz,L'⟩
  cases L' with
  |nil=>simp at hz
  |same e L2 =>
   simp only [List.zip_cons_cons,List.cons.injEq,Prod.mk.injEq] at hz
   obtain ⟨⟨rfl,rfl⟩,rfl⟩:=hz
   refine wpAny_bind (e prog w _ _ ?_)
   exact wpAny_pure ⟨rfl,rfl,_,_,rfl,L2⟩
  |diff e cm =>
   simp only [List.zip_cons_cons,List.cons.injEq,Prod.mk.injEq] at hz
   obtain ⟨⟨rfl,rfl⟩,rfl⟩:=hz
   refine wpAny_bind (e prog w _ _ ?_)
   refine wpAny_bind (wpAny_rule (wpAny_bind (cm prog w _ _ ?_)))
   exact wpAny_bind (wpAny_pure (wpAny_pure (wpAny_pure h)))
 ·rintro ⟨r1,r2⟩ z ⟨hr,rfl,us',vs',hz,L'⟩
  simp only at hr
  subst hr
  have hc:c=kI (cop g):=by
   cases L' with
   |nil=>rfl
   |same _ _=>simp at hz
   |diff _ _=>simp at hz
  subst hc hnm
  have e:Builtin.Tuple.tupleCompareSizes (cop g) n n=.bool (kI (cop g)):=by cases g<;>simp [cop,kI,Builtin.Tuple.tupleCompareSizes]
  show wpAny _ _ (ret (Builtin.Tuple.tupleCompareSizes (cop g) n n)) P E _
  rw [e]
  exact wpAny_pure h
theorem xD {g:Cp}{l m:Addr}{o u:Obj}{xs ys:Array Value}{n k:Nat}{c:Bool}(h1:s.heap.get? l=some o) (c1:o.cls=.type "tuple") (d1:o.data=.seq xs n)
  (h2:s.heap.get? m=some u) (c2:u.cls=.type "tuple") (d2:u.data=.seq ys k) (hu:A.units<cLine) (L:LexAt A.in1 s (cop g) xs.toList ys.toList c) (hs:xs.size=ys.size):dh A s (cop g) (.ref l) (.ref m) c:=by
 intro prog w E Q q
 have t1:s.TypeIs (.ref l) "tuple":=⟨o,h1,c1⟩
 have t2:s.TypeIs (.ref m) "tuple":=⟨u,h2,c2⟩
 cases g with
 |lt =>
  refine wpAny_richCompare_same_room (op:=.Lt) t1 t2 F.slot_tuple_lt (wpAny_call_entry F.slot_tuple_lt t1 F.entry_tuple_lt ?_ (F.args_tuple_lt_2 _ _)) hu
  rw [yo]
  refine wpAny_bind (wpAny_isInstance t2 isSubtype_tuple_tuple ?_)
  simp only [Bool.not_true,Bool.false_eq_true,if_false]
  refine wpAny_bind (wpAny_tupleItemsOf h1 d1 (wpAny_bind (wpAny_tupleItemsOf h2 d2 ?_)))
  exact jQ (g:=.lt) L hs ⟨_,rfl,by simp,q⟩
 |gt =>
  refine wpAny_richCompare_same_room (op:=.Gt) t1 t2 F.slot_tuple_gt (wpAny_call_entry F.slot_tuple_gt t1 F.entry_tuple_gt ?_ (F.args_tuple_gt_2 _ _)) hu
  rw [yr]
  refine wpAny_bind (wpAny_isInstance t2 isSubtype_tuple_tuple ?_)
  simp only [Bool.not_true,Bool.false_eq_true,if_false]
  refine wpAny_bind (wpAny_tupleItemsOf h1 d1 (wpAny_bind (wpAny_tupleItemsOf h2 d2 ?_)))
  exact jQ (g:=.gt) L hs ⟨_,rfl,by simp,q⟩
 |ge =>
  refine wpAny_richCompare_same_room (op:=.GtE) t1 t2 F.slot_tuple_ge (wpAny_call_entry F.slot_tuple_ge t1 F.entry_tuple_ge ?_ (F.args_tuple_ge_2 _ _)) hu
  rw [yq]
  refine wpAny_bind (wpAny_isInstance t2 isSubtype_tuple_tuple ?_)
  simp only [Bool.not_true,Bool.false_eq_true,if_false]
  refine wpAny_bind (wpAny_tupleItemsOf h1 d1 (wpAny_bind (wpAny_tupleItemsOf h2 d2 ?_)))
  exact jQ (g:=.ge) L hs ⟨_,rfl,by simp,q⟩
 |le =>
  refine wpAny_richCompare_same_room (op:=.LtE) t1 t2 F.slot_tuple_le (wpAny_call_entry F.slot_tuple_le t1 F.entry_tuple_le ?_ (F.args_tuple_le_2 _ _)) hu
  rw [yp]
  refine wpAny_bind (wpAny_isInstance t2 isSubtype_tuple_tuple ?_)
  simp only [Bool.not_true,Bool.false_eq_true,if_false]
  refine wpAny_bind (wpAny_tupleItemsOf h1 d1 (wpAny_bind (wpAny_tupleItemsOf h2 d2 ?_)))
  exact jQ (g:=.le) L hs ⟨_,rfl,by simp,q⟩
theorem zj {g:Cp}(a b:Int) (t u:Tok):dh A s (cop g) (.int a t) (.int b u) (gl g (.i a) (.i b)):=by
 intro prog w E Q q
 cases g with
 |lt=>exact lt_int (A:=A) q
 |gt=>exact gt_int (A:=A) q
 |ge =>
  have e:gl .ge (.i a) (.i b)=decide (b<=a):=by
   show (!decide (a<b))=_
   rw [Bool.eq_iff_iff]
   simp only [Bool.not_eq_true',decide_eq_false_iff_not,decide_eq_true_eq,Int.not_lt]
  rw [e] at q
  exact PySem.P.ge_int (A:=A) q
 |le =>
  have e:gl .le (.i a) (.i b)=decide (a<=b):=by
   show (!decide (b<a))=_
   rw [Bool.eq_iff_iff]
   simp only [Bool.not_eq_true',decide_eq_false_iff_not,decide_eq_true_eq,Int.not_lt]
  rw [e] at q
  exact PySem.P.le_int (A:=A) q
theorem zk {g:Cp}(a b:Str) (t u:Tok):dh A s (cop g) (.str a t) (.str b u) (gl g (.s a) (.s b)):=by
 intro prog w E Q q
 cases g with
 |lt=>exact lt_str (A:=A) q
 |gt=>exact PySem.P.gt_str (A:=A) q
 |ge=>exact PySem.P.ge_str (A:=A) q
 |le=>exact PySem.P.le_str (A:=A) q
theorem A8 {g:Cp}{h t h' t':Ky}:gl g (.cons h t) (.cons h' t')=if h=h' then gl g t t' else gl g h h':=by
 cases g with
 |lt=>show Ky.lt _ _=if h=h' then Ky.lt t t' else Ky.lt h h';rw [Ky.bi]
 |gt =>
  show Ky.lt _ _=if h=h' then Ky.lt t' t else Ky.lt h' h
  rw [Ky.bi]
  by_cases e:h=h'
  ·rw [if_pos e,if_pos e.symm]
  ·rw [if_neg e,if_neg (Ne.symm e)]
 |ge =>
  show (!Ky.lt _ _)=if h=h' then !Ky.lt t t' else !Ky.lt h h'
  rw [Ky.bi]
  by_cases e:h=h'
  ·rw [if_pos e,if_pos e]
  ·rw [if_neg e,if_neg e]
 |le =>
  show (!Ky.lt _ _)=if h=h' then !Ky.lt t' t else !Ky.lt h' h
  rw [Ky.bi]
  by_cases e:h=h'
  ·rw [if_pos e,if_pos e.symm]
  ·rw [if_neg e,if_neg (Ne.symm e)]
end
theorem bZ {h:Heap}{a:Value}{n:Int}{as:List Addr}(r:Reads h a (.int n) as):∃ t,a=.int n t:=by cases r;exact ⟨_,rfl⟩
theorem b0 {h:Heap}{a:Value}{n:Str}{as:List Addr}(r:Reads h a (.str n) as):∃ t,a=.str n t:=by cases r;exact ⟨_,rfl⟩
theorem bv {h:Heap}{a:Value}{ds:List PyData}{as:List Addr}(r:Reads h a (.tuple ds) as):∃ (l:Addr) (o:Obj) (vs:Array Value) (n:Nat),a=.ref l/\h.get? l=some o/\o.cls=.type "tuple" /\ o.data=.seq vs n/\ReadsAll h vs.toList ds as:=by
 cases r with
 |tuple a1 a2 a3 a4=>exact ⟨_,_,_,_,rfl,a1,a2,a3,a4⟩
theorem dW {h:Heap}{us:List Value}{d:PyData}{ds:List PyData}{as:List Addr}(r:ReadsAll h us (d::ds) as):∃ u vs a1 a2,us=u::vs/\Reads h u d a1/\ReadsAll h vs ds a2:=by
 cases r with
 |cons r1 r2=>exact ⟨_,_,_,_,rfl,r1,r2⟩
theorem pU:∀ {x y:Ky}{h:Heap},Ky.ok x=true->Ky.ok y=true->(∀ {a:Value}{as bs:List Addr},Reads h a x.dat as->Reads h a y.dat bs->x=y) /\
  (∀ {us:List Value}{as bs:List Addr},Ky.ok.isRow x=true->Ky.ok.isRow y=true->ReadsAll h us x.row as->ReadsAll h us y.row bs->x=y):=by
 intro x
 induction x with
 |i n =>
  intro y h _ oy
  refine ⟨fun {a as bs} r q=>?_,fun {us as bs} z=>by cases z⟩
  obtain ⟨t,rfl⟩:=bZ r
  cases y with
  |i m=>obtain ⟨_,e⟩:=bZ q;cases e;rfl
  |s m=>obtain ⟨_,e⟩:=b0 q;cases e
  |tt m=>cases oy
  |nil=>obtain ⟨_,_,_,_,e,_⟩:=bv q;cases e
  |cons u v=>obtain ⟨_,_,_,_,e,_⟩:=bv q;cases e
 |s n =>
  intro y h _ oy
  refine ⟨fun {a as bs} r q=>?_,fun {us as bs} z=>by cases z⟩
  obtain ⟨t,rfl⟩:=b0 r
  cases y with
  |i m=>obtain ⟨_,e⟩:=bZ q;cases e
  |s m=>obtain ⟨_,e⟩:=b0 q;cases e;rfl
  |tt m=>cases oy
  |nil=>obtain ⟨_,_,_,_,e,_⟩:=bv q;cases e
  |cons u v=>obtain ⟨_,_,_,_,e,_⟩:=bv q;cases e
 |tt n=>intro y h z;cases z
 |nil =>
  intro y h _ oy
  have go:∀ {us:List Value}{as bs:List Addr},Ky.ok.isRow y=true->ReadsAll h us [] as->ReadsAll h us y.row bs->Ky.nil=y:=fun {us as bs} z r q=>by
   cases r
   cases y with
   |nil=>rfl
   |cons u v=>simp only [Ky.row] at q;cases q
   |_=>cases z
  refine ⟨fun {a as bs} r q=>?_,fun {us as bs} _ z r q=>go z (by simpa only [Ky.row] using r) q⟩
  obtain ⟨l,o,vs,n,rfl,a1,a2,a3,a4⟩:=bv r
  cases y with
  |nil=>rfl
  |cons u v =>
   obtain ⟨l',o',vs',n',e,b1,b2,b3,b4⟩:=bv q
   cases e
   rw [a1] at b1;cases b1
   rw [a3] at b3;cases b3
   exact go rfl a4 b4
  |i n=>obtain ⟨_,e⟩:=bZ q;cases e
  |s n=>obtain ⟨_,e⟩:=b0 q;cases e
  |tt n=>cases oy
 |cons u v iu iv =>
  intro y h ox oy
  simp only [Ky.eQ,Bool.and_eq_true] at ox
  have go:∀ {us:List Value}{as bs:List Addr},Ky.ok.isRow y=true->ReadsAll h us (u.dat::v.row) as->ReadsAll h us y.row bs->Ky.cons u v=y:=fun {us as bs} z r q=>by
   cases y with
   |nil=>simp only [Ky.row] at q;cases q;cases r
   |cons u' v' =>
    simp only [Ky.eQ,Bool.and_eq_true] at oy
    simp only [Ky.row] at q
    obtain ⟨_,_,_,_,rfl,r1,r2⟩:=dW r
    obtain ⟨_,_,_,_,e,q1,q2⟩:=dW q
    cases e
    rw [(iu ox.1.1 oy.1.1).1 r1 q1,(iv ox.1.2 oy.1.2).2 ox.2 oy.2 r2 q2]
   |_=>cases z
  refine ⟨fun {a as bs} r q=>?_,fun {us as bs} _ z r q=>go z (by simpa only [Ky.row] using r) q⟩
  obtain ⟨l,o,vs,n,rfl,a1,a2,a3,a4⟩:=bv r
  have tup:∀ {ds:List PyData}{bs:List Addr},Reads h (.ref l) (.tuple ds) bs->ReadsAll h vs.toList ds bs:=fun {ds bs} q=>by
   obtain ⟨l',o',vs',n',e,b1,b2,b3,b4⟩:=bv q
   cases e
   rw [a1] at b1;cases b1
   rw [a3] at b3;cases b3
   exact b4
  cases y with
  |nil=>exact go rfl a4 (tup q)
  |cons u' v'=>exact go rfl a4 (tup q)
  |i n=>obtain ⟨_,e⟩:=bZ q;cases e
  |s n=>obtain ⟨_,e⟩:=b0 q;cases e
  |tt n=>cases oy
theorem A9:∀ (x:Ky),
  (∀ {y:Ky}{A:Around}{s:Shared}{a b:Value}{as bs:List Addr},Ky.shp x y=true->Ky.ok x=true->Ky.ok y=true->Reads s.heap a x.dat as->Reads s.heap b y.dat bs->A.units+x.dep<cLine->EqAt A s a b (decide (x=y))) /\
  (∀ {y:Ky}{A:Around}{s:Shared}{us vs:List Value}{as bs:List Addr},Ky.ok.isRow x=true->Ky.shp x y=true->Ky.ok x=true->Ky.ok y=true->ReadsAll s.heap us x.row as->ReadsAll s.heap vs y.row bs->A.units+x.dep<=cLine ->
   ∀ j (h1:j<us.length) (h2:j<vs.length),EqAt A s us[j] vs[j] (pairEq x.row y.row j)):=by
 have tup:∀ {x y:Ky}{A:Around}{s:Shared}{l m:Addr}{o u:Obj}{xs ys:Array Value}{n k:Nat}{as bs:List Addr},
   (∀ {y:Ky}{A:Around}{s:Shared}{us vs:List Value}{as bs:List Addr},Ky.ok.isRow x=true->Ky.shp x y=true->Ky.ok x=true->Ky.ok y=true->ReadsAll s.heap us x.row as->ReadsAll s.heap vs y.row bs->A.units+x.dep<=cLine ->
    ∀ j (h1:j<us.length) (h2:j<vs.length),EqAt A s us[j] vs[j] (pairEq x.row y.row j)) ->
   Ky.ok.isRow x=true->Ky.ok.isRow y=true->Ky.shp x y=true->Ky.ok x=true->Ky.ok y=true->s.heap.get? l=some o->o.cls=.type "tuple"->o.data=.seq xs n->ReadsAll s.heap xs.toList x.row as ->
   s.heap.get? m=some u->u.cls=.type "tuple"->u.data=.seq ys k->ReadsAll s.heap ys.toList y.row bs->A.units+x.dep<cLine->EqAt A s (.ref l) (.ref m) (decide (x=y)):=by
  intro x y A s l m o u xs ys n k as bs lp hr hr' hs ox oy a1 a2 a3 a4 b1 b2 b3 b4 hu
  by_cases hll:l=m
  ·subst hll
   rw [a1] at b1;cases b1
   rw [a3] at b3;cases b3
   rw [decide_eq_true ((pU ox oy).2 hr hr' a4 b4)]
   exact EqAt.same _
  ·have n1:xs.size=x.row.length:=by simpa using ReadsAll.length _ _ _ a4
   have n2:ys.size=y.row.length:=by simpa using ReadsAll.length _ _ _ b4
   rw [<- (Ky.jz hs ox).2 hr,<- eqvAll_eq,<- n1,<- n2]
   refine EqAt.of_refs hll (RcAt.tuples ⟨_,a1,a2,_,a3⟩ ⟨_,b1,b2,_,b3⟩ (by omega) λj j1 j2=>?_)
   have:=lp (A:=A.in1) hr hs ox oy a4 b4 (by show A.units+1+x.dep<=cLine;omega) j (by simpa using j1) (by simpa using j2)
   simpa using this
 intro x
 induction x with
 |i a =>
  refine ⟨fun {y A s a' b' as bs} hs ox oy ra rb hu=>?_,fun {y A s us vs as bs} h=>by cases h⟩
  cases y<;>first|cases hs|skip
  obtain ⟨t,rfl⟩:=bZ ra
  obtain ⟨u,rfl⟩:=bZ rb
  rename_i b
  rw [show decide (Ky.i a=Ky.i b)=(a==b) by rw [Bool.eq_iff_iff];simp]
  exact EqAt.int_int a t b u
 |s a =>
  refine ⟨fun {y A s a' b' as bs} hs ox oy ra rb hu=>?_,fun {y A s us vs as bs} h=>by cases h⟩
  cases y<;>first|cases hs|skip
  obtain ⟨t,rfl⟩:=b0 ra
  obtain ⟨u,rfl⟩:=b0 rb
  rename_i b
  rw [show decide (Ky.s a=Ky.s b)=(a==b) by rw [Bool.eq_iff_iff];simp]
  exact EqAt.str_str a t b u
 |tt a=>exact ⟨fun {y A s a' b' as bs} hs ox=>(by cases ox),fun {y A s us vs as bs} h=>by cases h⟩
 |nil =>
  have lp:∀ {y:Ky}{A:Around}{s:Shared}{us vs:List Value}{as bs:List Addr},Ky.ok.isRow .nil=true->Ky.shp .nil y=true->Ky.ok .nil=true->Ky.ok y=true->ReadsAll s.heap us Ky.nil.row as->ReadsAll s.heap vs y.row bs->A.units+Ky.nil.dep<=cLine ->
    ∀ j (h1:j<us.length) (h2:j<vs.length),EqAt A s us[j] vs[j] (pairEq Ky.nil.row y.row j):=by
   intro y A s us vs as bs _ hs _ _ ra rb _ j h1
   simp only [Ky.row] at ra
   cases ra
   exact absurd h1 (Nat.not_lt_zero _)
  refine ⟨fun {y A s a' b' as bs} hs ox oy ra rb hu=>?_,lp⟩
  cases y<;>first|cases hs|skip
  obtain ⟨_,_,_,_,rfl,a1,a2,a3,a4⟩:=bv ra
  obtain ⟨_,_,_,_,rfl,b1,b2,b3,b4⟩:=bv rb
  exact tup lp rfl rfl rfl rfl rfl a1 a2 a3 a4 b1 b2 b3 b4 hu
 |cons h t ih it =>
  have lp:∀ {y:Ky}{A:Around}{s:Shared}{us vs:List Value}{as bs:List Addr},Ky.ok.isRow (.cons h t)=true->Ky.shp (.cons h t) y=true->Ky.ok (.cons h t)=true->Ky.ok y=true->ReadsAll s.heap us (Ky.cons h t).row as->ReadsAll s.heap vs y.row bs->A.units+(Ky.cons h t).dep<=cLine ->
    ∀ j (h1:j<us.length) (h2:j<vs.length),EqAt A s us[j] vs[j] (pairEq (Ky.cons h t).row y.row j):=by
   intro y A s us vs as bs _ hs ox oy ra rb hu j h1 h2
   cases y with
   |cons h' t' =>
    simp only [Ky.bQ,Bool.and_eq_true] at hs
    simp only [Ky.eQ,Bool.and_eq_true] at ox oy
    simp only [Ky.kc] at hu
    simp only [Ky.row] at ra rb ⊢
    ·obtain ⟨_,_,_,_,rfl,r,rs⟩:=dW ra
     ·obtain ⟨_,_,_,_,rfl,r',rs'⟩:=dW rb
      cases j with
      |zero =>
       have:=ih.1 (A:=A) hs.1 ox.1.1 oy.1.1 r r' (by omega)
       rw [<- (Ky.jz hs.1 ox.1.1).1] at this
       exact this
      |succ j=>exact it.2 (A:=A) ox.2 hs.2 ox.1.2 oy.1.2 rs rs' (by omega) j (Nat.lt_of_succ_lt_succ h1) (Nat.lt_of_succ_lt_succ h2)
   |_=>cases hs
  refine ⟨fun {y A s a' b' as bs} hs ox oy ra rb hu=>?_,lp⟩
  cases y with
  |cons h' t' =>
   obtain ⟨_,_,_,_,rfl,a1,a2,a3,a4⟩:=bv ra
   obtain ⟨_,_,_,_,rfl,b1,b2,b3,b4⟩:=bv rb
   exact tup lp rfl rfl hs ox oy a1 a2 a3 a4 b1 b2 b3 b4 hu
  |_=>cases hs
theorem oX {x y:Ky}{A:Around}{s:Shared}{a b:Value}{as bs:List Addr}(h:Ky.shp x y=true) (ox:Ky.ok x=true) (oy:Ky.ok y=true) (ra:Reads s.heap a x.dat as) (rb:Reads s.heap b y.dat bs) (hu:A.units+x.dep<cLine) :
  EqAt A s a b (decide (x=y)):=(A9 x).1 h ox oy ra rb hu
theorem jA (g:Cp):∀ (x:Ky),
  (∀ {y:Ky}{A:Around}{s:Shared}{a b:Value}{as bs:List Addr},Ky.shp x y=true->Ky.ok x=true->Ky.ok y=true->Reads s.heap a x.dat as->Reads s.heap b y.dat bs->A.units+x.dep+1<cLine->dh A s (cop g) a b (gl g x y)) /\
  (∀ {y:Ky}{A:Around}{s:Shared}{us vs:List Value}{as bs:List Addr},Ky.ok.isRow x=true->Ky.shp x y=true->Ky.ok x=true->Ky.ok y=true->ReadsAll s.heap us x.row as->ReadsAll s.heap vs y.row bs->A.units+x.dep<cLine ->
   LexAt A s (cop g) us vs (gl g x y)/\us.length=vs.length):=by
 have tup:∀ {x y:Ky}{A:Around}{s:Shared}{l m:Addr}{o u:Obj}{xs ys:Array Value}{n k:Nat}{as bs:List Addr},
   (∀ {y:Ky}{A:Around}{s:Shared}{us vs:List Value}{as bs:List Addr},Ky.ok.isRow x=true->Ky.shp x y=true->Ky.ok x=true->Ky.ok y=true->ReadsAll s.heap us x.row as->ReadsAll s.heap vs y.row bs->A.units+x.dep<cLine->LexAt A s (cop g) us vs (gl g x y)/\us.length=vs.length) ->
   Ky.ok.isRow x=true->Ky.shp x y=true->Ky.ok x=true->Ky.ok y=true->s.heap.get? l=some o->o.cls=.type "tuple"->o.data=.seq xs n->ReadsAll s.heap xs.toList x.row as ->
   s.heap.get? m=some u->u.cls=.type "tuple"->u.data=.seq ys k->ReadsAll s.heap ys.toList y.row bs->A.units+x.dep+1<cLine->dh A s (cop g) (.ref l) (.ref m) (gl g x y):=by
  intro x y A s l m o u xs ys n k as bs lp hr hs ox oy a1 a2 a3 a4 b1 b2 b3 b4 hu
  obtain ⟨L,hl⟩:=lp (A:=A.in1) hr hs ox oy a4 b4 (by show A.units+1+x.dep<cLine;omega)
  exact xD a1 a2 a3 b1 b2 b3 (by omega) L (by simpa using hl)
 intro x
 induction x with
 |i a =>
  refine ⟨fun {y A s a' b' as bs} hs ox oy ra rb hu=>?_,fun {y A s us vs as bs} h=>by cases h⟩
  cases y<;>first|cases hs|skip
  obtain ⟨t,rfl⟩:=bZ ra
  obtain ⟨u,rfl⟩:=bZ rb
  exact zj _ _ _ _
 |s a =>
  refine ⟨fun {y A s a' b' as bs} hs ox oy ra rb hu=>?_,fun {y A s us vs as bs} h=>by cases h⟩
  cases y<;>first|cases hs|skip
  obtain ⟨t,rfl⟩:=b0 ra
  obtain ⟨u,rfl⟩:=b0 rb
  exact zk _ _ _ _
 |tt a=>exact ⟨fun {y A s a' b' as bs} hs ox=>(by cases ox),fun {y A s us vs as bs} h=>by cases h⟩
 |nil =>
  have lp:∀ {y:Ky}{A:Around}{s:Shared}{us vs:List Value}{as bs:List Addr},Ky.ok.isRow .nil=true->Ky.shp .nil y=true->Ky.ok .nil=true->Ky.ok y=true->ReadsAll s.heap us Ky.nil.row as->ReadsAll s.heap vs y.row bs->A.units+Ky.nil.dep<cLine ->
    LexAt A s (cop g) us vs (gl g .nil y)/\us.length=vs.length:=by
   intro y A s us vs as bs _ hs _ _ ra rb _
   cases y<;>first|cases hs|skip
   simp only [Ky.row] at ra rb
   cases ra;cases rb
   exact ⟨by cases g<;>exact .nil,rfl⟩
  refine ⟨fun {y A s a' b' as bs} hs ox oy ra rb hu=>?_,lp⟩
  cases y<;>first|cases hs|skip
  obtain ⟨_,_,_,_,rfl,a1,a2,a3,a4⟩:=bv ra
  obtain ⟨_,_,_,_,rfl,b1,b2,b3,b4⟩:=bv rb
  exact tup lp rfl rfl rfl rfl a1 a2 a3 a4 b1 b2 b3 b4 hu
 |cons h t ih it =>
  have lp:∀ {y:Ky}{A:Around}{s:Shared}{us vs:List Value}{as bs:List Addr},Ky.ok.isRow (.cons h t)=true->Ky.shp (.cons h t) y=true->Ky.ok (.cons h t)=true->Ky.ok y=true->ReadsAll s.heap us (Ky.cons h t).row as->ReadsAll s.heap vs y.row bs->A.units+(Ky.cons h t).dep<cLine ->
    LexAt A s (cop g) us vs (gl g (.cons h t) y)/\us.length=vs.length:=by
   intro y A s us vs as bs _ hs ox oy ra rb hu
   cases y with
   |cons h' t' =>
    simp only [Ky.bQ,Bool.and_eq_true] at hs
    simp only [Ky.eQ,Bool.and_eq_true] at ox oy
    simp only [Ky.kc] at hu
    simp only [Ky.row] at ra rb
    ·obtain ⟨_,_,_,_,rfl,r,rs⟩:=dW ra
     ·obtain ⟨_,_,_,_,rfl,r',rs'⟩:=dW rb
      have eq:=oX (A:=A) hs.1 ox.1.1 oy.1.1 r r' (by omega)
      rw [A8]
      by_cases e:h=h'
      ·rw [decide_eq_true e] at eq
       rw [if_pos e]
       obtain ⟨L,l⟩:=it.2 (A:=A) ox.2 hs.2 ox.1.2 oy.1.2 rs rs' (by omega)
       exact ⟨.same eq L,by simp [l]⟩
      ·rw [decide_eq_false e] at eq
       rw [if_neg e]
       refine ⟨.diff eq (ih.1 hs.1 ox.1.1 oy.1.1 r r' (by omega)),?_⟩
       have l1:=ReadsAll.length _ _ _ rs
       have l2:=ReadsAll.length _ _ _ rs'
       have rowlen:∀ {a b:Ky},Ky.shp a b=true->a.row.length=b.row.length:=by
        intro a
        induction a with
        |cons u v iu iv =>
         intro b e
         cases b with
         |cons u' v' =>
          simp only [Ky.bQ,Bool.and_eq_true] at e
          simp only [Ky.row,List.length_cons,iv e.2]
         |_=>cases e
        |_=>intro b e;cases b<;>first|rfl|cases e
       simp [l1,l2,rowlen hs.2]
   |_=>cases hs
  refine ⟨fun {y A s a' b' as bs} hs ox oy ra rb hu=>?_,lp⟩
  cases y with
  |cons h' t' =>
   obtain ⟨_,_,_,_,rfl,a1,a2,a3,a4⟩:=bv ra
   obtain ⟨_,_,_,_,rfl,b1,b2,b3,b4⟩:=bv rb
   exact tup lp rfl hs ox oy a1 a2 a3 a4 b1 b2 b3 b4 hu
  |_=>cases hs
def KR (s:Shared) (v:Value) (k:Ky):Prop:=Ky.ok k=true/\∃ as,Reads s.heap v k.dat as
theorem KR.inj {s:Shared}{v:Value}{k k':Ky}(h:KR s v k) (h':KR s v k'):k=k':=by
 obtain ⟨o,as,r⟩:=h
 obtain ⟨o',as',r'⟩:=h'
 exact (pU o o').1 r r'
open Classical in
noncomputable def cc (s:Shared) (v:Value):Ky:=if h:∃ k,KR s v k then h.choose else .nil
theorem gR {s:Shared}{v:Value}{k:Ky}(h:KR s v k):cc s v=k:=by
 unfold cc
 have e:∃ k,KR s v k:=⟨k,h⟩
 rw [dif_pos e]
 exact e.choose_spec.inj h
def vh (A:Around) (s:Shared) (one:Bool) (x y:Value) (c:Bool):Prop :=
 ∀ (prog:Program) (w:World) (E:Value->Shared->Prop) (Q:Bool->Shared->Prop),Q c s->wpAny (model prog w) A (oneLt' one x y) Q E s
theorem dh.one {A:Around}{s:Shared}{x y:Value}{c:Bool}(h:dh A s .Lt x y c):vh A s false x y c:=λprog w E Q q=>by
 rw [oneLt'_eq]
 simp only [Bool.false_eq_true,if_false]
 exact wpAny_bind (h prog w _ _ (wpAny_truthy_bool q))
inductive LexO (A:Around) (s:Shared):Bool->List Value->List Value->Bool->Prop
 |nil {one}:LexO A s one [] [] false
 |same {one x y xs ys c}:EqAt A s x y true->LexO A s false xs ys c->LexO A s one (x::xs) (y::ys) c
 |diff {one x y xs ys c}:EqAt A s x y false->vh A s one x y c->LexO A s one (x::xs) (y::ys) c
theorem LexAt.o {A:Around}{s:Shared}{xs ys:List Value}{c:Bool}(h:LexAt A s .Lt xs ys c):LexO A s false xs ys c:=by
 induction h with
 |nil=>exact .nil
 |same e _ ih=>exact .same e ih
 |diff e c=>exact .diff e c.one
theorem w6 (fb:Bool) (x y:Value):keyLt' (tuples' fb) x y=(do
  let xs <- Builtin.List.listItems x;let ys <- Builtin.List.listItems y
  for ((p,q),i) in (xs.toList.zip ys.toList).zipIdx do
   if !(<- eqBool p q) then return <- oneLt' (fb&&i==0) p q
  return xs.size<ys.size):=rfl
theorem Ba {A:Around}{s:Shared}{fb:Bool}{l m:Addr}{o u:Obj}{xs ys:Array Value}{n k:Nat}{c:Bool}(h1:s.heap.get? l=some o) (d1:o.data=.seq xs n) (h2:s.heap.get? m=some u) (d2:u.data=.seq ys k)
  (L:LexO A s fb xs.toList ys.toList c) (hs:xs.size=ys.size){prog:Program}{w:World}{E:Value->Shared->Prop}{Q:Bool->Shared->Prop}(q:Q c s):wpAny (model prog w) A (keyLt' (tuples' fb) (.ref l) (.ref m)) Q E s:=by
 rw [w6]
 refine wpAny_bind (listItems_at h1 d1 (wpAny_bind (listItems_at h2 d2 (wpAny_bind ?_))))
 refine wpAny_forIn_list _ (λrest r z=>r.1=none/\z=s/\∃ us' vs' i one,rest=(us'.zip vs').zipIdx i/\(fb&&i==0)=one/\LexO A s one us' vs' c) _ ?_ ?_ _ _ ⟨rfl,rfl,xs.toList,ys.toList,0,fb,rfl,by simp,L⟩
 ·rintro ⟨⟨x,y⟩,i'⟩ rest r z ⟨hr,rfl,us',vs',i,one,hz,ho,L'⟩
  cases L' with
  |nil=>simp at hz
  |same e L2 =>
   simp only [List.zip_cons_cons,List.zipIdx_cons,List.cons.injEq,Prod.mk.injEq] at hz
   obtain ⟨⟨⟨rfl,rfl⟩,rfl⟩,rfl⟩:=hz
   refine wpAny_bind (e prog w _ _ ?_)
   exact wpAny_pure ⟨rfl,rfl,_,_,_,false,rfl,by simp,L2⟩
  |diff e cm =>
   simp only [List.zip_cons_cons,List.zipIdx_cons,List.cons.injEq,Prod.mk.injEq] at hz
   obtain ⟨⟨⟨rfl,rfl⟩,rfl⟩,rfl⟩:=hz
   refine wpAny_bind (e prog w _ _ ?_)
   rw [<- ho] at cm
   exact wpAny_bind (cm prog w _ _ (wpAny_pure (wpAny_pure q)))
 ·rintro ⟨r1,r2⟩ z ⟨hr,rfl,us',vs',i,one,hz,ho,L'⟩
  simp only at hr
  subst hr
  have hc:c=false:=by
   cases L' with
   |nil=>rfl
   |same _ _=>simp at hz
   |diff _ _=>simp at hz
  subst hc
  refine wpAny_pure ?_
  rw [hs]
  simpa using q
def tyK:Ky->String
 |.i _=>"int"
 |.s _=>"str"
 |.tt _=>"bool"
 |_=>"tuple"
def dX:Ky->SortKind
 |.cons h _=>tuples' (Value.type (tyK h) != Value.type "tuple")
 |_=>oneType'
def fit:Ky->Bool
 |.i _=>true
 |.s _=>true
 |.cons h _=>match h with|.i _|.s _|.cons _ _=>true|_=>false
 |_=>false
theorem FT {x y:Ky}{A:Around}{s:Shared}{a b:Value}(hx:KR s a x) (hy:KR s b y) (hs:Ky.shp x y=true) (hf:fit x=true) (hu:A.units+x.dep+1<cLine){prog:Program}{w:World}{E:Value->Shared->Prop}{Q:Bool->Shared->Prop}
  (q:Q (Ky.lt x y) s):wpAny (model prog w) A (keyLt' (dX x) a b) Q E s:=by
 obtain ⟨ox,as,ra⟩:=hx
 obtain ⟨oy,bs,rb⟩:=hy
 cases x with
 |i n =>
  cases y<;>first|cases hs|skip
  obtain ⟨t,rfl⟩:=bZ ra
  obtain ⟨u,rfl⟩:=bZ rb
  exact oneLt_int q
 |s n =>
  cases y<;>first|cases hs|skip
  obtain ⟨t,rfl⟩:=b0 ra
  obtain ⟨u,rfl⟩:=b0 rb
  exact oneLt_str q
 |tt v=>cases hf
 |nil=>cases hf
 |cons h t =>
  cases y with
  |cons h' t' =>
   ·obtain ⟨_,_,_,_,rfl,a1,a2,a3,a4⟩:=bv ra
    ·obtain ⟨_,_,_,_,rfl,b1,b2,b3,b4⟩:=bv rb
     have L:=(jA .lt (.cons h t)).2 (A:=A) rfl hs ox oy a4 b4 (by omega)
     refine Ba a1 a3 b1 b3 ?_ (by simpa using L.2) q
     simp only [Ky.bQ,Bool.and_eq_true] at hs
     simp only [Ky.eQ,Bool.and_eq_true] at ox oy
     simp only [Ky.kc] at hu
     clear L
     generalize Array.toList _=us0 at a4 ⊢
     generalize Array.toList _=vs0 at b4 ⊢
     ·obtain ⟨_,_,_,_,rfl,r,rs⟩:=dW a4
      ·obtain ⟨_,_,_,_,rfl,r',rs'⟩:=dW b4
       have eq:=oX (A:=A) hs.1 ox.1.1 oy.1.1 r r' (by omega)
       have rest:=(jA .lt t).2 (A:=A) ox.2 hs.2 ox.1.2 oy.1.2 rs rs' (by omega)
       show LexO A s _ _ _ (Ky.lt (.cons h t) (.cons h' t'))
       simp only [Ky.bi]
       by_cases e:h=h'
       ·rw [decide_eq_true e] at eq
        rw [if_pos e]
        exact .same eq rest.1.o
       ·rw [decide_eq_false e] at eq
        rw [if_neg e]
        refine .diff eq ?_
        cases h with
        |i n =>
         cases h'<;>first|cases hs.1|skip
         obtain ⟨t,rfl⟩:=bZ r
         obtain ⟨u,rfl⟩:=bZ r'
         exact λprog w E Q q=>oneLt_int q
        |s n =>
         cases h'<;>first|cases hs.1|skip
         obtain ⟨t,rfl⟩:=b0 r
         obtain ⟨u,rfl⟩:=b0 r'
         exact λprog w E Q q=>oneLt_str q
        |tt v=>cases hf
        |nil=>cases hf
        |cons h2 t2=>exact dh.one ((jA .lt (.cons h2 t2)).1 (A:=A) hs.1 ox.1.1 oy.1.1 r r' (by omega))
  |_=>cases hs
end S6
namespace S6
open PySem PyProof.Rows PySem.SeqAt
theorem Ky.shp_trans:∀ {a b c:Ky},Ky.shp a b=true->Ky.shp b c=true->Ky.shp a c=true:=by
 intro a
 induction a with
 |cons u v iu iv =>
  intro b c e f
  cases b<;>first|cases e|skip
  cases c<;>first|cases f|skip
  simp only [Ky.bQ,Bool.and_eq_true] at *
  exact ⟨iu e.1 f.1,iv e.2 f.2⟩
 |_ =>
     intro b c e f;cases b<;>first|cases e|skip
     all_goals (cases c<;>first|cases f|skip)
     all_goals rfl
theorem Ky.shp_dep:∀ {a b:Ky},Ky.shp a b=true->a.dep=b.dep:=by
 intro a
 induction a with
 |cons u v iu iv =>
  intro b e
  cases b<;>first|cases e|skip
  simp only [Ky.bQ,Bool.and_eq_true] at e
  simp only [Ky.kc,iu e.1,iv e.2]
 |_=>intro b e;cases b<;>first|rfl|cases e
theorem tK {a b:Ky}(e:Ky.shp a b=true):tyK b=tyK a:=by
 cases a<;>cases b<;>first|rfl|cases e
theorem Dz {a b:Ky}(e:Ky.shp a b=true):dX b=dX a:=by
 cases a with
 |cons h t =>
  cases b with
  |cons h' t' =>
   simp only [Ky.bQ,Bool.and_eq_true] at e
   simp only [dX,tK e.1]
  |_=>cases e
 |_=>cases b<;>first|rfl|cases e
theorem Bb {a b:Ky}(e:Ky.shp a b=true) (hf:fit a=true):fit b=true:=by
 cases a with
 |cons h t =>
  cases b with
  |cons h' t' =>
   simp only [Ky.bQ,Bool.and_eq_true] at e
   have e1:=e.1
   cases h<;>cases h'<;>first|rfl|(cases hf;done)|(cases e1;done)
  |_=>cases e
 |_=>cases b<;>first|rfl|(cases hf;done)|(cases e;done)
section
variable {M:Model}{A:Around}{E:Value->Shared->Prop}{s:Shared}
theorem jB {α β:Type}{f:α->Sem β}{g:α->β}:∀ {l:List α}{Q:List β->Shared->Prop},(∀ v∈l,∀ Q':β->Shared->Prop,Q' (g v) s->wpAny M A (f v) Q' E s)->Q (l.map g) s->wpAny M A (l.mapM f) Q E s
 |[],Q,_,q=>by rw [List.mapM_nil];exact wpAny_pure q
 |v::l,Q,h,q=>by
  rw [List.mapM_cons]
  refine wpAny_bind (h v (List.mem_cons_self ..) _ (wpAny_bind (jB (λu hu=>h u (List.mem_cons_of_mem _ hu)) (wpAny_pure ?_))))
  exact q
theorem KR.ty {v:Value}{k:Ky}(h:KR s v k):s.TypeIs v (tyK k):=by
 obtain ⟨_,as,r⟩:=h
 cases k<;>simp only [Ky.dat] at r<;>cases r
 ·exact typeIs_int s _ _
 ·exact typeIs_str s _ _
 ·exact PySem.typeIs_bool s _
 ·exact ⟨_,‹_›,‹_›⟩
 ·exact ⟨_,‹_›,‹_›⟩
theorem pw {l:List Value}{T:String}{Q:Option Value->Shared->Prop}(h0:l≠[]) (h:∀ u∈l,s.TypeIs u T) (q:Q (some (.type T)) s):wpAny M A (oneTypeOnly' l.toArray) Q E s:=by
 rw [oneTypeOnly'_eq,List.mapM_toArray,map_eq_pure_bind]
 refine wpAny_bind (wpAny_bind (jB (g:=λ_=>Value.type T) (λu hu Q' q'=>wpAny_typeOf (h u hu) q') (wpAny_pure ?_)))
 cases l with
 |nil=>exact (h0 rfl).elim
 |cons v l =>
  have e0:(List.map (λ_:Value=>Value.type T) (v::l)).toArray[0]?=some (Value.type T):=by simp
  have ea:((List.map (λ_:Value=>Value.type T) (v::l)).toArray.all λx=>x==Value.type T)=true:=by
   simp only [List.all_toArray,List.all_map,List.all_eq_true]
   intro _ _
   show (Value.type T==Value.type T)=true
   exact beq_self_eq_true _
  rw [e0]
  simp only [ea,if_true]
  exact wpAny_pure q
theorem n4 (v:Value):firstOfTuple' v=(do
  if (<- typeOf v) != .type "tuple" then return none
  return (<- Builtin.List.listItems v)[0]?):=rfl
def hd1 (s:Shared):Value->Option Value
 |.ref a=>match s.heap.get? a with
  |some o=>match o.data with
   |.seq xs _=>xs[0]?
   |_=>none
  |none=>none
 |_=>none
theorem xE {vs:List Value}{k0:Ky}{Q:SortKind->Shared->Prop}(h0:vs≠[]) (hf:fit k0=true) (hk:∀ v∈vs,∃ k,KR s v k/\Ky.shp k0 k=true) (q:Q (dX k0) s):wpAny M A (keyKind' vs.toArray) Q E s:=by
 rw [keyKind'_eq,List.mapM_toArray,map_eq_pure_bind]
 have flat:∀ T:String,(Value.type T != Value.type "tuple")=true->(∀ v∈vs,s.TypeIs v T)->dX k0=oneType'->wpAny M A (do
   let firsts <- vs.mapM firstOfTuple' >>= λx=>pure x.toArray
   if firsts.all (·.isSome) then
    rule "list.sort.keys-are-tuples"
    return tuples' ((<- oneTypeOnly' (firsts.filterMap id)).any (· != .type "tuple"))
   if (firsts[0]?.bind id).isSome then return general'
   return if (<- oneTypeOnly' vs.toArray).isSome then oneType' else general') Q E s:=by
  intro T hT ht hkd
  refine wpAny_bind (wpAny_bind (jB (g:=λ_=>none) (λv hv Q' q'=>?_) (wpAny_pure ?_)))
  ·rw [n4]
   refine wpAny_bind (wpAny_typeOf (ht v hv) ?_)
   rw [if_pos hT]
   exact wpAny_pure q'
  ·cases vs with
   |nil=>exact (h0 rfl).elim
   |cons v l =>
    rw [if_neg (by simp),if_neg (by simp)]
    refine wpAny_bind (pw (by simp) ht ?_)
    rw [hkd] at q
    exact wpAny_pure q
 cases k0 with
 |tt v=>cases hf
 |nil=>cases hf
 |i n =>
  refine flat "int" (by decide) (λv hv=>?_) rfl
  obtain ⟨k,r,e⟩:=hk v hv
  cases k<;>first|exact r.ty|cases e
 |s n =>
  refine flat "str" (by decide) (λv hv=>?_) rfl
  obtain ⟨k,r,e⟩:=hk v hv
  cases k<;>first|exact r.ty|cases e
 |cons h t =>
  have each:∀ v∈vs,∃ a o xs n u,v=.ref a/\s.heap.get? a=some o/\o.cls=.type "tuple" /\ o.data=.seq xs n/\xs[0]?=some u/\s.TypeIs u (tyK h):=by
   intro v hv
   obtain ⟨k,⟨ok,as,r⟩,e⟩:=hk v hv
   cases k with
   |cons h' t' =>
    simp only [Ky.dat] at r
    cases r with
    |tuple a1 a2 a3 a4 =>
     rename_i xs n
     generalize hl:xs.toList=l at a4
     cases a4 with
     |cons r rs =>
      rename_i u us _ _
      simp only [Ky.eQ,Bool.and_eq_true] at ok
      simp only [Ky.bQ,Bool.and_eq_true] at e
      have ty:s.TypeIs u (tyK h'):=KR.ty ⟨ok.1.1,_,r⟩
      have et:tyK h'=tyK h:=tK e.1
      refine ⟨_,_,xs,_,u,rfl,a1,a2,a3,?_,et ▸ ty⟩
      rw [<- Array.getElem?_toList,hl];rfl
   |_=>cases e
  have gh:∀ v∈vs,∃ u,hd1 s v=some u/\s.TypeIs u (tyK h):=by
   intro v hv
   obtain ⟨a,o,xs,n,u,rfl,h1,_,h3,h4,h5⟩:=each v hv
   exact ⟨u,by simp only [hd1,h1,h3,h4],h5⟩
  refine wpAny_bind (wpAny_bind (jB (g:=hd1 s) (λv hv Q' q'=>?_) (wpAny_pure ?_)))
  ·obtain ⟨a,o,xs,n,u,rfl,h1,h2,h3,h4,h5⟩:=each v hv
   rw [n4]
   refine wpAny_bind (wpAny_typeOf (T:="tuple") ⟨o,h1,h2⟩ ?_)
   rw [if_neg (by decide)]
   refine wpAny_bind (listItems_at h1 h3 (wpAny_pure ?_))
   simpa only [hd1,h1,h3] using q'
  ·have all:(List.map (hd1 s) vs).toArray.all (·.isSome)=true:=by
    simp only [List.all_toArray,List.all_map,List.all_eq_true]
    intro v hv
    obtain ⟨u,e,_⟩:=gh v hv
    show (hd1 s v).isSome=true
    rw [e];rfl
   rw [if_pos all]
   refine wpAny_bind (wpAny_rule ?_)
   have fm:(List.map (hd1 s) vs).toArray.filterMap id=((List.map (hd1 s) vs).filterMap id).toArray:=by simp
   rw [fm]
   refine wpAny_bind (pw (T:=tyK h) ?_ (λu hu=>?_) (wpAny_pure q))
   ·cases vs with
    |nil=>exact (h0 rfl).elim
    |cons v l =>
     obtain ⟨u,e,_⟩:=gh v (List.mem_cons_self ..)
     simp [e]
   ·rw [List.mem_filterMap] at hu
    obtain ⟨x,hx,ex⟩:=hu
    rw [List.mem_map] at hx
    obtain ⟨v,hv,rfl⟩:=hx
    obtain ⟨u',e,ht⟩:=gh v hv
    rw [show id (hd1 s v)=hd1 s v from rfl,e] at ex
    cases ex;exact ht
end
theorem pV {α:Type}{prog:Program}{w:World}{A:Around}{E:Value->Shared->Prop}{s:Shared}{ks us:List Value}{k0:Ky}{rest:Unit×SortSt->Sem α}{Q:α->Shared->Prop}(hl:ks.length=us.length) (h64:us.length<64) (hf:fit k0=true)
  (hk:∀ v∈ks,∃ k,KR s v k/\Ky.shp k0 k=true) (hu:A.units+k0.dep+1<cLine)
  (h:∀ st:SortSt,(arrOf st).Perm (ks.toArray.zip us.toArray)->failedOf st=none->(∀ i j (hj:j<(arrOf st).size) (hi:i<(arrOf st).size),i<=j->Ky.lt (cc s (arrOf st)[j].1) (cc s (arrOf st)[i].1)=false)->wpAny (model prog w) A (rest ((),st)) Q E s) :
  wpAny (model prog w) A (do
   let kind <- if us.toArray.size<2 then pure general' else keyKind' ks.toArray
   let r <- (if us.toArray.size<2 then pure () else sortRuns').run (SortSt.mk' kind (ks.toArray.zip us.toArray) #[] 7 none)
   rest r) Q E s:=by
 have sz:(ks.toArray.zip us.toArray).size=us.length:=by simp [hl]
 by_cases h2:us.toArray.size<2
 ·rw [if_pos h2,if_pos h2]
  refine wpAny_bind (wpAny_pure ?_)
  dsimp only
  rw [StateT.run_pure]
  refine wpAny_bind (wpAny_pure (h _ (Array.Perm.refl _) rfl λi j hj hi ij=>?_))
  have e:i=j:=by
   have:j<(ks.toArray.zip us.toArray).size:=hj
   rw [sz] at this
   simp only [List.size_toArray] at h2
   omega
  subst e
  exact Ky.irr _
 ·rw [if_neg h2,if_neg h2]
  simp only [List.size_toArray] at h2
  refine wpAny_bind (xE (k0:=k0) (by intro e;rw [e] at hl;simp at hl;omega) hf hk ?_)
  have key:∀ v∈ks,KR s v (cc s v)/\Ky.shp k0 (cc s v)=true:=λv hv=>by
   obtain ⟨k,r,e⟩:=hk v hv
   rw [gR r];exact ⟨r,e⟩
  have mem:∀ p∈(ks.toArray.zip us.toArray).toList,p.1∈ks:=λp hp=>by
   rw [show (ks.toArray.zip us.toArray).toList=ks.zip us by simp] at hp
   exact (List.of_mem_zip hp).1
  have shp2:∀ x∈ks.map (cc s),∀ y∈ks.map (cc s),Ky.shp x y=true:=λx hx y hy=>by
   rw [List.mem_map] at hx hy
   obtain ⟨v,hv,rfl⟩:=hx
   obtain ⟨v',hv',rfl⟩:=hy
   exact Ky.shp_trans (Ky.zi (key v hv).2) (key v' hv').2
  let ρ:Keyed->Nat:=λp=>rnk (ks.map (cc s)) (cc s p.1)
  have C:Cm prog w A s (dX k0) (ks.toArray.zip us.toArray) ρ:=λx y hx hy E' Q' q'=>by
   have mx:=mem x hx
   have my:=mem y hy
   have q2:Q' (Ky.lt (cc s x.1) (cc s y.1)) s:=by
    rw [<- tJ shp2 (List.mem_map_of_mem mx) (List.mem_map_of_mem my)];exact q'
   rw [<- Dz (key x.1 mx).2]
   refine FT (key x.1 mx).1 (key y.1 my).1 (shp2 _ (List.mem_map_of_mem mx) _ (List.mem_map_of_mem my)) (Bb (key x.1 mx).2 hf) ?_ q2
   rw [<- Ky.shp_dep (key x.1 mx).2];exact hu
  refine wpAny_bind (wpAny_mono (Dx (E:=E) (st:=SortSt.mk' (dX k0) (ks.toArray.zip us.toArray) #[] 7 none) (Q:=λ_ z=>(arrOf z).Perm (ks.toArray.zip us.toArray)/\failedOf z=none/\Up ρ (arrOf z) (ks.toArray.zip us.toArray).size) C ⟨Array.Perm.refl _,rfl,rfl,rfl⟩ (by rw [sz];omega) (by rw [sz];exact h64)
   λz a1 a2 a3=>⟨a1,a2,a3⟩) ?_ λ_ _ e=>e)
  rintro ⟨⟨⟩,z⟩ s' ⟨rfl,zp,zf,zu⟩
  refine h z zp zf λi j hj hi ij=>?_
  have up:=zu i j ij (by rw [<- zp.size_eq];exact hj)
  have mz:∀ k (hk:k<(arrOf z).size),(arrOf z)[k].1∈ks:=λk hk=>mem _ ((Array.perm_iff_toList_perm.mp zp).mem_iff.mp (by simp))
  have e1:∀ k (hk:k<(arrOf z).size),rk ρ (arrOf z) k=ρ (arrOf z)[k]:=λk hk=>by unfold rk;rw [getElem?_pos _ k hk];rfl
  rw [e1 i hi,e1 j hj] at up
  rw [<- tJ shp2 (List.mem_map_of_mem (mz j hj)) (List.mem_map_of_mem (mz i hi))]
  exact decide_eq_false (Nat.not_lt.mpr up)
end S6
namespace T2
open PySem PySem.Spec PyProof.Rows L2 S6
mutual
def tre:Ky->T
 |.i n=>.int n
 |.s x=>.str x
 |.tt v=>.bl v
 |.nil=>.tup []
 |.cons h t=>.tup (tre h::gH t)
def gH:Ky->List T
 |.cons h t=>tre h::gH t
 |_=>[]
end
theorem lg:∀ k:Ky,bq (tre k)=some k.dat/\aY (gH k)=some k.row
 |.i n=>⟨rfl,rfl⟩
 |.s n=>⟨rfl,rfl⟩
 |.tt n=>⟨rfl,rfl⟩
 |.nil=>⟨rfl,rfl⟩
 |.cons h t=>by
  have h1:=(lg h).1
  have h2:=(lg t).2
  exact ⟨by show (aY (tre h::gH t)).map PyData.tuple=_;rw [rA h1 h2];rfl,rA h1 h2⟩
theorem kf {X:Cx}{K:Fg}{pins:List (Addr×Obj)}{σ:L2.St}{H:Hp}{S:Sto}{s:Shared}{k:Ky}{v:V}{u:Value}(hK:X.K=K) (I:Inv X pins σ H s) (r:Rp K H S (tre k) v) (rv:aq v u) (ok:Ky.ok k=true):KR s u k:=by
 subst hK
 exact ⟨ok,cF I (lQ r (lg k).1) rv⟩
theorem jn {α β:Type}(f:α->β){m n:List β}(h:m.Perm n):∀ {l:List α},n=l.map f->∃ l':List α,l'.Perm l/\m=l'.map f:=by
 induction h with
 |nil =>
  intro l e
  exact ⟨[],by rw [List.map_eq_nil_iff.mp e.symm],rfl⟩
 |cons x _ ih =>
  intro l e
  cases l with
  |nil=>cases e
  |cons a l =>
   simp only [List.map_cons,List.cons.injEq] at e
   obtain ⟨l',p,q⟩:=ih e.2
   exact ⟨a::l',p.cons a,by rw [List.map_cons,q,e.1]⟩
 |swap x y z =>
  intro l e
  cases l with
  |nil=>cases e
  |cons a l =>
   cases l with
   |nil=>simp at e
   |cons b l =>
    simp only [List.map_cons,List.cons.injEq] at e
    exact ⟨b::a::l,List.Perm.swap a b l,by rw [List.map_cons,List.map_cons,e.1,e.2.1,e.2.2]⟩
 |trans _ _ ih1 ih2 =>
  intro l e
  obtain ⟨l',p,q⟩:=ih2 e
  obtain ⟨l2,p2,q2⟩:=ih1 q
  exact ⟨l2,p2.trans p,q2⟩
structure Rec where
 t:T
 v:V
 u:Value
 ku:Value
section
variable {X:Cx}{K:Fg}{pins:List (Addr×Obj)}{σ:L2.St}{H H':Hp}{S:Sto}{s:Shared}
theorem lY:∀ {ts:List T}{vs:List V}{us ks:List Value},Rps K H S ts vs->al vs us->ks.length=us.length->∃ R:List Rec,R.map (·.t)=ts/\R.map (·.v)=vs/\R.map (·.u)=us/\R.map (·.ku)=ks/\∀ r∈R,Rp K H S r.t r.v/\aq r.v r.u
 |_,_,_,[],.nil,.nil,_=>⟨[],rfl,rfl,rfl,rfl,λ_ h=>by cases h⟩
 |_,_,_,_::_,.nil,.nil,h=>by simp at h
 |_,_,_,[],.cons _ _,.cons _ _,h=>by simp at h
 |t::ts,v::vs,u::us,k::ks,.cons a b,.cons c d,h=>by
  obtain ⟨R,e1,e2,e3,e4,e5⟩:=lY b d (by simpa using h)
  refine ⟨⟨t,v,u,k⟩::R,by simp [e1],by simp [e2],by simp [e3],by simp [e4],λr hr=>?_⟩
  rcases List.mem_cons.mp hr with rfl|hr
  ·exact ⟨a,c⟩
  ·exact e5 r hr
theorem lh:∀ {R:List Rec},(∀ r∈R,Rp K H S r.t r.v/\aq r.v r.u)->Rps K H S (R.map (·.t)) (R.map (·.v))/\al (R.map (·.v)) (R.map (·.u))
 |[],_=>⟨.nil,.nil⟩
 |r::R,h=>by
  obtain ⟨a,b⟩:=h r (List.mem_cons_self ..)
  obtain ⟨c,d⟩:=lh λx hx=>h x (List.mem_cons_of_mem _ hx)
  exact ⟨.cons a c,.cons b d⟩
end
theorem xf (a f:Value):argsOk "sorted" ⟨[a],[(Str.ofString "key",f)]⟩:=by unfold argsOk;kernel_rfl
theorem wU (a f:Value):argsOk "list.sort" ⟨[a],[(Str.ofString "key",f)]⟩:=by unfold argsOk;kernel_rfl
theorem ou {prog:Program}{w:World}{A:Around}{E:Value->Shared->Prop}{s:Shared}{Ty:String}{name:Str}{id:String}{b:Builtin}{self:Value}{rest:List Value}{kw:List (Str×Value)}{Q:Value->Shared->Prop}(h:Slot Ty name id) (hT:s.TypeIs self Ty)
  (hb:entryFor table id=some b) (hc:wpAny (model prog w) A.in1 (b ⟨self::rest,kw⟩) (λfin s'=>∃ v,fin=.done (.ret v)/\Q v s') E s) (ha:argsOk id ⟨self::rest,kw⟩):wpAny (model prog w) A (call (.builtin id) (self::rest) kw) Q E s:=by
 refine wpAny_call (codeAny_call_builtin h.plain hb (h.check _ _ _ _ _ _ _ _ hT ha (wpAny_mono hc (λfin s' h'=>?_) λ_ _ h'=>h')))
 obtain ⟨v,rfl,hv⟩:=h';exact hv
theorem xo (a fa:Addr):Builtin.«list.sort» ⟨[.ref a],[(Str.ofString "key",.ref fa)]⟩=(do
  let items <- Builtin.List.listItems (.ref a)
  Builtin.List.listUpdate (.ref a) λ_=>#[]
  let before <- seqEpoch a
  let held <- newTuple items.toList
  let keyStore <- newList []
  holding [held,keyStore] do
   rule "list.sort.key"
   for x in items do
    match <- (call (.ref fa) [x]).attempt with
    |.ok k=>Builtin.List.listUpdate keyStore (·.push k)
    |.error e =>
     rule "list.sort.key-raised"
     let made <- Builtin.List.listItems keyStore
     Builtin.List.listUpdate keyStore λ_=>#[]
     letGo made.toList.reverse [e]
     Builtin.List.listUpdate (.ref a) λ_=>items;throw e
   let keys <- Builtin.List.listItems keyStore
   let kind <- if items.size<2 then pure general' else keyKind' keys
   let ((),s) <- (if items.size<2 then pure () else sortRuns').run (SortSt.mk' kind (keys.zip items) #[] 7 none)
   let sorted:=(arrOf s).map (·.2)
   Builtin.List.listUpdate keyStore λ_=>#[]
   letGo ((arrOf s).map (·.1)).toList (failedOf s).toList
   let touched:=(<- seqEpoch a) != before
   Builtin.List.listUpdate (.ref a) λ_=>sorted
   if let some e:=failedOf s then rule "list.sort.comparison-raised";throw e
   if touched then rule "list.sort.modified";raiseError "ValueError" "list modified during sort"
   ret .none):=by rfl
section
variable {X:Cx}{K:Fg}{pins:List (Addr×Obj)}{σ:L2.St}{H H':Hp}{S:Sto}{s:Shared}
theorem jR {D:Addr}{φ:Heap->Prop}{ws:List V}{its its':List Value}{n:Nat}{f:Array Value->Array Value}(I:Inv X pins σ H s) (h:H D=some (.ext φ)) (e:s.heap.get? D=some (seqObj "list" its.toArray n)) (hf:f its.toArray=its'.toArray) (r:al ws its') (hz:ws.length<=sizeLine) :
  Inv X pins σ (upd H D (bc D ws)) { s with heap:=s.heap.update D (Obj.mapSeq f) }:=by
 obtain ⟨hh,g,d,t,os⟩:=s
 have e2:=get?_update_seq e f
 rw [hf] at e2
 refine I.write (t':=t) (h':=hh.update D (Obj.mapSeq f)) (x:=D) (e:=D) (by rw [h];trivial) (.inl rfl) (λb u hb q=>(Heap.get?_update_other _ _ (Ne.symm hb)).trans q) ⟨_,e2⟩ ⟨⟨hz,its',_,r,e2⟩,⟨_,e2⟩,λh1 h2 ⟨z',i',n',r',q'⟩ k=>⟨z',i',n',r',k _ q'⟩⟩
theorem vk {D:Addr}{zs:List V}(I:Inv X pins σ H s) (h:H D=some (bc D zs)):zs.length<=sizeLine/\∃ its n,al zs its/\s.heap.get? D=some (seqObj "list" its.toArray n):=by
 obtain ⟨⟨z,its,n,r,e⟩,_,_⟩:=I.hok D _ h
 exact ⟨z,its,n,r,e⟩
theorem tL {D:Addr}{zs:List V}{its:List Value}{n t':Nat}{h':Heap}(I:Inv X pins σ H s) (k:∀ b u,s.heap.get? b=some u->h'.get? b=some u) (hp:s.heap.objs.size<=D) (r:al zs its) (hz:zs.length<=sizeLine)
  (e:h'.get? D=some (seqObj "list" its.toArray n)):Inv X pins σ (upd H D (bc D zs)) { s with heap:=h',toks:=t' } :=
 I.laid k hp ⟨⟨hz,its,n,r,e⟩,⟨_,e⟩,λh1 h2 zz94 k=>by obtain ⟨z',i',n',r',q'⟩:=zz94;exact ⟨z',i',n',r',k _ q'⟩⟩
end
def ci (D:Addr) (o:Obj):HO:=.ext λh=>h.get? D=some o
theorem tM {X:Cx}{pins:List (Addr×Obj)}{σ:L2.St}{H:Hp}{s:Shared}{D:Addr}{o:Obj}{t':Nat}{h':Heap}(I:Inv X pins σ H s) (k:∀ b u,s.heap.get? b=some u->h'.get? b=some u) (hp:s.heap.objs.size<=D) (e:h'.get? D=some o):Inv X pins σ (upd H D (ci D o)) { s with heap:=h',toks:=t' } :=
 I.laid k hp ⟨e,⟨_,e⟩,λh1 h2 p k=>k _ p⟩
theorem vm {X:Cx}{pins:List (Addr×Obj)}{σ:L2.St}{H:Hp}{s:Shared}{D:Addr}{o:Obj}(I:Inv X pins σ H s) (h:H D=some (ci D o)):s.heap.get? D=some o:=(I.hok D _ h).1
def wA (tr:Bool) (xs:List T) (κ:T->Ky) (S:Sto) (Q:T->Sto->Prop):Prop:=∀ zs:List T,zs.Perm xs->zs.Pairwise (λa b=>Ky.lt (κ b) (κ a)=false)->newL tr zs S Q
def mJ (tr:Bool) (f:Addr) (wsp:WSp):List T->List T->Sto->(T->Sto->Prop)->Prop:=λts us S Q=>∃ x xs κ k0,ts=[x]/\us=[.ref f]/\aH S x=some xs/\xs.length<64/\fit k0=true/\k0.dep<=30 /\
 (∀ t∈xs,Ky.ok (κ t)=true/\Ky.shp k0 (κ t)=true/\∀ S' Q',Q' (tre (κ t)) S'->wsp [t] S' Q')/\wA tr xs κ S Q
def lCK (K:Fg) (g:List T->List T->Sto->(T->Sto->Prop)->Prop):List V->List V->Hp->VK->Prop:=λxs zs H Q=>∃ S ts us Qt,SRp K H S/\Rps K H S ts xs/\Rps K H S us zs/\g ts us S Qt/\Bh K H S Qt Q
theorem Bc {X:Cx}{K:Fg}(tr:Bool){k:Nat}{f:Addr}{fd:FuncData}{x p:Str}{wsp:WSp}(hK:X.K=K) (F:FnOk X.prog X.w X.K X.mg X.base CX0 k f fd [p] (lSp K wsp)) (D:Df X.K X.mg x f fd [p]) (hr:Room (k+2) X.A) :
  hZ X (.builtin "sorted") [Str.ofString "key"] (lCK K (mJ tr f wsp)):=by
 rintro pins s σ H xs zs us ws Q I rv rz ⟨S,ts,us',Qt,sr,r1,r2,⟨x,ls,κ,k0,e1,e2,ev,h64,hf,hd,hk,hq⟩,b⟩
 subst e1 e2
 cases r1 with
 |cons rx rnil =>
 cases rnil
 cases r2 with
 |cons rf rnil =>
 cases rnil
 cases rf
 obtain ⟨u,rfl,ru⟩:=bg rv
 obtain ⟨u',rfl,ru'⟩:=bg rz
 obtain ⟨pl,vs,rfl,hS,rs⟩:=bF sr rx ev
 cases ru
 cases ru'
 have hS':SqL X.K H pl vs:=by rw [hK];exact hS
 obtain ⟨its,rvs,hpl,hz⟩:=I.list hS'
 obtain ⟨o,n,eo,ec,_,ed⟩:=hpl
 have hlen:its.length=ls.length:=by rw [<- rvs.length,rs.length]
 have hsl:its.length<=sizeLine:=by rw [<- rvs.length];exact hz
 show wpAny _ X.A (call (.builtin "sorted") [.ref pl] [(Str.ofString "key",.ref f)]) _ _ s
 refine kP kind_sorted plain_sorted entry_sorted (xf _ _) ?_
 unfold Builtin.«sorted»
 refine wpAny_bind (m:=checkCount "sorted" 1 1 _) (wpAny_pure ?_)
 refine wpAny_bind (collect_list (l:=pl) (vs:=its) ⟨o,eo,ec,n,ed⟩ ?_ hsl)
 refine wpAny_bind (wpAny_newList ?_ hsl)
 generalize hh1:(s.heap.push (seqObj "list" #[] 0)).update s.heap.objs.size (Obj.mapSeq (·++its.toArray))=h1
 have old1:∀ b u,s.heap.get? b=some u->h1.get? b=some u:=λb u e=>by
  rw [<- hh1]
  exact (Heap.get?_update_other _ _ (Ne.symm (Nat.ne_of_lt (Heap.lt_size e)))).trans (Heap.get?_push_of_some _ e)
 have sz1:s.heap.objs.size<=h1.objs.size:=by rw [<- hh1,Heap.size_update,size_push'];omega
 dsimp only
 have hoL:(h1.push (seqObj "list" its.toArray 0)).get? h1.objs.size=some (seqObj "list" its.toArray 0):=Heap.get?_push_size _ rfl
 refine wpAny_bind (wpAny_holding (ou slot_list_sort (Ty:="list") ⟨_,hoL,rfl⟩ entry_list_sort ?_ (wU _ _)))
 rw [xo]
 refine wpAny_bind (listItems_at hoL rfl ?_)
 refine wpAny_bind (listUpdate_at hoL rfl ?_ (by simpa using hsl) (by simp))
 obtain ⟨ep,ho1⟩:∃ ep,((h1.push (seqObj "list" its.toArray 0)).update h1.objs.size (Obj.mapSeq λ_=>#[])).get? h1.objs.size=some (seqObj "list" #[] ep):=⟨_,get?_update_seq hoL (λ_=>#[])⟩
 refine wpAny_bind (seqEpoch_at ho1 rfl ?_)
 generalize hL:h1.objs.size=L at *
 generalize hh2:(h1.push (seqObj "list" its.toArray 0)).update L (Obj.mapSeq λ_=>#[])=h2 at *
 have szh2:h2.objs.size=L+1:=by rw [<- hh2,Heap.size_update,size_push',hL]
 have I2:Inv X pins σ (upd H L (ci L (seqObj "list" #[] ep))) { s with heap:=h2,toks:=s.toks } :=
  tM I (λb u e=>by rw [<- hh2];exact (Heap.get?_update_other _ _ (Ne.symm (Nat.ne_of_lt (Nat.lt_of_lt_of_le (Heap.lt_size e) sz1)))).trans (Heap.get?_push_of_some _ (old1 b u e))) sz1 ho1
 refine wpAny_bind (wpAny_newTuple ?_ (by simpa using hsl))
 refine wpAny_bind (wpAny_newList ?_)
 dsimp only
 generalize hh3:h2.push { cls:=.type "tuple",data:=.seq its.toArray.toList.toArray }=h3
 have szh3:h3.objs.size=L+2:=by rw [<- hh3,size_push',szh2]
 generalize hh4:h3.push { cls:=.type "list",data:=.seq ([]:List Value).toArray }=h4
 rw [szh3]
 have I4:Inv X pins σ (upd (upd H L (ci L (seqObj "list" #[] ep))) (L+2) (bc (L+2) [])) { s with heap:=h4,toks:=s.toks } :=
  tL (s:={ s with heap:=h2,toks:=s.toks }) I2 (λb u e=>by rw [<- hh4,<- hh3];exact Heap.get?_push_of_some _ (Heap.get?_push_of_some _ e)) (by show h2.objs.size<=_;omega) .nil (Nat.zero_le _) (by rw [<- hh4,<- szh3];exact Heap.get?_push_size _ rfl)
 have ne1:L+2≠L:=Nat.ne_of_gt (Nat.lt_add_of_pos_right (by decide))
 have ne2:L≠L+2:=Ne.symm ne1
 have nL:H L=none:=I.hok.fresh sz1
 have nk:H (L+2)=none:=I.hok.fresh (by omega)
 have nk2:upd H L (ci L (seqObj "list" #[] ep)) (L+2)=none:=by rw [aB ne1];exact nk
 refine wpAny_holding (wpAny_bind (wpAny_rule (wpAny_bind ?_)))
 refine PySem.MeetsSeq2.wpAny_forIn_array _ (λrest _ s'=>∃ i kvs Hc,rest=its.drop i/\i<=its.length/\Inv X pins σ Hc s'/\Hc L=some (ci L (seqObj "list" #[] ep))/\Hc (L+2)=some (bc (L+2) kvs)/\S L=none/\S (L+2)=none/\Fr H S Hc S/\SRp K Hc S/\Rps K Hc S ((ls.take i).map λt=>tre (κ t)) kvs) _ ?_ ?_ _ _
  ⟨0,[],_,by simp,Nat.zero_le _,I4,by rw [aB ne2];exact aI,aI,sr.fresh nL,sr.fresh nk,(Fr.new nL).trans (Fr.new nk2),(sr.new nL).new nk2,.nil⟩
 ·rintro u0 rest ⟨⟩ s' ⟨i,kvs,Hc,hrest,hi,Ic,eL,ek,nSL,nSk,fc,sc,rk⟩
  have il:i<its.length:=by
   rcases Nat.lt_or_ge i its.length with z|z
   ·exact z
   ·rw [List.drop_eq_nil_of_le z] at hrest;cases hrest
  have hi1:its[i]?=some its[i]:=by simp [il]
  rw [jx hi1] at hrest
  obtain ⟨rfl,rfl⟩:=List.cons.inj hrest
  have il2:i<ls.length:=by rw [<- hlen];exact il
  have hi2:ls[i]?=some ls[i]:=by simp [il2]
  obtain ⟨v,ev,rv0⟩:=rs.get hi2
  obtain ⟨u1,eu,ru1⟩:=rvs.get ev
  rw [hi1] at eu;cases eu
  have hkt:=hk ls[i] (by simp)
  refine wpAny_bind (wpAny_attempt (wpAny_call (codeAny_mono (F.run X.A.in1.in1 X.stack s' Hc ⟨[its[i]],[]⟩ [its[i]] [v] (λv' H'=>Fr Hc S H' S/\SRp K H' S/\Rp K H' S (tre (κ ls[i])) v') E0 hr.in1.in1 Ic.env0.in1.in1 (D.b s' [its[i]] Ic.kIn rfl) (.cons ru1 .nil)
   ⟨S,[ls[i]],λk' S'=>S'=S/\k'=tre (κ ls[i]),sc,.cons (rv0.fr fc) .nil,hkt.2.2 S _ ⟨rfl,rfl⟩,λv' H' t' S' f' s' r' q'=>by obtain ⟨rfl,rfl⟩:=q';exact ⟨f',s',r'⟩⟩) λr s2 hr2=>?_)))
  cases r with
  |error e=>exact False.elim hr2
  |ok fl =>
   cases fl with
   |next=>exact False.elim hr2
   |brk=>exact False.elim hr2
   |cont=>exact False.elim hr2
   |ret ku =>
    obtain ⟨v',H',I',r',f',s'',rp'⟩:=Ic.after hr2
    have ek':=(f' (L+2) _ ek nSk).1
    have eL':=(f' L _ eL nSL).1
    obtain ⟨zz,kus,nn,rku,eku⟩:=vk I' ek'
    have lk:kvs.length=i:=by rw [rk.length];simp;omega
    have lk2:kus.length=i:=by rw [<- rku.length];exact lk
    dsimp only
    refine wpAny_bind (listUpdate_at eku rfl ?_ (by simp;omega) (by simp;omega))
    refine wpAny_pure ⟨i+1,kvs++[v'],_,rfl,il,jR I' ek' eku (its':=kus++[ku]) (by simp) (rku.append (.cons r' .nil)) (by simp;omega),?_,aI,nSL,nSk,?_,s''.chg ek' nSk,?_⟩
    ·rw [aB ne2];exact eL'
    ·exact Fr.at (fc.trans f') nk
    ·rw [List.take_add_one,hi2]
     simp only [Option.toList_some,List.map_append,List.map_cons,List.map_nil]
     exact Rps.chg ek' ((rk.fr f').append (.cons rp' .nil))
 ·rintro ⟨⟩ s5 ⟨i,kvs,Hc,hrest,hi,I5,eL,ek,nSL,nSk,fc,sc,rk⟩
  have hi':i=ls.length:=by
   rcases Nat.lt_or_ge i its.length with z|z
   ·have hi1:its[i]?=some its[i]:=by simp [z]
    rw [jx hi1] at hrest;cases hrest
   ·omega
  subst hi'
  rw [List.take_length] at rk
  obtain ⟨zz,kus,nn,rku,eku⟩:=vk I5 ek
  have lk2:kus.length=its.length:=by rw [<- rku.length,rk.length,List.length_map,hlen]
  have rs5:=rs.fr fc
  obtain ⟨R,q1,q2,q3,q4,q5⟩:=lY rs5 rvs lk2
  have key:∀ r∈R,KR s5 r.ku (κ r.t)/\Ky.shp k0 (κ r.t)=true:=by
   have rkk:Rps K Hc S (R.map λr=>tre (κ r.t)) kvs:=by
    have:R.map (λr=>tre (κ r.t))=ls.map λt=>tre (κ t):=by rw [<- q1,List.map_map];rfl
    rw [this];exact rk
   have go:∀ {R:List Rec}{kvs:List V},Rps K Hc S (R.map λr=>tre (κ r.t)) kvs->al kvs (R.map (·.ku))->(∀ r∈R,r.t∈ls)->∀ r∈R,KR s5 r.ku (κ r.t)/\Ky.shp k0 (κ r.t)=true:=by
    intro R
    induction R with
    |nil=>intro _ _ _ _ r hr;cases hr
    |cons r0 R ih =>
     intro kvs a b m r hr
     cases a with
     |cons a1 a2 =>
      cases b with
      |cons b1 b2 =>
       rcases List.mem_cons.mp hr with rfl|hr
       ·have:=hk r.t (m r (List.mem_cons_self ..))
        exact ⟨kf hK I5 a1 b1 this.1,this.2.1⟩
       ·exact ih a2 b2 (λx hx=>m x (List.mem_cons_of_mem _ hx)) r hr
   exact go rkk (by rw [q4];exact rku) λr hr=>by rw [<- q1];exact List.mem_map_of_mem hr
  refine wpAny_bind (listItems_at eku rfl ?_)
  refine pV (k0:=k0) lk2 (by rw [hlen];exact h64) hf (λv hv=>?_) (by have:=hr.in1.in1.units;omega) λst hp hfail hsrt=>?_
  ·rw [<- q4] at hv
   obtain ⟨r,hr,rfl⟩:=List.mem_map.mp hv
   exact ⟨_,key r hr⟩
  ·obtain ⟨R',pR,eR⟩:=jn (λr:Rec=>((r.ku,r.u):Keyed)) (Array.perm_iff_toList_perm.mp hp) (l:=R) (by
    have:(kus.toArray.zip its.toArray).toList=kus.zip its:=by simp
    rw [this,<- q3,<- q4]
    exact List.zip_map')
   have memR:∀ r∈R',r∈R:=λr hr=>pR.mem_iff.mp hr
   obtain ⟨rz,vz⟩:=lh λr hr=>q5 r (memR r hr)
   have lR:R'.length=its.length:=by rw [pR.length_eq,<- q3,List.length_map]
   have szR:(arrOf st).size=R'.length:=by rw [<- Array.length_toList,eR,List.length_map]
   have at_:∀ k (h:k<(arrOf st).size) (h':k<R'.length),(arrOf st)[k].1=R'[k].ku:=λk h h'=>by
    have e1:(arrOf st)[k]=(arrOf st).toList[k]'(by simpa using h):=by simp
    rw [e1,List.getElem_of_eq eR,List.getElem_map]
   have srt:(R'.map (·.t)).Pairwise (λa b=>Ky.lt (κ b) (κ a)=false):=by
    rw [List.pairwise_map,List.pairwise_iff_getElem]
    intro i j hi hj ij
    have:=hsrt i j (by rw [szR];exact hj) (by rw [szR];exact hi) (Nat.le_of_lt ij)
    rw [at_ i (by rw [szR];exact hi) hi,at_ j (by rw [szR];exact hj) hj,gR (key _ (memR _ (List.getElem_mem hi))).1,gR (key _ (memR _ (List.getElem_mem hj))).1] at this
    exact this
   have fin:=hq (R'.map (·.t)) (by rw [<- q1];exact pR.map _) srt
   have eL5:=vm I5 eL
   have out:(arrOf st).map (·.2)=(R'.map (·.u)).toArray:=by
    apply Array.toList_inj.mp
    rw [Array.toList_map,eR,List.map_map]
    rfl
   dsimp only
   refine wpAny_bind (listUpdate_at eku rfl ?_ (by simp;omega) (by simp))
   refine wpAny_bind (wpAny_letGo ?_)
   have I6:=jR I5 ek eku (f:=λ_=>#[]) (its':=[]) (ws:=[]) rfl .nil (Nat.zero_le _)
   have eL6:(s5.heap.update (L+2) (Obj.mapSeq λ_=>#[])).get? L=some (seqObj "list" #[] ep):=(Heap.get?_update_other _ _ ne1).trans eL5
   have hL6:upd Hc (L+2) (bc (L+2) []) L=some (ci L (seqObj "list" #[] ep)):=by rw [aB ne2];exact eL
   refine wpAny_bind (seqEpoch_at eL6 rfl ?_)
   refine wpAny_bind (listUpdate_at eL6 rfl ?_ (by simp) (by rw [out];simp;omega))
   rw [hfail]
   simp only [bne_self_eq_false,Bool.false_eq_true,if_false]
   have I7:=jR I6 hL6 (its:=[]) eL6 (f:=λ_=>(arrOf st).map (·.2)) (its':=R'.map (·.u)) out vz (by rw [List.length_map,lR];exact hsl)
   have I8:=I7.ofAcc (D:=L) aI
   rw [gX] at I8
   refine wpAny_pure ⟨_,rfl,wpAny_pure ⟨.ref L,_,I8,rfl,?_⟩⟩
   have s6:=sc.chg (o:=bc (L+2) []) ek nSk
   have r6:=Rps.chg (o:=bc (L+2) []) ek rz
   have f6:Fr H S (upd Hc (L+2) (bc (L+2) [])) S:=Fr.at fc nk
   cases tr with
   |false=>exact b _ _ (.lst _) S (Fr.at f6 nL) (s6.chg hL6 nSL) (.lst nSL aI (Rps.chg hL6 r6)) fin
   |true =>
    refine b _ _ (.ref L) _ (λa o h nn=>?_) (SRp.trk hL6 s6 r6) .ref (fin L nSL)
    have ha:a≠L:=bj h nL
    rw [ak ha]
    exact Fr.at f6 nL a o h nn
def kg (g:Cp):G2:=λx y S Q=>∃ kx ky,x=tre kx/\y=tre ky/\Ky.ok kx=true/\Ky.ok ky=true/\Ky.shp kx ky=true/\kx.dep<=30/\Q (.bl (gl g kx ky)) S
theorem tN {X:Cx}{K:Fg}(g:Cp) (hK:X.K=K) (hu:X.A.units+64<cLine):OpR X (compareOp (cop g)) (l2 K (kg g)):=by
 subst hK
 rintro pins s σ H x y v u Q I rx ry ⟨S,tx,ty,Qt,sr,hx,hy,⟨kx,ky,e1,e2,ox,oy,hs,hd,q⟩,b⟩
 subst e1 e2
 obtain ⟨_,as,ra⟩:=kf rfl I hx rx ox
 obtain ⟨_,bs,rb⟩:=kf rfl I hy ry oy
 have z:=(jA g kx).1 (A:=X.A) hs ox oy ra rb (by omega) X.prog X.w X.xe (EP X pins σ Q) ⟨.bl (gl g kx ky),H,I,rfl,b _ H _ S .refl sr .bl q⟩
 cases g<;>exact z
theorem FU {X:Cx}{K:Fg}(hK:X.K=K) (hu:X.A.units+64<cLine):OpR X (compareOp .Lt) (l2 K (kg .lt)):=tN .lt hK hu
theorem FV {X:Cx}{K:Fg}(hK:X.K=K) (hu:X.A.units+64<cLine):OpR X (compareOp .LtE) (l2 K (kg .le)):=tN .le hK hu
theorem DA {S:Sto}{Q:T->Sto->Prop}{g:Cp}{x y:Ky}(h1:Ky.ok x=true) (h2:Ky.ok y=true) (h3:Ky.shp x y=true) (h4:x.dep<=30) (h:Q (.bl (gl g x y)) S):kg g (tre x) (tre y) S Q:=⟨x,y,rfl,rfl,h1,h2,h3,h4,h⟩
def wSK (g:List T->List T->Sto->(T->Sto->Prop)->Prop) (wr:WA) (wk:WE):WE:=λσ S Q=>wr σ S λts S1=>wk σ S1 λy S2=>g ts [y] S2 Q
theorem DB {K:Fg}{g:List T->List T->Sto->(T->Sto->Prop)->Prop}{wr:WA}{wk:WE}{σ H Q}(h:lE K (wSK g wr wk) σ H Q):nH (lCK K g) (lA K wr) (j3 (lE K wk) dn) σ H Q:=by
 obtain ⟨S,σt,Qt,s,c,q,hq⟩:=h
 refine ⟨S,σt,_,s,c,q,λvs H1 ts S1 f1 s1 r1 q1=>?_⟩
 refine ⟨S1,σt,_,s1,c.fr f1,q1,λy H2 ty S2 f2 s2 r2 q2=>?_⟩
 exact ⟨S2,ts,[ty],Qt,s2,r1.fr f2,.cons r2 .nil,q2,λv H' t S' f=>hq v H' t S' ((f1.trans f2).trans f)⟩
theorem Bd {X:Cx}{K:Fg}(tr:Bool){k:Nat}{f:Addr}{fd:FuncData}{fx pn:Str}{wsp:WSp}{p pos kp kpos:Pos}{e:Expr}{wr:WA}(hK:X.K=K) (F:FnOk X.prog X.w X.K X.mg X.base CX0 k f fd [pn] (lSp K wsp)) (D:Df X.K X.mg fx f fd [pn]) (hr:Room (k+2) X.A)
  (hg:Gl X "sorted") (hm:X.mg "sorted"=none) (hgf:Gl X fx) (ha:QA K X [e] wr) (hdb:(fx==("__debug__":Str))=false:=by decide)
  (hks:(backToKw pos (keywordEach [⟨some (Str.ofString "key"),.Name fx kp,kpos⟩] X.env)).filterMap (·.1)=[Str.ofString "key"]:=by rfl)
  (he:backTo pos (starEach [e] X.env)=(false,eval e X.env)::backTo pos (starEach [] X.env):=by rfl)
  (hplain:(backTo pos (starEach [e] X.env)).any (·.1)=false:=by rfl)
  (hall:(backToKw pos (keywordEach [⟨some (Str.ofString "key"),.Name fx kp,kpos⟩] X.env)).all (·.1.isSome)=true:=by rfl)
  (hkw2:(backToKw pos (keywordEach [⟨some (Str.ofString "key"),.Name fx kp,kpos⟩] X.env)).any (·.1.isNone)=false:=by rfl) :
  QE K X (.Call (.Name "sorted" p) [e] [⟨some (Str.ofString "key"),.Name fx kp,kpos⟩] pos) (wSK (mJ tr f wsp) wr (wC (.ref f))):=by
 have hk:QE K X (.Name fx kp) (wC (.ref f)):=mE (qV (v:=.ref f) hgf D.hm rfl hdb) λ_ _=>.ref
 exact PE.of (pP (Bc tr hK F D hr) hg hm PyProof.Rows.boot_sorted ha (re hk sT) hks (by decide) (by decide) he hplain hall hkw2) λ_ _ _ h=>DB h
theorem HC {σ:StT}{S:Sto}{Q:T->Sto->Prop}{g:List T->List T->Sto->(T->Sto->Prop)->Prop}{wr:WA}{wk:WE}(h:wr σ S λts S1=>wk σ S1 λy S2=>g ts [y] S2 Q):wSK g wr wk σ S Q:=h
theorem Be {α:Type}{S:Sto}{Q:T->Sto->Prop}{tr:Bool}{f:Addr}{wsp:WSp}{ft:α->T}{ls:List α}{x:T}(κT:T->Ky) (k0:Ky) (e:aH S x=some (ls.map ft)) (h64:ls.length<64) (hf:fit k0=true) (hd:k0.dep<=30)
  (hk:∀ a∈ls,Ky.ok (κT (ft a))=true/\Ky.shp k0 (κT (ft a))=true/\∀ S' Q',Q' (tre (κT (ft a))) S'->wsp [ft a] S' Q')
  (h:∀ l':List α,l'.Perm ls->l'.Pairwise (λa b=>Ky.lt (κT (ft b)) (κT (ft a))=false)->newL tr (l'.map ft) S Q):mJ tr f wsp [x] [.ref f] S Q:=by
 refine ⟨x,ls.map ft,κT,k0,rfl,rfl,e,by rw [List.length_map];exact h64,hf,hd,λt ht=>?_,λzs hp hs=>?_⟩
 ·obtain ⟨a,ha,rfl⟩:=List.mem_map.mp ht
  exact hk a ha
 ·obtain ⟨l',p,rfl⟩:=jn ft hp rfl
  rw [List.pairwise_map] at hs
  exact h l' p hs
end T2
namespace Tm
open PySem PySem.Spec PyProof.Rows
abbrev tl (x:Str):List Nat:=x.cps.toList
theorem ext {x y:Str}(h:tl x=tl y):x=y:=by cases x;cases y;simp only [tl] at h;rw [Array.toList_inj.mp h]
theorem len (x:Str):(tl x).length=x.length:=by simp [tl,Str.length]
theorem gg (x y:Str):tl (x++y)=tl x++tl y:=by show (x.cps++y.cps).toList=_;simp [tl]
theorem FW (l:List Nat):tl ⟨l.toArray⟩=l:=by simp [tl]
def aG (g:List Nat):List (List Nat)->List Nat
 |[]=>[]
 |[p]=>p
 |p::q::r=>p++g++aG g (q::r)
theorem li (g:Str):∀ ps:List Str,tl (Str.join g ps)=aG (tl g) (ps.map tl)
 |[]=>rfl
 |[p]=>rfl
 |p::q::r=>by
  have ih:=li g (q::r)
  show tl ((p++g++Str.join g (q::r)):Str)=tl p++tl g++aG (tl g) ((q::r).map tl)
  rw [<- ih,gg,gg]
theorem lZ (g:Str) (ps:List Str):tl (Txt.join g ps)=aG (tl g) (ps.map tl):=by
 rw [show Txt.join g ps=Str.join g ps from StrLaws.glued_eq_join g ps,li]
theorem vn:tl (" ":Str)=[32]:=by decide +kernel
theorem empty:tl ("":Str)=[]:=by decide +kernel
theorem jd (x:Str):aG [32] ((Txt.split x " ").map tl)=tl x:=by
 have:=li " " (Txt.split x " ")
 rw [StrLaws.join_split,vn] at this
 exact this.symm
theorem split_free (x:Str):∀ p∈(Txt.split x " ").map tl,32∉p:=λp hp=>by
 obtain ⟨q,hq,rfl⟩:=List.mem_map.mp hp
 exact StrLaws.split_free x 32 q hq
theorem gS (x:Str):(Txt.split x " ")≠[]:=λh=>by
 have:=split_pos x " "
 rw [h] at this;simp at this
theorem tO (n d:Nat) (h:d<=n) (o:Option Int):HT.sIx n d o<=n:=by
 cases o with
 |none=>exact h
 |some v=>simp only [HT.sIx];split<;>omega
theorem zl (lo hi:Option Int) (n:Nat):Builtin.Str.strSliceIndices lo hi 1 n=(List.range (HT.sIx n n hi - HT.sIx n 0 lo)).map λk=>HT.sIx n 0 lo+k:=by
 have c:∀ i:Int,max 0 (min (if i<0 then i+(n:Int) else i) (n:Int))=(((if i<0 then (i+(n:Int)).toNat else min i.toNat n):Nat):Int):=λi=>by split<;>omega
 have key:Builtin.Str.strSliceIndices lo hi 1 n=sliceRange ((HT.sIx n 0 lo:Nat):Int) ((HT.sIx n n hi:Nat):Int) 1:=by
  unfold Builtin.Str.strSliceIndices
  cases lo with
  |none =>
   cases hi with
   |none=>rfl
   |some j=>simp only [show (1:Int)>0 by decide,if_true,c,HT.sIx];rfl
  |some i =>
   cases hi with
   |none=>simp only [show (1:Int)>0 by decide,if_true,c,HT.sIx]
   |some j=>simp only [show (1:Int)>0 by decide,if_true,c,HT.sIx]
 rw [key]
 unfold sliceRange
 simp only [show (1:Int)>0 by decide,if_true,Int.one_mul]
 have hc:(if ((HT.sIx n 0 lo:Nat):Int)<((HT.sIx n n hi:Nat):Int) then (((HT.sIx n n hi:Nat):Int) - ((HT.sIx n 0 lo:Nat):Int)+1 - 1) / 1 else 0).toNat=HT.sIx n n hi - HT.sIx n 0 lo:=by
  split
  ·rw [Int.ediv_one];omega
  ·simp;omega
 rw [hc]
 apply List.map_congr_left
 intro k _
 omega
theorem zm (x:Str) (lo hi:Option Int):tl (Txt.slice x lo hi)=((tl x).drop (HT.sIx x.length 0 lo)).take (HT.sIx x.length x.length hi - HT.sIx x.length 0 lo):=by
 have hA:=tO x.length 0 (Nat.zero_le _) lo
 have hB:=tO x.length x.length (Nat.le_refl _) hi
 have hl:=len x
 unfold Txt.slice
 rw [zl]
 split
 ·next h =>
  simp only [beq_self_eq_true,Bool.true_and,List.length_map,List.length_range,beq_iff_eq] at h
  have h0:HT.sIx x.length 0 lo=0\/x.length=0:=by omega
  rcases h0 with h0|h0
  ·rw [h0,List.drop_zero,List.take_of_length_le (by omega)]
  ·have:tl x=[]:=List.length_eq_zero_iff.mp (by omega)
   rw [this];simp
 ·rw [FW]
  have:=StrLaws.picks (tl x) (HT.sIx x.length x.length hi - HT.sIx x.length 0 lo) (HT.sIx x.length 0 lo)
  by_cases hle:HT.sIx x.length 0 lo<=HT.sIx x.length x.length hi
  ·rw [<- this (by rw [hl];omega)]
   simp [tl]
  ·rw [show HT.sIx x.length x.length hi - HT.sIx x.length 0 lo=0 by omega];simp
theorem d6 (x:Str) (k:Nat):tl (Txt.slice x none (some k))=(tl x).take k:=by
 rw [zm,HT.sIx_none,HT.sIx_nat,List.drop_zero,Nat.sub_zero,<- len x,<- List.take_take,List.take_of_length_le (Nat.le_refl _)]
theorem c9 (x y:Str):Txt.startswith x y=decide ((tl x).take (tl y).length=tl y):=by
 unfold Txt.startswith
 rw [StrLaws.subAt_eq,List.drop_zero,Nat.zero_add,len]
 by_cases h:y.length<=x.length
 ·simp only [h,decide_true,Bool.true_and]
  rw [Bool.eq_iff_iff];simp
 ·simp only [h,decide_false,Bool.false_and]
  symm
  rw [decide_eq_false_iff_not]
  intro e
  have:=congrArg List.length e
  rw [List.length_take,len,len] at this
  omega
theorem jS {g:Str}{ps:List Str}{b:Nat}(h:∀ p∈ps,p.length<=b) (h2:ps.length * (b+g.length)<=10000):JoinOk g ps=true:=by
 have main:∀ (ps:List Str) (acc:Nat),(∀ p∈ps,p.length<=b)->ps.foldl (λa p=>a+p.length+g.length) acc<=acc+ps.length * (b+g.length):=by
  intro ps
  induction ps with
  |nil=>intro acc _;simp
  |cons p r ih =>
   intro acc h
   have:=ih (acc+p.length+g.length) λq hq=>h q (List.mem_cons_of_mem _ hq)
   have hp:=h p List.mem_cons_self
   simp only [List.foldl_cons,List.length_cons,Nat.add_mul,Nat.one_mul] at this ⊢
   omega
 have:=main ps 0 h
 unfold JoinOk Builtin.Str.tooLong
 rw [List.foldl_toArray]
 have hs:sizeLine=16777216:=sizeLine_eq
 simp only [Bool.not_eq_true',decide_eq_false_iff_not]
 omega
theorem jo (zs:List Str):T2.dM (zs.map T2.T.str)=some zs:=by
 induction zs with
 |nil=>rfl
 |cons a l ih=>simp [T2.rE,ih]
theorem lj (zs:List Int):T2.dL (zs.map T2.T.int)=some zs:=by
 induction zs with
 |nil=>rfl
 |cons a l ih=>simp [T2.lU,ih]
theorem rO (d:Nat):Str.length ⟨#[d]⟩=1:=rfl
theorem d5:Str.length (Str.ofString " ")=1:=by decide +kernel
theorem yt:Str.length (Str.ofString "")=0:=by decide +kernel
theorem l6 (g:Str){b:Nat}:∀ zs:List Str,(∀ y∈zs,y.length<=b)->(Txt.join g zs).length<=zs.length * (b+g.length):=by
 intro zs h
 rw [<- len,lZ,<- len g]
 induction zs with
 |nil=>simp [aG]
 |cons y r ih =>
  have hy:=h y List.mem_cons_self
  rw [<- len] at hy
  have h3:=ih λq hq=>h q (List.mem_cons_of_mem _ hq)
  cases r with
  |nil=>simp only [List.map_cons,List.map_nil,aG,List.length_cons,List.length_nil];omega
  |cons y2 r2 =>
   simp only [List.map_cons,aG,List.length_append,List.length_cons,Nat.add_mul,Nat.one_mul] at h3 ⊢
   omega
theorem xp (x:Str){k:Int}(h:0<=k):(Txt.slice x none (some k)).length<=k.toNat:=by
 have e:((k.toNat:Nat):Int)=k:=by omega
 rw [<- len,<- e,d6,List.length_take];omega
theorem pW (g:List Nat):∀ (ps:List (List Nat)) (p:List Nat),p∈ps->p.length<=(aG g ps).length
 |[],_,h=>by cases h
 |[q],p,h=>by rw [List.mem_singleton.mp h];simp [aG]
 |q::q2::r,p,h=>by
  simp only [aG,List.length_append]
  rcases List.mem_cons.mp h with rfl|h
  ·omega
  ·have:=pW g (q2::r) p h
   omega
theorem kZ {a x:Str}(h:x∈Txt.split a " "):x.length<=a.length:=by
 have:=pW [32] _ _ (List.mem_map_of_mem (f:=tl) h)
 rw [jd,len,len] at this
 exact this
theorem je (p:List Nat) (r:List (List Nat)) (h:r≠[]):aG [32] (p::r)=p++32::aG [32] r:=by
 cases r with
 |nil=>exact absurd rfl h
 |cons q r=>simp [aG]
def b5:List Nat->List (List Nat)
 |[]=>[]
 |c::r=>if c=32 then r::b5 r else b5 r
theorem i7 (x y:Str):Txt.startswith x y=decide (Txt.slice x none (some (y.length:Int))=y):=by
 rw [c9,len,Bool.eq_iff_iff]
 simp only [decide_eq_true_eq]
 constructor
 ·intro h;exact ext (by rw [d6];exact h)
 ·intro h;rw [<- d6,h]
end Tm
namespace T2
open PySem PySem.Spec PyProof.Rows L2
section
variable {K:Fg}{X:Cx}{k:Nat}{f:Addr}{fd:FuncData}{ps:List Str}{wsp:WSp}{x m:Str}{p pos apos cpos:Pos}{e o:Expr}{es:List Expr}{wa wb:WE}{wr:WA}{id ty:String}{g:GC}{gm:GM}{i:Nat}
theorem ac (i:Nat) (hN:X.N[i]?=some x:=by rfl) (hv:Vis X.env.scope x:=by first|exact Or.inl rfl|exact Or.inr (Or.inl rfl)|exact Or.inr (Or.inr rfl)) (hd:(x==("__debug__":Str))=false:=by decide)
  (hcd:(x==("__classdict__":Str))=false:=by decide):QE K X (.Name x pos) (wV i):=ET (B8 hN hv hd hcd)
theorem nN {n:String}(hg:Gl X x) (hm:X.mg x=none) (hv:bootBuiltins x=some (.type n)) (hn:x ≠ "__name__":=by decide) (hd:(x==("__debug__":Str))=false:=by decide):QE K X (.Name x pos) (wC (.ty n)) :=
 mE (z8 (v:=.ty n) hg hm hv rfl hn hd) λ_ _=>.ty
theorem mK {n:Int}(hg:Gl X x) (hm:∃ tk,X.mg x=some (.int n tk)) (hd:(x==("__debug__":Str))=false:=by decide):QE K X (.Name x pos) (wC (.int n)):=by
 obtain ⟨tk,hm⟩:=hm
 exact mE (qV (v:=.int n) hg hm ⟨tk,rfl⟩ hd) λ_ _=>.int
theorem ax (F:FnOk X.prog X.w X.K X.mg X.base CX0 k f fd ps (lSp K wsp)) (D:Df X.K X.mg x f fd ps) (hr:Room k X.A) (hg:Gl X x) (ha:QA K X (e::es) wr)
  (hdb:(x==("__debug__":Str))=false:=by decide) (he:starEach (e::es) X.env=(false,eval e X.env)::starEach es X.env:=by rfl) (hpl:(backTo pos (starEach es X.env)).any (·.1)=false:=by rfl) :
  QE K X (.Call (.Name x p) (e::es) [] pos) (j5 wsp [] wr):=CP (dvs:=[]) (λ_ _=>.nil) (Am F hr hg D.hm D.kp D.b .nil iz ha hdb he hpl)
theorem aF (hc:aX X (.builtin id) (lC K g)) (hg:Gl X x) (hm:X.mg x=none) (hv:bootBuiltins x=some (.builtin id)) (ha:QA K X (e::es) wr) (hn:x ≠ "__name__":=by decide) (hdb:(x==("__debug__":Str))=false:=by decide)
  (he:starEach (e::es) X.env=(false,eval e X.env)::starEach es X.env:=by rfl) (hpl:(backTo pos (starEach es X.env)).any (·.1)=false:=by rfl):QE K X (.Call (.Name x p) (e::es) [] pos) (wCB g wr):=wq (yU hc hg hm hv ha hn hdb he hpl)
theorem ni (hc:aX X (.type id) (lC K g)) (hg:Gl X x) (hm:X.mg x=none) (hv:bootBuiltins x=some (.type id)) (ha:QA K X (e::es) wr) (hn:x ≠ "__name__":=by decide) (hdb:(x==("__debug__":Str))=false:=by decide)
  (he:starEach (e::es) X.env=(false,eval e X.env)::starEach es X.env:=by rfl) (hpl:(backTo pos (starEach es X.env)).any (·.1)=false:=by rfl):QE K X (.Call (.Name x p) (e::es) [] pos) (wCB g wr):=wq (xW hc hg hm hv ha hn hdb he hpl)
theorem bK (hK:X.K=K) (pa:PlainAttrs ty) (slot:Slot ty m id) (hty:typeOf (.builtin id)=pure (.type "method_descriptor")) (hm:MtR X id (lM K gm)) (ho:QE K X o wa) (ha:QA K X (e::es) wr)
  (h:∀ {to t r},PE X o to->MtR X id r->PA X (e::es) t->PE X (.Call (.Attribute o m apos) (e::es) [] cpos) (tBM X.K ty r to t)):QE K X (.Call (.Attribute o m apos) (e::es) [] cpos) (wBM ty gm wa wr):=by
 subst hK
 exact Hl (h ho hm ha)
theorem FX (hK:X.K=K) (pa:PlainAttrs ty) (slot:Slot ty m id) (hty:typeOf (.builtin id)=pure (.type "method_descriptor")) (hm:MtR X id (lM K gm)) (ho:QE K X o wa)
  (h:∀ {to r},PE X o to->MtR X id r->PE X (.Call (.Attribute o m apos) [] [] cpos) (kA X.K ty r to)):QE K X (.Call (.Attribute o m apos) [] [] cpos) (wBM ty gm wa cM):=by
 subst hK
 exact E2 (h ho hm)
theorem aS {y:Str}{i:Nat}(hN:X.N.Nodup) (hi:X.N[i]?=some y) (hx:Loc X.env.scope y) (hf:X.fn y=true\/X.env.scope.names.lookup y=some .local:=by first|exact .inl rfl|exact .inr rfl|assumption):QG K X (.Name y pos) (wgN i):=AM (Ad hN hi hx hf)
theorem da {i:Expr}{wo wi:WE}{g:GS}(ho:QE K X o wo) (hi:QE K X i wi) (hs:eP X (iP K g))
  (h:∀ {to ti t},PE X o to->PE X i ti->eP X t->PG X (.Subscript o i pos) (L2.gC to ti t)):QG K X (.Subscript o i pos) (wgS wo wi g):=C1 (h ho hi hs)
end
end T2
open PySem
namespace Sc
def isL (c:Nat):Bool:=decide (97<=c)&&decide (c<=122)
def isP (p:List Nat):Bool:=decide (1<=p.length)&&decide (p.length<=12)&&p.all isL
def bB:List Nat->Nat->Nat->Option (Nat×Nat)
 |[],z,n=>some (z,n)
 |c::r,z,n=>if c=32 then (if z=0 then none else bB r 0 (n+1)) else if isL c=true then (if z+1>12 then none else bB r (z+1) n) else none
def fin:Option (Nat×Nat)->Bool
 |none=>false
 |some (z,n)=>decide (0<z)&&decide (n<5)
theorem k6:∀ (p rest:List Nat) (z n:Nat),32∉p->z<=12->bB (p++rest) z n=if (p.all isL&&decide (z+p.length<=12))=true then bB rest (z+p.length) n else none
 |[],rest,z,n,_,hz=>by simp [hz]
 |c::p,rest,z,n,h,hz=>by
  have hc:c≠32:=λe=>h (by simp [e])
  have hp:32∉p:=λe=>h (by simp [e])
  have ih:=k6 p rest (z+1) n hp
  show bB (c::(p++rest)) z n=_
  rw [bB,if_neg hc]
  cases hl:isL c with
  |false=>simp [hl]
  |true =>
   rw [if_pos rfl]
   by_cases hz2:z+1>12
   ·rw [if_pos hz2]
    have:¬ (z+(c::p).length<=12):=by simp;omega
    simp [this]
    omega
   ·rw [if_neg hz2,ih (by omega)]
    have e:z+1+p.length=z+(c::p).length:=by simp;omega
    rw [e]
    simp [hl]
def aG (g:List Nat):List (List Nat)->List Nat
 |[]=>[]
 |[p]=>p
 |p::q::r=>p++g++aG g (q::r)
theorem ln:∀ (ps:List (List Nat)) (n:Nat),ps≠[]->(∀ p∈ps,32∉p)->fin (bB (aG [32] ps) 0 n)=(decide (ps.length+n<=5)&&ps.all isP)
 |[],_,h,_=>absurd rfl h
 |[p],n,_,hf=>by
  have h:=k6 p [] 0 n (hf p (by simp)) (by omega)
  rw [List.append_nil] at h
  show fin (bB p 0 n)=_
  rw [h]
  simp only [Nat.zero_add,List.length_singleton,List.all_cons,List.all_nil,Bool.and_true]
  by_cases hc:(p.all isL&&decide (p.length<=12))=true
  ·rw [if_pos hc]
   simp only [Bool.and_eq_true,decide_eq_true_eq] at hc
   simp only [bB,fin,isP,hc.1,hc.2,decide_true,Bool.and_true]
   rw [Bool.eq_iff_iff]
   simp only [Bool.and_eq_true,decide_eq_true_eq]
   omega
  ·rw [if_neg hc]
   have:isP p=false:=by
    simp only [isP]
    rw [Bool.eq_false_iff]
    intro z
    simp only [Bool.and_eq_true,decide_eq_true_eq] at z hc
    exact hc ⟨z.2,z.1.2⟩
   simp [fin,this]
 |p::q::r,n,_,hf=>by
  have h:=k6 p (32::aG [32] (q::r)) 0 n (hf p (by simp)) (by omega)
  have ih:=ln (q::r) (n+1) (by simp) λx hx=>hf x (List.mem_cons_of_mem _ hx)
  have e:aG [32] (p::q::r)=p++32::aG [32] (q::r):=by simp [aG]
  rw [e,h]
  simp only [Nat.zero_add]
  by_cases hc:(p.all isL&&decide (p.length<=12))=true
  ·rw [if_pos hc]
   simp only [Bool.and_eq_true,decide_eq_true_eq] at hc
   rw [bB,if_pos rfl]
   by_cases hz:p.length=0
   ·rw [if_pos hz]
    have:isP p=false:=by simp [isP,hz]
    simp [fin,this]
   ·rw [if_neg hz,ih]
    have:isP p=true:=by
     simp only [isP,hc.1,hc.2,decide_true,Bool.and_true,decide_eq_true_eq]
     omega
    have ea:(p::q::r).all isP=(q::r).all isP:=by rw [List.all_cons,this,Bool.true_and]
    rw [ea]
    have e2:(q::r).length+(n+1)=(p::q::r).length+n:=by simp;omega
    rw [e2]
  ·rw [if_neg hc]
   have:isP p=false:=by
    simp only [isP]
    rw [Bool.eq_false_iff]
    intro z
    simp only [Bool.and_eq_true,decide_eq_true_eq] at z hc
    exact hc ⟨z.2,z.1.2⟩
   simp [fin,this]
theorem DC (a b:Nat):decide ([a]<[b])=decide (a<b):=by
 rw [Bool.eq_iff_iff]
 simp [List.cons_lt_cons_iff]
end Sc
namespace Wm
open PySem
theorem kS (g:List Nat):∀ ps:List (List Nat),Sc.aG g ps=Tm.aG g ps
 |[]=>rfl
 |[p]=>rfl
 |p::q::r=>by
  show p++g++Sc.aG g (q::r)=p++g++Tm.aG g (q::r)
  rw [kS g (q::r)]
def Wd (z:Str):Bool:=decide (z.length<=24)&&Sc.fin (Sc.bB (Tm.tl z) 0 1)
theorem kT (z:Str):Sc.fin (Sc.bB (Tm.tl z) 0 1)=(decide ((Txt.split z " ").length<=4)&&(Txt.split z " ").all λp=>Sc.isP (Tm.tl p)):=by
 have hn:=PyProof.Rows.split_pos z " "
 rw [<- Tm.jd z,<- kS,Sc.ln _ 1 (by simp [Tm.gS]) (Tm.split_free z),List.length_map,List.all_map]
 congr 1
 rw [Bool.eq_iff_iff]
 simp only [decide_eq_true_eq]
 omega
theorem tP (c d:Nat):T2.ltS ⟨#[c]⟩ ⟨#[d]⟩=decide (c<d):=by
 unfold T2.ltS
 exact Sc.DC c d
theorem DD (c:Nat):(!T2.ltS ⟨#[c]⟩ "a" && !T2.ltS "z" ⟨#[c]⟩)=Sc.isL c:=by
 rw [show ("a":Str)=⟨#[97]⟩ by decide +kernel,show ("z":Str)=⟨#[122]⟩ by decide +kernel,tP,tP,Bool.eq_iff_iff]
 simp only [Sc.isL,Bool.and_eq_true,Bool.not_eq_true',decide_eq_false_iff_not,decide_eq_true_eq]
 omega
theorem all_map (l:List Bool):T2.dU (l.map T2.T.bl)=some l:=by
 induction l with
 |nil=>rfl
 |cons a l ih=>simp [T2.dU,ih]
theorem jC {α β:Type}(f:α->β) (l:List α):l.filterMap (λx=>some (f x))=l.map f:=by
 induction l with
 |nil=>rfl
 |cons a l ih=>simp [ih]
end Wm
namespace Wm
open PySem
theorem pX:∀ (ls:List (List Nat)),Tm.aG [] ls=ls.flatten
 |[]=>rfl
 |[p]=>by simp [Tm.aG]
 |p::q::r=>by
  show p++[]++Tm.aG [] (q::r)=_
  rw [pX (q::r)];simp
theorem ju {ys:List Str}(h1:∀ y∈ys,∃ c,y=⟨#[c]⟩/\Sc.isL c=true) (h2:1<=ys.length) (h3:ys.length<=12):Sc.isP (Tm.tl (Txt.join "" ys))=true:=by
 rw [Tm.lZ,Tm.empty,pX]
 have len:((ys.map Tm.tl).flatten).length=ys.length:=by
  clear h2 h3
  induction ys with
  |nil=>rfl
  |cons y l ih =>
   obtain ⟨c,rfl,_⟩:=h1 y (by simp)
   simp only [List.map_cons,List.flatten_cons,List.length_append,ih λz hz=>h1 z (by simp [hz]),List.length_cons]
   simp [Tm.tl];omega
 unfold Sc.isP
 rw [len]
 simp only [Bool.and_eq_true,decide_eq_true_eq]
 refine ⟨⟨h2,h3⟩,?_⟩
 rw [List.all_eq_true]
 intro c hc
 rw [List.mem_flatten] at hc
 obtain ⟨l,hl,hc⟩:=hc
 rw [List.mem_map] at hl
 obtain ⟨y,hy,rfl⟩:=hl
 obtain ⟨d,rfl,hd⟩:=h1 y hy
 simp [Tm.tl] at hc
 rw [hc];exact hd
theorem zn {p:List Nat}(h:Sc.isP p=true):32∉p:=λhm=>by
 unfold Sc.isP at h
 simp only [Bool.and_eq_true,List.all_eq_true] at h
 have:=h.2 32 hm
 simp [Sc.isL] at this
theorem Bf {ps:List Str}(h1:∀ p∈ps,Sc.isP (Tm.tl p)=true) (h2:ps≠[]) (h3:ps.length<=4):Sc.fin (Sc.bB (Tm.tl (Txt.join " " ps)) 0 1)=true:=by
 rw [Tm.lZ,Tm.vn,<- kS]
 rw [Sc.ln (ps.map Tm.tl) 1 (by simpa using h2) (λp hp=>by
  rw [List.mem_map] at hp
  obtain ⟨y,hy,rfl⟩:=hp
  exact zn (h1 y hy))]
 simp only [List.length_map,Bool.and_eq_true,decide_eq_true_eq,List.all_map,List.all_eq_true]
 exact ⟨by omega,λp hp=>h1 p hp⟩
theorem eF {z:Str}(h:Wd z=true):1<=z.length/\z.length<=24:=by
 unfold Wd at h
 simp only [Bool.and_eq_true,decide_eq_true_eq] at h
 refine ⟨?_,h.1⟩
 rcases Nat.eq_zero_or_pos z.length with e|e
 ·have:Tm.tl z=[]:=List.length_eq_zero_iff.mp (by rw [Tm.len];exact e)
  rw [this] at h
  simp [Sc.bB,Sc.fin] at h
 ·exact e
theorem l7:∀ (l:List Nat) (z n:Nat){p:Nat×Nat},Sc.bB l z n=some p->∀ c∈l,c=32\/Sc.isL c=true
 |[],_,_,_,_,c,hc=>by cases hc
 |d::l,z,n,p,h,c,hc=>by
  rw [Sc.bB] at h
  rcases List.mem_cons.mp hc with rfl|hc
  ·by_cases e:c=32
   ·exact .inl e
   ·rw [if_neg e] at h
    split at h
    ·exact .inr ‹_›
    ·cases h
  ·split at h
   ·split at h
    ·cases h
    ·exact l7 l _ _ h c hc
   ·split at h
    ·split at h
     ·cases h
     ·exact l7 l _ _ h c hc
    ·cases h
theorem qD {z:Str}(h:Wd z=true):∀ c∈Tm.tl z,c=32\/Sc.isL c=true:=by
 unfold Wd at h
 simp only [Bool.and_eq_true] at h
 cases q:Sc.bB (Tm.tl z) 0 1 with
 |none=>rw [q] at h;simp [Sc.fin] at h
 |some p=>exact l7 _ _ _ q
theorem nj {z:Str}(h:Wd z=true):PyData.strOk z=true:=by
 unfold PyData.strOk
 rw [Array.all_eq_true_iff_forall_mem]
 intro c hc
 have:=qD h c (by simpa [Tm.tl] using hc)
 rw [decide_eq_true_eq]
 rcases this with e|e
 ·omega
 ·simp only [Sc.isL,Bool.and_eq_true,decide_eq_true_eq] at e;omega
end Wm
open PySem
namespace Wm
theorem rP:∀ (p q r s:List Nat),32∉p->32∉q->p++32::r=q++32::s->p=q/\r=s
 |[],[],r,s,_,_,h=>⟨rfl,(List.cons.inj h).2⟩
 |[],c::q,r,s,_,h2,h=>absurd (List.cons.inj h).1 λe=>h2 (by rw [<- e];exact List.mem_cons_self)
 |c::p,[],r,s,h1,_,h=>absurd (List.cons.inj h).1 λe=>h1 (by rw [e];exact List.mem_cons_self)
 |c::p,d::q,r,s,h1,h2,h=>by
  obtain ⟨e1,e2⟩:=List.cons.inj h
  obtain ⟨e3,e4⟩:=rP p q r s (λz=>h1 (List.mem_cons_of_mem _ z)) (λz=>h2 (List.mem_cons_of_mem _ z)) e2
  exact ⟨by rw [e1,e3],e4⟩
theorem qE:∀ (ps qs:List (List Nat)),ps≠[]->qs≠[]->(∀ p∈ps,32∉p)->(∀ p∈qs,32∉p)->Tm.aG [32] ps=Tm.aG [32] qs->ps=qs
 |[],_,h,_,_,_,_=>absurd rfl h
 |_::_,[],_,h,_,_,_=>absurd rfl h
 |[p],[q],_,_,_,_,h=>by rw [show p=q from h]
 |[p],q::q2::s,_,_,h3,_,h=>by
  rw [Tm.je q (q2::s) (by simp)] at h
  refine absurd ?_ (h3 p List.mem_cons_self)
  rw [show p=q++32::Tm.aG [32] (q2::s) from h]
  exact List.mem_append_right _ List.mem_cons_self
 |p::p2::r,[q],_,_,_,h4,h=>by
  rw [Tm.je p (p2::r) (by simp)] at h
  refine absurd ?_ (h4 q List.mem_cons_self)
  rw [<- show p++32::Tm.aG [32] (p2::r)=q from h]
  exact List.mem_append_right _ List.mem_cons_self
 |p::p2::r,q::q2::s,_,_,h3,h4,h=>by
  rw [Tm.je p (p2::r) (by simp),Tm.je q (q2::s) (by simp)] at h
  obtain ⟨e1,e2⟩:=rP _ _ _ _ (h3 p List.mem_cons_self) (h4 q List.mem_cons_self) h
  rw [e1,qE (p2::r) (q2::s) (by simp) (by simp) (λx hx=>h3 x (List.mem_cons_of_mem _ hx)) (λx hx=>h4 x (List.mem_cons_of_mem _ hx)) e2]
theorem pY (l y:List Nat):∀ i:List (List Nat),Tm.aG [32] (i++[l++y])=Tm.aG [32] (i++[l])++y
 |[]=>rfl
 |[a]=>by
  show a++[32]++(l++y)=a++[32]++l++y
  rw [List.append_assoc,List.append_assoc,List.append_assoc]
 |a::b::i=>by
  have ih:=pY l y (b::i)
  show a++[32]++Tm.aG [32] (b::i++[l++y])=a++[32]++Tm.aG [32] (b::i++[l])++y
  rw [ih,List.append_assoc (a++[32])]
theorem pZ (y:List Nat):∀ i:List (List Nat),i≠[]->Tm.aG [32] (i++[y])=Tm.aG [32] i++32::y
 |[],h=>absurd rfl h
 |[a],_=>by
  show a++[32]++y=a++32::y
  rw [List.append_assoc];rfl
 |a::b::i,_=>by
  have ih:=pZ y (b::i) (by simp)
  show a++[32]++Tm.aG [32] (b::i++[y])=a++[32]++Tm.aG [32] (b::i)++32::y
  rw [ih,List.append_assoc (a++[32])]
def Fit (a:Str):Prop:=a.length<=24/\(Txt.split a " ").length<=4/\∀ p∈Txt.split a " ",p.length<=12
theorem tQ {a:Str}{ps:List (List Nat)}(h:Fit a) (h1:ps≠[]) (h2:∀ p∈ps,1<=p.length/\p.all Sc.isL=true) (e:Tm.tl a=Tm.aG [32] ps):Wd a=true:=by
 have hf:∀ p∈ps,32∉p:=λp hp hm=>by
  have:=List.all_eq_true.mp (h2 p hp).2 32 hm
  simp [Sc.isL] at this
 have e2:(Txt.split a " ").map Tm.tl=ps:=qE _ _ (by simp [Tm.gS]) h1 (Tm.split_free a) hf (by rw [Tm.jd];exact e)
 unfold Wd
 rw [kT,decide_eq_true h.1,decide_eq_true h.2.1,Bool.true_and,Bool.true_and,List.all_eq_true]
 intro p hp
 have hq:Tm.tl p∈ps:=by rw [<- e2];exact List.mem_map_of_mem hp
 obtain ⟨h3,h4⟩:=h2 _ hq
 have h5:=h.2.2 p hp
 unfold Sc.isP
 rw [h4,Bool.and_true,Bool.and_eq_true,decide_eq_true_eq,decide_eq_true_eq]
 exact ⟨h3,by rw [Tm.len];exact h5⟩
theorem zo {z:Str}(h:Wd z=true):∀ p∈(Txt.split z " ").map Tm.tl,1<=p.length/\p.all Sc.isL=true:=by
 unfold Wd at h
 rw [kT] at h
 simp only [Bool.and_eq_true,List.all_eq_true] at h
 intro p hp
 obtain ⟨q,hq,rfl⟩:=List.mem_map.mp hp
 have:=h.2.2 q hq
 unfold Sc.isP at this
 simp only [Bool.and_eq_true,decide_eq_true_eq] at this
 exact ⟨this.1.1,this.2⟩
theorem Bg {z y:Str}(h:Wd z=true) (hy:(∃ c,Sc.isL c=true/\(Tm.tl y=[c]\/Tm.tl y=[32,c]))) (hf:Fit (z++y)):Wd (z++y)=true:=by
 obtain ⟨c,hc,hy⟩:=hy
 have hp:=zo h
 have hne:(Txt.split z " ").map Tm.tl≠[]:=by simp [Tm.gS]
 have hj:=Tm.jd z
 rcases hy with hy|hy
 ·obtain ⟨i,l,e⟩:∃ i l,(Txt.split z " ").map Tm.tl=i++[l]:=⟨_,_,(List.dropLast_concat_getLast hne).symm⟩
  rw [e] at hp hj
  refine tQ (ps:=i++[l++[c]]) hf (by simp) (λp hm=>?_) ?_
  ·rcases List.mem_append.mp hm with hm|hm
   ·exact hp p (List.mem_append_left _ hm)
   ·rw [List.mem_singleton.mp hm]
    obtain ⟨h1,h2⟩:=hp l (by simp)
    refine ⟨by simp,?_⟩
    rw [List.all_append,h2]
    simp [hc]
  ·rw [Tm.gg,hy,pY,hj]
 ·refine tQ (ps:=(Txt.split z " ").map Tm.tl++[[c]]) hf (by simp) (λp hm=>?_) ?_
  ·rcases List.mem_append.mp hm with hm|hm
   ·exact hp p hm
   ·rw [List.mem_singleton.mp hm]
    exact ⟨by simp,by simp [hc]⟩
  ·rw [Tm.gg,hy,pZ _ _ hne,hj]
end Wm
namespace Rk
open PySem T2 S6
abbrev Rt:=Str×Int
def rt (a:Rt):T:=.tup [.str a.1,.int a.2]
def ky (a:Rt):Ky:=.cons (.i (-a.2)) (.cons (.s a.1) .nil)
theorem DE (a:Rt):tre (ky a)=.tup [.int (-a.2),.str a.1]:=by simp [ky,tre,gH]
def ah (a b:Rt):Bool:=Ky.lt (ky a) (ky b)
theorem FY (a b:Rt):ah a b=(decide (b.2<a.2) || (decide (a.2=b.2)&&ltS a.1 b.1)):=by
 unfold ah ky
 simp only [Ky.lt,Ky.i.injEq,Ky.s.injEq,ltS]
 by_cases e:a.2=b.2
 ·have e1:-a.2=-b.2:=by omega
  have e2:¬ b.2<a.2:=by omega
  rw [if_pos e1,decide_eq_false e2,decide_eq_true e]
  simp only [Bool.false_or,Bool.true_and]
  split
  ·next h=>rw [h];exact (decide_eq_false (List.lt_irrefl _)).symm
  ·rfl
 ·have e1:¬ -a.2=-b.2:=by omega
  rw [if_neg e1,decide_eq_false e,Bool.false_and,Bool.or_false,Bool.eq_iff_iff]
  simp only [decide_eq_true_eq];omega
theorem kh (a:Rt):Ky.ok (ky a)=true:=rfl
theorem gi (a b:Rt):Ky.shp (ky a) (ky b)=true:=rfl
theorem DF {a b:Rt}(h:ky a=ky b):a=b:=by
 simp only [ky,Ky.cons.injEq,Ky.i.injEq,Ky.s.injEq,and_true] at h
 exact Prod.ext h.2 (by omega)
theorem DG (a:Rt):ah a a=false:=Ky.irr _
theorem qF {a b c:Rt}(h1:ah a b=true) (h2:ah b c=true):ah a c=true:=Ky.trans (gi _ _) (gi _ _) h1 h2
theorem tR (a b:Rt):ah a b=true\/a=b\/ah b a=true:=by
 rcases Ky.tri (gi a b) with h|h|h
 ·exact .inl h
 ·exact .inr (.inl (DF h))
 ·exact .inr (.inr h)
theorem rQ {a b:Rt}(h:ah a b=true):ah b a=false:=Ky.HB (gi _ _) h
def kyT:T->Ky
 |.tup [.str w,.int n]=>ky (w,n)
 |_=>.nil
theorem tS (a:Rt):kyT (rt a)=ky a:=rfl
def ins (acc:List Rt) (a:Rt):List Rt:=acc.takeWhile (λx=>ah x a)++a::acc.dropWhile (λx=>ah x a)
def bst (l:List Rt):List Rt:=l.foldl ins []
theorem lq (acc:List Rt) (a:Rt):(ins acc a).Perm (a::acc):=by
 unfold ins
 refine (List.perm_middle).trans ?_
 rw [List.takeWhile_append_dropWhile]
theorem p0:∀ (l acc:List Rt),(l.foldl ins acc).Perm (l++acc)
 |[],acc=>by simp
 |a::l,acc=>by
  rw [List.foldl_cons]
  refine (p0 l (ins acc a)).trans ?_
  refine ((lq acc a).append_left l).trans ?_
  exact List.perm_middle
theorem d7 (l:List Rt):(bst l).Perm l:=by
 have:=p0 l []
 rwa [List.append_nil] at this
theorem xF {acc:List Rt}{a:Rt}(h:acc.Pairwise λx y=>ah x y=true) (hn:a∉acc):(ins acc a).Pairwise λx y=>ah x y=true:=by
 induction acc with
 |nil=>simp [ins]
 |cons b l ih =>
  have hb:b≠a:=λe=>hn (by simp [e])
  obtain ⟨h1,h2⟩:=List.pairwise_cons.mp h
  have hn2:a∉l:=λe=>hn (by simp [e])
  unfold ins
  by_cases q:ah b a=true
  ·rw [List.takeWhile_cons,if_pos q,List.dropWhile_cons,if_pos q,List.cons_append]
   refine List.pairwise_cons.mpr ⟨λx hx=>?_,ih h2 hn2⟩
   have:=(lq l a).mem_iff.mp (show x∈ins l a from hx)
   rcases List.mem_cons.mp this with rfl|hx
   ·exact q
   ·exact h1 x hx
  ·rw [List.takeWhile_cons,if_neg q,List.dropWhile_cons,if_neg q,List.nil_append]
   have ab:ah a b=true:=by
    rcases tR a b with z|z|z
    ·exact z
    ·exact (hb z.symm).elim
    ·exact (q z).elim
   refine List.pairwise_cons.mpr ⟨λx hx=>?_,h⟩
   rcases List.mem_cons.mp hx with rfl|hx
   ·exact ab
   ·exact qF ab (h1 x hx)
theorem oY:∀ (l acc:List Rt),(l++acc).Nodup->(acc.Pairwise λx y=>ah x y=true)->((l.foldl ins acc).Pairwise λx y=>ah x y=true)
 |[],acc,_,h=>h
 |a::l,acc,hn,h=>by
  rw [List.foldl_cons]
  have hm:a∉acc:=λe=>by
   rw [List.cons_append,List.nodup_cons] at hn
   exact hn.1 (List.mem_append_right _ e)
  refine oY l (ins acc a) ?_ (xF h hm)
  have p:(l++ins acc a).Perm (a::l++acc):=((lq acc a).append_left l).trans List.perm_middle
  exact p.nodup_iff.mpr hn
theorem py {l:List Rt}(h:l.Nodup):(bst l).Pairwise λx y=>ah x y=true:=oY l [] (by simpa using h) .nil
theorem wD:∀ {l m:List Rt},(l.Pairwise λx y=>ah x y=true)->(m.Pairwise λx y=>ah x y=true)->l.Perm m->l=m
 |[],m,_,_,p=>(List.perm_nil.mp p.symm).symm
 |a::l,[],_,_,p=>absurd p.length_eq (by simp)
 |a::l,b::m,h1,h2,p=>by
  obtain ⟨a1,a2⟩:=List.pairwise_cons.mp h1
  obtain ⟨b1,b2⟩:=List.pairwise_cons.mp h2
  have e:a=b:=by
   rcases List.mem_cons.mp (p.mem_iff.mp (List.mem_cons_self ..):a∈b::m) with e|e
   ·exact e
   ·rcases List.mem_cons.mp (p.mem_iff.mpr (List.mem_cons_self ..):b∈a::l) with q|q
    ·exact q.symm
    ·have x1:=a1 b q
     have x2:=b1 a e
     rw [rQ x1] at x2;cases x2
  subst e
  rw [wD a2 b2 (List.perm_cons a |>.mp p)]
theorem lx {l:List Rt}(h:(l.map (·.1)).Nodup):l.Nodup:=by
 unfold List.Nodup at h ⊢
 rw [List.pairwise_map] at h
 exact h.imp fun {a b} hne e=>hne (by rw [e])
theorem yu {l l':List Rt}(hn:l.Nodup) (p:l'.Perm l) (h:l'.Pairwise λa b=>Ky.lt (kyT (rt b)) (kyT (rt a))=false):l'=bst l:=by
 refine wD ?_ (py hn) (p.trans (d7 l).symm)
 have n':l'.Nodup:=p.nodup_iff.mpr hn
 refine (h.and n').imp fun {a b} hab=>?_
 rcases tR a b with z|z|z
 ·exact z
 ·exact (hab.2 z).elim
 ·have:=hab.1
  rw [tS,tS] at this
  rw [show Ky.lt (ky b) (ky a)=true from z] at this;cases this
theorem rR:∀ l:List Rt,aY (l.map rt)=some (l.map λa=>PyData.tuple [.str a.1,.int a.2])
 |[]=>rfl
 |a::l=>by simp [aY,rt,bq,rR l]
theorem tT:∀ {l:List Rt},(∀ a∈l,PyData.strOk a.1=true)->PyData.canLayAll0 (l.map λa=>PyData.tuple [.str a.1,.int a.2])=true
 |[],_=>rfl
 |a::l,h=>by
  have ih:PyData.canLayAll0 (l.map λa=>PyData.tuple [.str a.1,.int a.2])=true:=tT λx hx=>h x (List.mem_cons_of_mem _ hx)
  simp only [List.map_cons,PyData.canLayAll0,PyData.canLay0,h a (List.mem_cons_self ..),ih,Bool.and_self]
theorem tU:∀ l:List Rt,PyData.depthAll (l.map λa=>PyData.tuple [.str a.1,.int a.2])<=1
 |[]=>by simp [PyData.depthAll]
 |a::l=>by
  have:=tU l
  simp only [List.map_cons,PyData.depthAll,PyData.depth,Nat.max_le]
  exact ⟨by decide,this⟩
theorem tV:∀ l m:List Rt,PyData.eqvAll (l.map λa=>PyData.tuple [.str a.1,.int a.2]) (m.map λa=>PyData.tuple [.str a.1,.int a.2])=decide (l=m)
 |[],[]=>rfl
 |[],_::_=>by simp [PyData.eqvAll]
 |_::_,[]=>by simp [PyData.eqvAll]
 |a::l,b::m=>by
  simp only [List.map_cons,PyData.eqvAll,PyData.eqv,tV l m,Bool.and_true]
  rw [Bool.eq_iff_iff]
  simp only [Bool.and_eq_true,beq_iff_eq,decide_eq_true_eq,List.cons.injEq,Prod.ext_iff]
theorem eS {S:Sto}{l:List Rt}:a7 S (.lst (l.map rt))=some (.list (l.map λa=>PyData.tuple [.str a.1,.int a.2])):=by simp [a7,bq,rR]
theorem FZ {S:Sto}{Q:T->Sto->Prop}{a:Rt}(h:Q (.str a.1) S):gIx (rt a) (.int 0) S Q:=nh (t:=.str a.1) rfl h
theorem F0 {S:Sto}{Q:T->Sto->Prop}{a:Rt}(h:Q (.int a.2) S):gIx (rt a) (.int 1) S Q:=nh (t:=.int a.2) rfl h
theorem jD {S:Sto}{x:T}{ts:List T}(h:aH S x=some ts):eE x ts S:=by
 unfold eE
 cases x<;>first|trivial|skip
 rename_i a
 simp only [aH] at h
 cases e:S a with
 |none=>rw [e] at h;cases h
 |some o =>
  rw [e] at h
  cases o<;>first|(cases h;done)|skip
  cases h;exact e
end Rk
namespace T2
open PySem PySem.Spec PyProof.Rows L2
section
variable {κ:Type}[DecidableEq κ]
def aR (kts:List (κ×T)) (k:κ):Option T:=(kts.find? λkv=>decide (kv.1=k)).map (·.2)
def di (kts:List (κ×T)) (k:κ) (t:T):List (κ×T) :=
 if (kts.any λkv=>decide (kv.1=k))=true then kts.map (λkv=>if kv.1=k then (kv.1,t) else kv) else kts++[(k,t)]
def gy (kts:List (κ×T)) (k:κ):List (κ×T):=kts.filter λkv=>decide (kv.1≠k)
abbrev PrT (K:Fg) (H:Hp) (S:Sto):List (κ×T)->List (κ×V)->Prop:=Paired λ(p:κ×T) (q:κ×V)=>p.1=q.1/\Rp K H S p.2 q.2
variable {K:Fg}{H:Hp}{S:Sto}
theorem gU {k:κ}{t:T}:∀ {kts:List (κ×T)}{kvs:List (κ×V)},PrT K H S kts kvs->aR kts k=some t->∃ v,aU kvs k=some v/\Rp K H S t v
 |_,_,.nil,e=>by cases e
 |(a,b)::l,(c,d)::l',.cons ⟨e,r⟩ ps,h=>by
  simp only at e;subst e
  unfold aR aU at *
  rw [List.find?_cons] at h ⊢
  by_cases z:a=k
  ·simp only [z,decide_true,Option.map_some,Option.some.injEq] at h ⊢
   subst h;exact ⟨d,rfl,r⟩
  ·simp only [z,decide_false] at h ⊢
   exact gU ps h
theorem jp {k:κ}:∀ {kts:List (κ×T)}{kvs:List (κ×V)},PrT K H S kts kvs->(aU kvs k).isSome=(aR kts k).isSome
 |_,_,.nil=>rfl
 |(a,b)::l,(c,d)::l',.cons ⟨e,r⟩ ps=>by
  simp only at e;subst e
  unfold aR aU
  rw [List.find?_cons,List.find?_cons]
  by_cases z:a=k
  ·simp [z]
  ·simp only [z,decide_false]
   exact jp ps
theorem tW {k:κ}:∀ {kts:List (κ×T)}{kvs:List (κ×V)},PrT K H S kts kvs->(kvs.any λkv=>decide (kv.1=k))=kts.any λkv=>decide (kv.1=k)
 |_,_,.nil=>rfl
 |(a,b)::l,(c,d)::l',.cons ⟨e,r⟩ ps=>by
  simp only at e;subst e
  rw [List.any_cons,List.any_cons,tW ps]
theorem Paired.app {α β:Type}{F:α->β->Prop}:∀ {a:List α}{b:List β}{c:List α}{d:List β},Paired F a b->Paired F c d->Paired F (a++c) (b++d)
 |_,_,_,_,.nil,r=>r
 |_,_,_,_,.cons h t,r=>.cons h (Paired.app t r)
theorem rS {k:κ}{t:T}{v:V}(r:Rp K H S t v):∀ {kts:List (κ×T)}{kvs:List (κ×V)},PrT K H S kts kvs->PrT K H S (kts.map λkv=>if kv.1=k then (kv.1,t) else kv) (kvs.map λkv=>if kv.1=k then (kv.1,v) else kv)
 |_,_,.nil=>.nil
 |(a,b)::l,(c,d)::l',.cons ⟨e,q⟩ ps=>by
  simp only at e;subst e
  refine .cons ?_ (rS r ps)
  dsimp only
  by_cases z:a=k
  ·rw [if_pos z,if_pos z];exact ⟨rfl,r⟩
  ·rw [if_neg z,if_neg z];exact ⟨rfl,q⟩
theorem tX {k:κ}{t:T}{v:V}(r:Rp K H S t v){kts:List (κ×T)}{kvs:List (κ×V)}(p:PrT K H S kts kvs):PrT K H S (di kts k t) (bd kvs k v):=by
 unfold di bd
 rw [tW p]
 split
 ·exact rS r p
 ·exact Paired.app p (.cons ⟨rfl,r⟩ .nil)
theorem l8 {k:κ}:∀ {kts:List (κ×T)}{kvs:List (κ×V)},PrT K H S kts kvs->PrT K H S (gy kts k) (eK kvs k)
 |_,_,.nil=>.nil
 |(a,b)::l,(c,d)::l',.cons ⟨e,q⟩ ps=>by
  simp only at e;subst e
  unfold gy eK
  rw [List.filter_cons,List.filter_cons]
  by_cases z:a=k
  ·simp only [z,ne_eq,not_true,decide_false,Bool.false_eq_true,if_false];exact l8 ps
  ·simp only [z,ne_eq,not_false_eq_true,decide_true,if_true];exact .cons ⟨rfl,q⟩ (l8 ps)
end
def wE:Key->T
 |.inl i=>.int i
 |.inr x=>.str x
section
variable {K:Fg}{X:Cx}{H:Hp}{S:Sto}
theorem gz {t:T}{v:V}{k:Key}(r:Rp K H S t v) (e:bX t=some k):v=kV k:=by
 cases r<;>simp only [bX,Option.some.injEq,reduceCtorEq] at e<;>subst e<;>rfl
theorem Bi (k:Key):Rp K H S (wE k) (kV k):=by cases k<;>constructor
def RdT (w:World) (S:Sto) (a:Addr) (kts:List (Key×T)):Prop:=S a=some (.dK kts)\/∃ od kvs,S a=some (.fK w od kvs kts)
theorem nq {w:World}{a:Addr}{kts:List (Key×T)}(s:SRp K H S) (g:RdT w S a kts):∃ kvs,RdK w H a kvs/\PrT K H S kts kvs:=by
 rcases g with e|⟨od,kvs,e⟩
 ·cases s a _ e with
  |dK h p=>exact ⟨_,.inl h,p⟩
 ·cases s a _ e with
  |fK h p=>exact ⟨_,.inr ⟨_,h⟩,p⟩
theorem iH {a:Addr}{kts:List (Key×T)}(s:SRp K H S) (e:S a=some (.dK kts)):∃ kvs,H a=some (.dK kvs)/\PrT K H S kts kvs:=by
 cases s a _ e with
 |dK h p=>exact ⟨_,h,p⟩
theorem qG {a:Addr}{kts us:List (Key×T)}{ws:List (Key×V)}{Qt:T->Sto->Prop}{Q:VK}{t:T}{v:V}(s:SRp K H S) (e:S a=some (.dK kts)) (p:PrT K H S us ws) (b:Bh K H S Qt Q) (r:Rp K H S t v) (q:Qt t (put S a (.dK us))):Q v (upd H a (.dK ws)):=by
 have hn:S a≠none:=by rw [e];simp
 have f:Fr H S (upd H a (.dK ws)) (put S a (.dK us)):=Fr.write hn
 exact b _ _ _ _ f (s.write hn (.dK aI (Paired.mapP p λ_ _ z=>⟨z.1,z.2.fr f⟩))) (r.fr f) q
def nO (w:World):G2:=λx y S Q=>∃ a kts k t,x=.ref a/\RdT w S a kts/\bX y=some k/\aR kts k=some t/\Q t S
theorem F6 {o i:Expr}{wo wi:WE}{pos:Pos}(ho:QE K X o wo) (hi:QE K X i wi) (hs:kD i):QE K X (.Subscript o i pos) (w2 (nO X.w) wo wi):=PE.of (AK ho hi hs) λσ H Q zz95=>by
 obtain ⟨S,σt,Qt,s,c,q,hq⟩:=zz95
 refine ⟨S,σt,_,s,c,q,λx H1 tx S1 f1 s1 r1 q1=>?_⟩
 refine ⟨S1,σt,_,s1,c.fr f1,q1,λy H2 ty S2 f2 s2 r2 q2=>?_⟩
 obtain ⟨a,kts,k,t,rfl,g,ek,l,q2⟩:=q2
 cases r1
 obtain ⟨kvs,hg,p⟩:=nq s2 g
 obtain ⟨v,lv,rv⟩:=gU p l
 exact ⟨a,kvs,k,v,rfl,hg,gz r2 ek,lv,hq v H2 t S2 (f1.trans f2) s2 rv q2⟩
def iQ (w:World) (neg:Bool):G2:=λx y S Q=>∃ a kts k,y=.ref a/\RdT w S a kts/\bX x=some k/\Q (.bl (neg ^^ (aR kts k).isSome)) S
theorem F7:OpR X (compareOp .In) (l2 K (iQ X.w false)):=by
 rintro pins s σ H x y v u Q I rx ry ⟨S,tx,ty,Qt,sr,hx,hy,⟨a,kts,k,e,g,ek,q⟩,b⟩
 subst e
 cases hy
 cases (show u=Value.ref a from ry)
 obtain ⟨kvs,hg,p⟩:=nq sr g
 have:=gz hx ek
 subst this
 refine Hg I hg rx λs' I'=>⟨.bl (aU kvs k).isSome,H,I',rfl,b _ H _ S .refl sr .bl ?_⟩
 rw [jp p];simpa using q
theorem zq:OpR X (compareOp .NotIn) (l2 K (iQ X.w true)):=by
 rintro pins s σ H x y v u Q I rx ry ⟨S,tx,ty,Qt,sr,hx,hy,⟨a,kts,k,e,g,ek,q⟩,b⟩
 subst e
 cases hy
 cases (show u=Value.ref a from ry)
 obtain ⟨kvs,hg,p⟩:=nq sr g
 have:=gz hx ek
 subst this
 refine AJ I hg rx λs' I'=>⟨.bl (!(aU kvs k).isSome),H,I',rfl,b _ H _ S .refl sr .bl ?_⟩
 rw [jp p];simpa using q
def vo:GS:=λo i v S Q=>∃ a kts k,o=.ref a/\S a=some (.dK kts)/\bX i=some k/\kts.length<sizeLine/\Q (put S a (.dK (di kts k v)))
theorem ig (hu:X.A.units+1<cLine):eP X (iP K vo):=by
 rintro pins s σ H o i v ov iv u Q I ro ri rv ⟨S,to,ti,tv,Qt,sr,hO,hI,hV,⟨a,kts,k,e,ea,ek,hl,q⟩,b⟩
 subst e
 cases hO
 cases (show ov=Value.ref a from ro)
 obtain ⟨kvs,hk,p⟩:=iH sr ea
 have:=gz hI ek
 subst this
 have hn:S a≠none:=by rw [ea];simp
 refine yc hu I (kC.k hk (by rw [Paired.len p];exact hl)) ri rv λs' I'=>⟨_,I',?_⟩
 exact b _ _ (Fr.write hn) (sr.write hn (.dK aI (Paired.mapP (tX hV p) λ_ _ z=>⟨z.1,z.2.fr (Fr.write hn)⟩))) q
def vp:GM:=λx ts S Q=>∃ a kts y k t,x=.ref a/\ts=[y]/\S a=some (.dK kts)/\bX y=some k/\aR kts k=some t/\Q t (put S a (.dK (gy kts k)))
theorem tY:MtR X "dict.pop" (lM K vp):=by
 rintro pins s σ H x xs v us Q I rx rv ⟨S,t,ts,Qt,sr,hx,rs,⟨a,kts,y,k,t',e,e2,ea,ek,l,q⟩,b⟩
 subst e e2
 cases hx
 cases rs with
 |cons ry rn =>
  cases rn
  obtain ⟨kvs,hk,p⟩:=iH sr ea
  obtain ⟨w',lw,rw'⟩:=gU p l
  have:=gz ry ek
  subst this
  exact AL pins s σ H _ _ v us Q I rx rv ⟨a,kvs,k,w',rfl,rfl,hk,lw,qG sr ea (l8 p) b rw' q⟩
def vq:WE:=λ_ S Q=>∀ p,S p=none->Q (.ref p) (put S p (.dK []))
theorem jT {pos:Pos}:QE K X (.Dict [] [] pos) vq:=PE.of y4 λσ H Q ⟨S,σt,Qt,s,c,q,hq⟩=>λp hp =>
 hq _ _ (.ref p) _ (Fr.newT hp) (s.newT hp (.dK aI .nil)) .ref (q p (s.fresh hp))
def gA (kv:Key×T):T:=.tup [wE kv.1,kv.2]
def wiP (w:World) (wa:WE):WI:=λσ S R=>wa σ S λx S1=>∃ d kts,x=.ref d/\S1 d=some (.dK kts)/\∀ od kvs,R ⟨kts.map gA,λS'=>S' d=some (.fK w od kvs kts)⟩ (put S1 d (.fK w od kvs kts))
theorem Bj {w:World}{d:Addr}{od:Obj}{kts:List (Key×T)}{kvs:List (Key×V)}(s:SRp K H S) (e:S d=some (.dK kts)) (p:PrT K H S kts kvs) :
  Fr H S (upd H d (fzH w d od kvs)) (put S d (.fK w od kvs kts))/\SRp K (upd H d (fzH w d od kvs)) (put S d (.fK w od kvs kts)):=by
 have hn:S d≠none:=by rw [e];simp
 exact ⟨Fr.write hn,s.write hn (.fK aI (Paired.mapP p λ_ _ z=>⟨z.1,z.2.fr (Fr.write hn)⟩))⟩
theorem zr {o:Expr}{wa:WE}{elts:List Expr}{x1:Nat}{tpos apos cpos:Pos}(ho:QE K X o wa) (hK:X.K=K)
  (hbase:attributeBase o "items" X.env (eval o X.env)=eval o X.env:=by rfl) (hline:(apos.endLine==cpos.line)=true:=by rfl):QI K X (.Tuple elts x1 tpos) (.Call (.Attribute o "items" apos) [] [] cpos) (wiP X.w wa):=by
 subst hK
 refine PI.of (y7 (sW PySem.F.plainAttrs_dict PySem.F.slot_dict_items PySem.F.type_dict_items y6 ho hbase hline)) λσ H R zz96=>?_
 obtain ⟨S,σt,Rt,s,c,q,hq⟩:=zz96
 refine ⟨S,σt,_,s,c,q,λx H1 tx S1 f1 s1 r1 q1=>?_⟩
 obtain ⟨d,kts,rfl,ed,q1⟩:=q1
 cases r1
 obtain ⟨kvs,hk,p⟩:=iH s1 ed
 refine ⟨.inr (.inr (.inl ⟨rfl,.inl ⟨_,hk⟩⟩)),d,kvs,rfl,rfl,hk,λv hv=>?_⟩
 have nd:d≠v:=bj hk hv
 refine ⟨v,d,kvs,rfl,aI,by rw [aB nd];exact hk,λod=>?_⟩
 have fv:Fr H1 S1 (upd H1 v (iC v d)) S1:=Fr.new hv
 obtain ⟨f2,s2⟩:=Bj (w:=X.w) (od:=od) (s1.new (u:=iC v d) hv) ed (Paired.mapP p λ_ _ z=>⟨z.1,z.2.fr fv⟩)
 refine hq _ _ _ _ ((f1.trans fv).trans f2) s2 ⟨?_,?_,?_⟩ (q1 od kvs)
 ·intro H' S' i f' s' g hi
  cases s' d _ g with
  |fK h p' =>
   dsimp only at hi
   rw [List.length_map] at hi
   exact ⟨h,by rw [Paired.len p'];exact hi⟩
 ·rintro H' S' i x H'' f' s' g hi ⟨pp,kv,ek,hp,ex,eH⟩
  subst eH ex
  cases s' d _ g with
  |fK h p' =>
   obtain ⟨kt,e1,e2⟩:=nI p' ek
   refine ⟨gA kt,by rw [List.getElem?_map,e1];rfl,Fr.new hp,s'.new hp,?_⟩
   refine .tup (s'.fresh hp) aI (.cons ?_ (.cons (e2.2.fr (Fr.new hp)) .nil))
   rw [e2.1];exact Bi _
 ·intro H' S' f' s' g
  cases s' d _ g with
  |fK h p'=>exact ⟨h,by rw [Paired.len p',List.length_map];exact Nat.le_refl _⟩
def nP (w:World) (we:WE):WE:=λσ S Q=>we σ S λt S'=>∃ d od kvs kts,S' d=some (.fK w od kvs kts)/\Q t (put S' d (.dK kts))
def nQ (w:World) (u:WS):WS:=λD σ S=>u { D with nx:=λσ' S'=>∃ d od kvs kts,S' d=some (.fK w od kvs kts)/\D.nx σ' (put S' d (.dK kts)) } σ S
theorem rT {w:World}{d:Addr}{od:Obj}{kts:List (Key×T)}{kvs:List (Key×V)}(s:SRp K H S) (e:S d=some (.fK w od kvs kts)) :
  H d=some (fzH w d od kvs)/\Fr H S (upd H d (.dK kvs)) (put S d (.dK kts))/\SRp K (upd H d (.dK kvs)) (put S d (.dK kts)):=by
 have hn:S d≠none:=by rw [e];simp
 cases s d _ e with
 |fK h p=>exact ⟨h,Fr.write hn,s.write hn (.dK aI (Paired.mapP p λ_ _ z=>⟨z.1,z.2.fr (Fr.write hn)⟩))⟩
theorem F8 {e:Expr}{we:WE}(h:QE K X e we):QE K X e (nP X.w we):=PE.of (PE.unf h) λσ H Q zz97=>by
 obtain ⟨S,σt,Qt,s,c,q,hq⟩:=zz97
 refine ⟨S,σt,_,s,c,q,λv H1 t S1 f1 s1 r1 q1=>?_⟩
 obtain ⟨d,od,kvs,kts,e,q1⟩:=q1
 obtain ⟨h1,f2,s2⟩:=rT s1 e
 exact ⟨d,od,kvs,h1,hq v _ t _ (f1.trans f2) s2 (r1.fr f2) q1⟩
theorem F9 {st:Stmt}{u:WS}(h:QS K X st u):QS K X st (nQ X.w u):=PS.of (PS.unf h) λD σ H zz98=>by
 obtain ⟨S,σt,Dt,s,c,q,he⟩:=zz98
 refine ⟨S,σt,_,s,c,q,⟨λσ' H' σt' S' f s' c' q'=>?_,he.rt,he.bk,he.ct⟩⟩
 obtain ⟨d,od,kvs,kts,e,q1⟩:=q'
 obtain ⟨h1,f2,s2⟩:=rT s' e
 exact ⟨d,od,kvs,h1,he.nx σ' _ σt' _ (f.trans f2) s2 (c'.fr f2) q1⟩
end
def nR (K:Fg) (g:List T->List T->Sto->(T->Sto->Prop)->Prop):List V->List V->Hp->VK->Prop:=λxs zs H Q=>∃ S ts us Qt,SRp K H S/\Rps K H S ts xs/\Rps K H S us zs/\g ts us S Qt/\Bh K H S Qt Q
def nr (g:List T->List T->Sto->(T->Sto->Prop)->Prop) (wr:WA) (wk:WE):WE:=λσ S Q=>wr σ S λts S1=>wk σ S1 λy S2=>g ts [y] S2 Q
theorem zt {K:Fg}{g:List T->List T->Sto->(T->Sto->Prop)->Prop}{wr:WA}{wk:WE}{σ H Q}(h:lE K (nr g wr wk) σ H Q):nH (nR K g) (lA K wr) (j3 (lE K wk) dn) σ H Q:=by
 obtain ⟨S,σt,Qt,s,c,q,hq⟩:=h
 refine ⟨S,σt,_,s,c,q,λvs H1 ts S1 f1 s1 r1 q1=>?_⟩
 refine ⟨S1,σt,_,s1,c.fr f1,q1,λy H2 ty S2 f2 s2 r2 q2=>?_⟩
 exact ⟨S2,ts,[ty],Qt,s2,r1.fr f2,.cons r2 .nil,q2,λv H' t S' f=>hq v H' t S' ((f1.trans f2).trans f)⟩
def vt:List T->List T->Sto->(T->Sto->Prop)->Prop:=λts us S Q=>∃ x ns d,ts=[x]/\us=[d]/\aH S x=some (List.map T.int ns)/\(ns=[]->Q d S)/\(ns≠[]->∀ m,m∈ns->(∀ i∈ns,i<=m)->Q (.int m) S)
section
variable {K:Fg}{X:Cx}{k:Nat}{f C:Addr}{fd:FuncData}{ps:List Str}{wsp:WSp}{x m fl:Str}{p pos apos cpos pos':Pos}{e o value:Expr}{es:List Expr}{wa wv:WE}{wr:WA}{G:Addr->Prop}
theorem rV (M:Mk X.K C f) (F:FnOk X.prog X.w X.K X.mg X.base CX0 k f fd ["self"] (lSp K wsp)) (hb:ay X.K fd ["self"] []) (hr:Room (k+1) X.A) (hg:Gl X x) (hm:X.mg x=some (.ref C)) (hdb:(x==("__debug__":Str))=false:=by decide) :
  QE K X (.Call (.Name x p) [] [] pos) (m6 C wsp [] cM):=AR (dvs:=[]) (λ_ _=>.nil) (yT M F hr hg hm hb .nil iz hdb)
theorem a6 {pl:Sem Bool}(hG:∀ C,G C->Cls X.K C/\Meth X.K C m f) (F:FnOk X.prog X.w X.K X.mg X.base CX0 k f fd ps (lSp K wsp)) (hb:ay X.K fd ps []) (hr:Room k X.A) (ho:QE K X o wa) (ha:QA K X (e::es) wr)
  (hst:starEach (e::es) X.env=(false,eval e X.env)::starEach es X.env:=by rfl) (hpl:(backTo pos (starEach es X.env)).any (·.1)=false:=by rfl)
  (ht:eval (.Call (.Attribute o m apos) (e::es) [] pos) X.env=(do
   let ov <- eval o X.env
   standAt apos.atName
   let (f,first) <- holding [ov] (getMethod ov m pl)
   callWith pos f first (backTo pos (starEach (e::es) X.env)) (backToKw pos (keywordEach [] X.env))):=by rfl) :
  QE K X (.Call (.Attribute o m apos) (e::es) [] pos) (dI G m wsp [] wa wr):=tf (dvs:=[]) (λ_ _=>.nil) (qo (pl:=pl) ho hG F hr hb .nil iz ha hst hpl ht)
theorem er {pl:Sem Bool}(hG:∀ C,G C->Cls X.K C/\Meth X.K C m f) (F:FnOk X.prog X.w X.K X.mg X.base CX0 k f fd ps (lSp K wsp)) (hb:ay X.K fd ps []) (hr:Room k X.A) (ho:QE K X o wa)
  (ht:eval (.Call (.Attribute o m apos) [] [] pos) X.env=(do
   let ov <- eval o X.env
   standAt apos.atName
   let (f,first) <- holding [ov] (getMethod ov m pl)
   callWith pos f first (backTo pos (starEach [] X.env)) (backToKw pos (keywordEach [] X.env))):=by rfl) :
  QE K X (.Call (.Attribute o m apos) [] [] pos) (dI G m wsp [] wa cM):=AO (dvs:=[]) (λ_ _=>.nil) (yg (pl:=pl) ho hG F hr hb .nil iz ht)
theorem bA (hK:X.K=K) (hG:∀ C,G C->Cls K C/\bG K C fl) (he:QE K X o wa) (hb:attributeBase o fl X.env (eval o X.env)=eval o X.env:=by rfl):QE K X (.Attribute o fl pos) (nK G wa fl):=EW hK hG he hb
theorem iI (w:World){i:Expr}{wi:WE}(hw:X.w=w) (ho:QE K X o wa) (hi:QE K X i wi) (hs:kD i):QE K X (.Subscript o i pos) (w2 (nO w) wa wi):=by subst hw;exact F6 ho hi hs
theorem nt (w:World) (hw:X.w=w):OpR X (compareOp .In) (l2 K (iQ w false)):=by subst hw;exact F7
theorem jq (w:World) (hw:X.w=w):OpR X (compareOp .NotIn) (l2 K (iQ w true)):=by subst hw;exact zq
theorem l9 (w:World){elts:List Expr}{x1:Nat}{tpos:Pos}(hw:X.w=w) (hK:X.K=K) (ho:QE K X o wa)
  (hbase:attributeBase o "items" X.env (eval o X.env)=eval o X.env:=by rfl) (hline:(apos.endLine==cpos.line)=true:=by rfl):QI K X (.Tuple elts x1 tpos) (.Call (.Attribute o "items" apos) [] [] cpos) (wiP w wa):=by subst hw;exact zr ho hK hbase hline
theorem F' (w:World) (hw:X.w=w) (h:QE K X e wa):QE K X e (nP w wa):=by subst hw;exact F8 h
theorem vv (w:World){st:Stmt}{u:WS}(hw:X.w=w) (h:QS K X st u):QS K X st (nQ w u):=by subst hw;exact F9 h
theorem Gc {g:List T->List T->Sto->(T->Sto->Prop)->Prop}{id:String}{kw:Str}{ke:Expr}{wk:WE}{kpos:Pos}(hc:hZ X (.builtin id) [kw] (nR K g)) (hg:Gl X x) (hm:X.mg x=none) (hv:bootBuiltins x=some (.builtin id)) (ha:QA K X [e] wr) (hk:QE K X ke wk)
  (hks:(backToKw pos (keywordEach [⟨some kw,ke,kpos⟩] X.env)).filterMap (·.1)=[kw]:=by rfl) (hn:x ≠ "__name__":=by decide) (hdb:(x==("__debug__":Str))=false:=by decide)
  (he:backTo pos (starEach [e] X.env)=(false,eval e X.env)::backTo pos (starEach [] X.env):=by rfl) (hplain:(backTo pos (starEach [e] X.env)).any (·.1)=false:=by rfl)
  (hall:(backToKw pos (keywordEach [⟨some kw,ke,kpos⟩] X.env)).all (·.1.isSome)=true:=by rfl) (hkw2:(backToKw pos (keywordEach [⟨some kw,ke,kpos⟩] X.env)).any (·.1.isNone)=false:=by rfl) :
  QE K X (.Call (.Name x p) [e] [⟨some kw,ke,kpos⟩] pos) (nr g wr wk):=PE.of (pP hc hg hm hv ha (re hk sT) hks hn hdb he hplain hall hkw2) λ_ _ _ h=>zt h
theorem DH (hK:X.K=K) (hc:X.calm=true):hZ X (.builtin "max") [Str.ofString "default"] (nR K vt):=by
 subst hK
 rintro pins s σ H xs zs us ws Q I rv rz ⟨S,ts,ds,Qt,sr,r1,r2,⟨x,ns,d,e1,e2,ev,q0,q1⟩,b⟩
 subst e1 e2
 cases r1 with
 |cons rx rn =>
  cases rn
  cases r2 with
  |cons rd rn =>
   cases rn
   obtain ⟨p,vs,rfl,hS,rs⟩:=bF sr rx ev
   have hv:vs=ns.map V.int:=lV rs (by
    clear rs hS q0 q1 ev rx
    induction ns with
    |nil=>rfl
    |cons a l ih=>simp only [List.map_cons,lU,ih,Option.map_some])
   subst hv
   exact x9 hc pins s σ H _ _ us ws Q I rv rz ⟨p,ns,_,rfl,rfl,hS,λh=>b _ H _ S .refl sr rd (q0 h),λh m m1 m2=>b _ H _ S .refl sr .int (q1 h m m1 m2)⟩
structure FunD (K:Fg) (x qual:Str) (st:Stmt) (f:Addr) (fd:FuncData):Prop where
 ex:∃ (oc:Value) (od:Option Addr) (dV kV doc pm:Value) (an:Option Addr) (cdv ct:Value) (osl:Array (Option Value)),
  fd=PySem.W.fnOf x qual (aA st) (av st) (aj st) dV kV doc pm an cdv ct/\K.lookup f=some ⟨oc,od,.func fd,osl⟩/\PySem.W.codeIn K cdv qual=true
theorem bM {P:Program}{w:World}{mg:Str->Option Value}{base:Heap}{x qual:Str}{st:Stmt}{N:List Str}(F:FunD K x qual st f fd) (Sc:FnScope N ps (aj st)) (len:∀ ts S Q,wsp ts S Q->ts.length=ps.length)
  (hbody:∀ (cdv:Value) (A:Around) (outer:List Env) (s:Shared) (H:Hp) (E:XK),Room k (A.deeper (envOfC qual (aj st) s.heap.objs.size f cdv)) ->
   ∃ u,QSs K (cq CX0 P w K mg base N qual (aj st) f cdv A outer s H E).nox (av st) u/\∀ ts S Q,wsp ts S Q->u { nx:=λ_ S'=>Fin Q .non S',rt:=Fin Q } (cI N ts) S):FnOk P w K mg base CX0 (k+1) f fd ps (lSp K wsp):=by
 obtain ⟨oc,od,dV,kV,doc,pm,an,cdv,ct,osl,rfl,lk,hcd⟩:=F.ex
 refine m5 lk hcd Sc (λvs H Q E ⟨S,ts,Qt,s,r,q,_⟩=>by rw [r.length];exact len _ _ _ q) λA outer s H vs Q E hr ⟨S,ts,Qt,sr,r,q,b⟩=>?_
 obtain ⟨u,hu,hq⟩:=hbody cdv A outer s H E hr
 exact ⟨_,L2.PSs.nox hu,S,cI N ts,_,sr,kX r,hq ts S Qt q,⟨λ_ H' _ S' f s' _ q'=>Fin.ends b f s' .non q',λv H' t S' f s' r' q'=>Fin.ends b f s' r' q',λ_ _ _ _ _ _ _ q'=>q'.elim,λ_ _ _ _ _ _ _ q'=>q'.elim⟩⟩
end
section
variable {σ:StT}{S:Sto}{D:EndsT}{Q:T->Sto->Prop}{R:Prop}{w:World}{a d C:Addr}{G:Addr->Prop}{fs:List (Str×T)}{m fl:Str}{t:T}{x y:T}{kts:List (Key×T)}{k:Key}{i:Int}
theorem DI {wsp:WSp}{wr:WA}(h:wr σ S λts S1=>∀ x,S1 x=none->wsp (.ref x::(ts++[])) (put S1 x (.ins C [])) (λt S2=>t=.non/\Q (.ref x) S2)):m6 C wsp [] wr σ S Q:=h
theorem DJ {wsp:WSp}{dts:List T}{wa:WE}{wr:WA}(h:wa σ S λx S1=>∃ a C fs,x=.ref a/\S1 a=some (.ins C fs)/\G C/\fs.lookup m=none/\wr σ S1 λts S2=>wsp (x::(ts++dts)) S2 Q):dI G m wsp dts wa wr σ S Q:=h
theorem DK (e:S a=some (.ins C fs)) (g:G C) (l:fs.lookup m=none) (h:R):∃ a' C' fs',T.ref a=.ref a'/\S a'=some (.ins C' fs')/\G C'/\fs'.lookup m=none/\R:=⟨a,C,fs,rfl,e,g,l,h⟩
theorem Ge {wa:WE}(h:wa σ S λx S1=>∃ a C fs v,x=.ref a/\S1 a=some (.ins C fs)/\G C/\fs.lookup fl=some v/\Q v S1):nK G wa fl σ S Q:=h
theorem Gf {P:T->Prop}(e:S a=some (.ins C fs)) (g:G C) (l:fs.lookup fl=some t) (h:P t):∃ a' C' fs' v,T.ref a=.ref a'/\S a'=some (.ins C' fs')/\G C'/\fs'.lookup fl=some v/\P v:=⟨a,C,fs,t,rfl,e,g,l,h⟩
theorem DL {wa wv:WE}(h:wv σ S λy S1=>wa σ S1 λx S2=>∃ a C fs,x=.ref a/\S2 a=some (.ins C fs)/\G C/\fs.length<1000/\D.nx σ (put S2 a (.ins C (dA fl y fs)))):uX G wa wv fl D σ S:=h
theorem tZ {P:Addr->Addr->List (Str×T)->Prop}(e:S a=some (.ins C fs)) (g:G C) (l:fs.length<1000) (h:P a C fs):∃ a' C' fs',T.ref a=.ref a'/\S a'=some (.ins C' fs')/\G C'/\fs'.length<1000/\P a' C' fs':=⟨a,C,fs,rfl,e,g,l,h⟩
theorem Bk {wa wv:WE}(h:wa σ S λx S1=>∃ a C fs i,x=.ref a/\S1 a=some (.ins C fs)/\G C/\fs.lookup fl=some (.int i) /\
 wv σ S1 λy S2=>∃ j fs',y=.int j/\S2 a=some (.ins C fs')/\fs'.length<1000/\D.nx σ (put S2 a (.ins C (dA fl (.int (i+j)) fs')))):qp G wa wv fl D σ S:=h
theorem Bl {P:Addr->Addr->Int->Prop}(e:S a=some (.ins C fs)) (g:G C) (l:fs.lookup fl=some (.int i)) (h:P a C i):∃ a' C' fs' i',T.ref a=.ref a'/\S a'=some (.ins C' fs')/\G C'/\fs'.lookup fl=some (.int i')/\P a' C' i':=⟨a,C,fs,i,rfl,e,g,l,h⟩
theorem zv {P:Int->List (Str×T)->Prop}{j:Int}(e:S a=some (.ins C fs)) (l:fs.length<1000) (h:P j fs):∃ j' fs',T.int j=.int j'/\S a=some (.ins C fs')/\fs'.length<1000/\P j' fs':=⟨j,fs,rfl,e,l,h⟩
theorem Gg {g:List T->List T->Sto->(T->Sto->Prop)->Prop}{wr:WA}{wk:WE}(h:wr σ S λts S1=>wk σ S1 λy S2=>g ts [y] S2 Q):nr g wr wk σ S Q:=h
theorem DM {ns:List Int}(e:aH S x=some (ns.map T.int)) (h0:ns=[]->Q y S) (h1:ns≠[]->∀ m,m∈ns->(∀ i∈ns,i<=m)->Q (.int m) S):vt [x] [y] S Q:=⟨x,ns,y,rfl,rfl,e,h0,h1⟩
theorem Gh {u:WS}(h:u { D with nx:=λσ' S'=>∃ d od kvs kts,S' d=some (.fK w od kvs kts)/\D.nx σ' (put S' d (.dK kts)) } σ S):nQ w u D σ S:=h
theorem Gi {we:WE}(h:we σ S λt S'=>∃ d od kvs kts,S' d=some (.fK w od kvs kts)/\Q t (put S' d (.dK kts))):nP w we σ S Q:=h
theorem DN (h:∀ p,S p=none->Q (.ref p) (put S p (.dK []))):vq σ S Q:=h
theorem ki (e:S a=some (.dK kts)) (ek:bX y=some k) (l:aR kts k=some t) (h:Q t S):nO w (.ref a) y S Q:=⟨a,kts,k,t,rfl,.inl e,ek,l,h⟩
theorem dN {n:Bool}(e:S a=some (.dK kts)) (ek:bX x=some k) (h:Q (.bl (n ^^ (aR kts k).isSome)) S):iQ w n x (.ref a) S Q:=⟨a,kts,k,rfl,.inl e,ek,h⟩
theorem gj {v:T}{Q:Sto->Prop}(e:S a=some (.dK kts)) (ek:bX y=some k) (l:kts.length<sizeLine) (h:Q (put S a (.dK (di kts k v)))):vo (.ref a) y v S Q:=⟨a,kts,k,rfl,e,ek,l,h⟩
theorem t4 (e:S a=some (.dK kts)) (ek:bX y=some k) (l:aR kts k=some t) (h:Q t (put S a (.dK (gy kts k)))):vp (.ref a) [y] S Q:=⟨a,kts,y,k,t,rfl,rfl,e,ek,l,h⟩
theorem vw {R:Prop}(e:S a=some (.dK kts)) (h:R):tyM "dict" S (.ref a)/\R:=⟨by delta tyM;dsimp only;rw [e],h⟩
theorem HD {wa:WE}{R:Src->Sto->Prop}(h:wa σ S λx S1=>∃ d kts,x=.ref d/\S1 d=some (.dK kts)/\∀ od kvs,R ⟨kts.map gA,λS'=>S' d=some (.fK w od kvs kts)⟩ (put S1 d (.fK w od kvs kts))):wiP w wa σ S R:=h
theorem wF {P:Addr->List (Key×T)->Prop}(e:S d=some (.dK kts)) (h:P d kts):∃ d' kts',T.ref d=.ref d'/\S d'=some (.dK kts')/\P d' kts':=⟨d,kts,rfl,e,h⟩
theorem nS {P:Addr->List (Key×T)->Prop}{od:Obj}{kvs:List (Key×V)}(e:S d=some (.fK w od kvs kts)) (h:P d kts):∃ d' od' kvs' kts',S d'=some (.fK w od' kvs' kts')/\P d' kts':=⟨d,od,kvs,kts,e,h⟩
end
end T2
namespace T2
open PySem PySem.Spec PyProof.Rows L2 S6
theorem xg (a:Value):argsOk "sorted" ⟨[a],[]⟩:=by unfold argsOk;kernel_rfl
theorem wW (a:Value):argsOk "list.sort" ⟨[a],[]⟩:=by unfold argsOk;kernel_rfl
theorem w9 (a:Addr):Builtin.«list.sort» ⟨[.ref a],[]⟩=(do
  let items <- Builtin.List.listItems (.ref a)
  Builtin.List.listUpdate (.ref a) λ_=>#[]
  let before <- seqEpoch a
  let held <- newTuple items.toList
  let keyStore <- newList []
  holding [held,keyStore] do
   let keys <- pure items
   let kind <- if items.size<2 then pure general' else keyKind' keys
   let ((),s) <- (if items.size<2 then pure () else sortRuns').run (SortSt.mk' kind (keys.zip items) #[] 7 none)
   let sorted:=(arrOf s).map (·.2)
   let touched:=(<- seqEpoch a) != before
   Builtin.List.listUpdate (.ref a) λ_=>sorted
   if let some e:=failedOf s then rule "list.sort.comparison-raised";throw e
   if touched then rule "list.sort.modified";raiseError "ValueError" "list modified during sort"
   ret .none):=by rfl
def vx (tr:Bool):List T->Sto->(T->Sto->Prop)->Prop:=λts S Q=>∃ x xs κ k0,ts=[x]/\aH S x=some xs/\xs.length<64/\fit k0=true/\k0.dep<=30 /\
 (∀ t∈xs,Ky.ok (κ t)=true/\Ky.shp k0 (κ t)=true/\tre (κ t)=t)/\wA tr xs κ S Q
theorem DO {X:Cx}{K:Fg}(tr:Bool) (hK:X.K=K) (hr:Room 2 X.A) :
  aX X (.builtin "sorted") (lC K (vx tr)):=by
 rintro pins s σ H xs us Q I rv ⟨S,ts,Qt,sr,r1,⟨x,ls,κ,k0,e1,ev,h64,hf,hd,hk,hq⟩,b⟩
 subst e1
 cases r1 with
 |cons rx rnil =>
 cases rnil
 obtain ⟨u,rfl,ru⟩:=bg rv
 obtain ⟨pl,vs,rfl,hS,rs⟩:=bF sr rx ev
 cases ru
 have hS':SqL X.K H pl vs:=by rw [hK];exact hS
 obtain ⟨its,rvs,hpl,hz⟩:=I.list hS'
 obtain ⟨o,n,eo,ec,_,ed⟩:=hpl
 have hlen:its.length=ls.length:=by rw [<- rvs.length,rs.length]
 have hsl:its.length<=sizeLine:=by rw [<- rvs.length];exact hz
 show wpAny _ X.A (call (.builtin "sorted") [.ref pl] []) _ _ s
 refine kP kind_sorted plain_sorted entry_sorted (xg _) ?_
 unfold Builtin.«sorted»
 refine wpAny_bind (m:=checkCount "sorted" 1 1 _) (wpAny_pure ?_)
 refine wpAny_bind (collect_list (l:=pl) (vs:=its) ⟨o,eo,ec,n,ed⟩ ?_ hsl)
 refine wpAny_bind (wpAny_newList ?_ hsl)
 generalize hh1:(s.heap.push (seqObj "list" #[] 0)).update s.heap.objs.size (Obj.mapSeq (·++its.toArray))=h1
 have old1:∀ b u,s.heap.get? b=some u->h1.get? b=some u:=λb u e=>by
  rw [<- hh1]
  exact (Heap.get?_update_other _ _ (Ne.symm (Nat.ne_of_lt (Heap.lt_size e)))).trans (Heap.get?_push_of_some _ e)
 have sz1:s.heap.objs.size<=h1.objs.size:=by rw [<- hh1,Heap.size_update,size_push'];omega
 dsimp only
 have hoL:(h1.push (seqObj "list" its.toArray 0)).get? h1.objs.size=some (seqObj "list" its.toArray 0):=Heap.get?_push_size _ rfl
 refine wpAny_bind (wpAny_holding (ou slot_list_sort (Ty:="list") ⟨_,hoL,rfl⟩ entry_list_sort ?_ (wW _)))
 rw [w9]
 refine wpAny_bind (listItems_at hoL rfl ?_)
 refine wpAny_bind (listUpdate_at hoL rfl ?_ (by simpa using hsl) (by simp))
 obtain ⟨ep,ho1⟩:∃ ep,((h1.push (seqObj "list" its.toArray 0)).update h1.objs.size (Obj.mapSeq λ_=>#[])).get? h1.objs.size=some (seqObj "list" #[] ep):=⟨_,get?_update_seq hoL (λ_=>#[])⟩
 refine wpAny_bind (seqEpoch_at ho1 rfl ?_)
 generalize hL:h1.objs.size=L at *
 generalize hh2:(h1.push (seqObj "list" its.toArray 0)).update L (Obj.mapSeq λ_=>#[])=h2 at *
 have szh2:h2.objs.size=L+1:=by rw [<- hh2,Heap.size_update,size_push',hL]
 have I2:Inv X pins σ (upd H L (ci L (seqObj "list" #[] ep))) { s with heap:=h2,toks:=s.toks } :=
  tM I (λb u e=>by rw [<- hh2];exact (Heap.get?_update_other _ _ (Ne.symm (Nat.ne_of_lt (Nat.lt_of_lt_of_le (Heap.lt_size e) sz1)))).trans (Heap.get?_push_of_some _ (old1 b u e))) sz1 ho1
 refine wpAny_bind (wpAny_newTuple ?_ (by simpa using hsl))
 refine wpAny_bind (wpAny_newList ?_)
 dsimp only
 generalize hh3:h2.push { cls:=.type "tuple",data:=.seq its.toArray.toList.toArray }=h3
 have szh3:h3.objs.size=L+2:=by rw [<- hh3,size_push',szh2]
 generalize hh4:h3.push { cls:=.type "list",data:=.seq ([]:List Value).toArray }=h4
 rw [szh3]
 have I4:Inv X pins σ (upd (upd H L (ci L (seqObj "list" #[] ep))) (L+2) (bc (L+2) [])) { s with heap:=h4,toks:=s.toks } :=
  tL (s:={ s with heap:=h2,toks:=s.toks }) I2 (λb u e=>by rw [<- hh4,<- hh3];exact Heap.get?_push_of_some _ (Heap.get?_push_of_some _ e)) (by show h2.objs.size<=_;omega) .nil (Nat.zero_le _) (by rw [<- hh4,<- szh3];exact Heap.get?_push_size _ rfl)
 have ne1:L+2≠L:=Nat.ne_of_gt (Nat.lt_add_of_pos_right (by decide))
 have ne2:L≠L+2:=Ne.symm ne1
 have nL:H L=none:=I.hok.fresh sz1
 have nk:H (L+2)=none:=I.hok.fresh (by omega)
 have nk2:upd H L (ci L (seqObj "list" #[] ep)) (L+2)=none:=by rw [aB ne1];exact nk
 have nSL:S L=none:=sr.fresh nL
 have nSk:S (L+2)=none:=sr.fresh nk
 generalize hHc:upd (upd H L (ci L (seqObj "list" #[] ep))) (L+2) (bc (L+2) [])=Hc at *
 have eL:Hc L=some (ci L (seqObj "list" #[] ep)):=by rw [<- hHc,aB ne2];exact aI
 have ek:Hc (L+2)=some (bc (L+2) []):=by rw [<- hHc];exact aI
 have fc:Fr H S Hc S:=by rw [<- hHc];exact (Fr.new nL).trans (Fr.new nk2)
 have sc:SRp K Hc S:=by rw [<- hHc];exact (sr.new nL).new nk2
 refine wpAny_holding (wpAny_bind (wpAny_pure ?_))
 generalize hs5:({ s with heap:=h4,toks:=s.toks }:Shared)=s5 at *
 have rs5:=rs.fr fc
 obtain ⟨R,q1,q2,q3,q4,q5⟩:=lY rs5 rvs (rfl:its.length=its.length)
 have key:∀ r∈R,KR s5 r.ku (κ r.t)/\Ky.shp k0 (κ r.t)=true:=by
  have go:∀ {R:List Rec}{vs:List V},Rps K Hc S (R.map (·.t)) vs->al vs (R.map (·.ku))->(∀ r∈R,r.t∈ls)->∀ r∈R,KR s5 r.ku (κ r.t)/\Ky.shp k0 (κ r.t)=true:=by
   intro R
   induction R with
   |nil=>intro _ _ _ _ r hr;cases hr
   |cons r0 R ih =>
    intro kvs a b m r hr
    cases a with
    |cons a1 a2 =>
     cases b with
     |cons b1 b2 =>
      rcases List.mem_cons.mp hr with rfl|hr
      ·have:=hk r.t (m r (List.mem_cons_self ..))
       exact ⟨kf hK I4 (by rw [this.2.2];exact a1) b1 this.1,this.2.1⟩
      ·exact ih a2 b2 (λx hx=>m x (List.mem_cons_of_mem _ hx)) r hr
  exact go (by rw [q1];exact rs5) (by rw [q4];exact rvs) λr hr=>by rw [<- q1];exact List.mem_map_of_mem hr
 refine pV (k0:=k0) rfl (by rw [hlen];exact h64) hf (λv hv=>?_) (by have:=hr.in1.in1.units;omega) λst hp hfail hsrt=>?_
 ·rw [<- q4] at hv
  obtain ⟨r,hr,rfl⟩:=List.mem_map.mp hv
  exact ⟨_,key r hr⟩
 ·obtain ⟨R',pR,eR⟩:=jn (λr:Rec=>((r.ku,r.u):Keyed)) (Array.perm_iff_toList_perm.mp hp) (l:=R) (by
   have:(its.toArray.zip its.toArray).toList=its.zip its:=by simp
   rw [this]
   conv=>lhs;arg 1;rw [<- q4]
   conv=>lhs;arg 2;rw [<- q3]
   exact List.zip_map')
  have memR:∀ r∈R',r∈R:=λr hr=>pR.mem_iff.mp hr
  obtain ⟨rz,vz⟩:=lh λr hr=>q5 r (memR r hr)
  have lR:R'.length=its.length:=by rw [pR.length_eq,<- q3,List.length_map]
  have szR:(arrOf st).size=R'.length:=by rw [<- Array.length_toList,eR,List.length_map]
  have at_:∀ k (h:k<(arrOf st).size) (h':k<R'.length),(arrOf st)[k].1=R'[k].ku:=λk h h'=>by
   have e1:(arrOf st)[k]=(arrOf st).toList[k]'(by simpa using h):=by simp
   rw [e1,List.getElem_of_eq eR,List.getElem_map]
  have srt:(R'.map (·.t)).Pairwise (λa b=>Ky.lt (κ b) (κ a)=false):=by
   rw [List.pairwise_map,List.pairwise_iff_getElem]
   intro i j hi hj ij
   have:=hsrt i j (by rw [szR];exact hj) (by rw [szR];exact hi) (Nat.le_of_lt ij)
   rw [at_ i (by rw [szR];exact hi) hi,at_ j (by rw [szR];exact hj) hj,gR (key _ (memR _ (List.getElem_mem hi))).1,gR (key _ (memR _ (List.getElem_mem hj))).1] at this
   exact this
  have fin:=hq (R'.map (·.t)) (by rw [<- q1];exact pR.map _) srt
  have eL5:=vm I4 eL
  have out:(arrOf st).map (·.2)=(R'.map (·.u)).toArray:=by
   apply Array.toList_inj.mp
   rw [Array.toList_map,eR,List.map_map]
   rfl
  dsimp only
  refine wpAny_bind (seqEpoch_at eL5 rfl ?_)
  refine wpAny_bind (listUpdate_at eL5 rfl ?_ (by simp) (by rw [out];simp;omega))
  rw [hfail]
  simp only [bne_self_eq_false,Bool.false_eq_true,if_false]
  have I7:=jR I4 eL (its:=[]) eL5 (f:=λ_=>(arrOf st).map (·.2)) (its':=R'.map (·.u)) out vz (by rw [List.length_map,lR];exact hsl)
  have I8:=I7.ofAcc (D:=L) aI
  rw [gX] at I8
  refine wpAny_pure ⟨_,rfl,wpAny_pure ⟨.ref L,_,I8,rfl,?_⟩⟩
  cases tr with
  |false=>exact b _ _ (.lst _) S (Fr.at fc nL) (sc.chg eL nSL) (.lst nSL aI (Rps.chg eL rz)) fin
  |true =>
   refine b _ _ (.ref L) _ (λa o h nn=>?_) (SRp.trk eL sc rz) .ref (fin L nSL)
   have ha:a≠L:=bj h nL
   rw [ak ha]
   exact Fr.at fc nL a o h nn
theorem DP {α:Type}{S:Sto}{Q:T->Sto->Prop}{tr:Bool}{ls:List α}{x:T}(κ:α->Ky) (κT:T->Ky) (k0:Ky) (e:aH S x=some (ls.map λa=>tre (κ a))) (hT:∀ a∈ls,κT (tre (κ a))=κ a) (h64:ls.length<64) (hf:fit k0=true) (hd:k0.dep<=30)
  (hk:∀ a∈ls,Ky.ok (κ a)=true/\Ky.shp k0 (κ a)=true)
  (h:∀ l':List α,l'.Perm ls->l'.Pairwise (λa b=>Ky.lt (κ b) (κ a)=false)->newL tr (l'.map λa=>tre (κ a)) S Q):vx tr [x] S Q:=by
 refine ⟨x,ls.map λa=>tre (κ a),κT,k0,rfl,e,by rw [List.length_map];exact h64,hf,hd,λt ht=>?_,λzs hp hs=>?_⟩
 ·obtain ⟨a,ha,rfl⟩:=List.mem_map.mp ht
  have:=hk a ha
  rw [hT a ha]
  exact ⟨this.1,this.2,rfl⟩
 ·obtain ⟨l',p,rfl⟩:=jn (λa=>tre (κ a)) hp rfl
  rw [List.pairwise_map] at hs
  refine h l' p (hs.imp_of_mem fun {a b} ha hb q=>?_)
  rw [hT a (p.mem_iff.mp ha),hT b (p.mem_iff.mp hb)] at q
  exact q
end T2
namespace L2
open PySem PySem.Spec PyProof.Rows
theorem DQ {X:Cx}{pins:List (Addr×Obj)}{σ:St}{H:Hp}{s:Shared}{v:V}{u:Value}{A:Around}{E:Value->Shared->Prop}{D:List PyData}{Q:Value->Shared->Prop}(hg:A.guards=some []) (hu:A.units+64<cLine) (I:Inv X pins σ H s) (hd:DatV X.K H v (.list D)) (ru:aq v u) (hs:PyData.showable (.list D)=true) (hn:PyData.hasDict (.list D)=false)
  (hdep:PyData.depth (.list D)<=60) (hsz:(PyData.shown (.list D)).length<=sizeLine) (h:∀ t s',Inv X pins σ H s'->Q (.str (PyData.shown (.list D)) t) s'):wpAny (model X.prog X.w) A (call (.builtin "repr") [u]) Q E s:=by
 obtain ⟨as,ra⟩:=cF I hd ru
 cases hd with
 |lst hq hss =>
  obtain rfl:=(show u=Value.ref _ from ru)
  exact repr_of_reads' ra hs (PyData.noDict_hsm hn) hg (by omega) (λ_ _ e=>e) (λh' t tk hk=>h t _ (I.kept (t':=tk) hk)) hsz
end L2
namespace T2
open PySem PySem.Spec PyProof.Rows L2
section
variable {K:Fg}{X:Cx}{H:Hp}{S:Sto}
def Gj:GC:=λts S Q=>∃ x D,ts=[x]/\a7 S x=some (.list D)/\PyData.showable (.list D)=true/\PyData.hasDict (.list D)=false/\PyData.depth (.list D)<=60/\(PyData.shown (.list D)).length<=sizeLine/\Q (.str (PyData.shown (.list D))) S
theorem gp (hK:X.K=K) (hg:X.A.guards=some []) (hu:X.A.units+64<cLine):aX X (.builtin "repr") (lC K Gj):=by
 subst hK
 rintro pins s σ H xs us Q I r ⟨S,ts,Qt,sr,rs,⟨x,D,e,ed,hs,hn,hdep,hsz,q⟩,b⟩
 subst e
 cases rs with
 |cons h rn =>
  cases rn
  obtain ⟨u,rfl,ru⟩:=bg r
  exact DQ hg hu I (dD sr h ed) ru hs hn hdep hsz λt s' I'=>⟨.str _,H,I',⟨t,rfl⟩,b _ H _ S .refl sr .str q⟩
end
end T2
namespace T2
open PySem PySem.Spec PyProof.Rows L2 S6
section
variable {K:Fg}{X:Cx}{H:Hp}{S:Sto}
def t5 (k1 k2:Str) (w1 w2:WE):WE:=λσ S Q=>∀ p,S p=none->w1 σ (put S p (.dK [])) λt1 S1=>w2 σ S1 λt2 S2=>S2 p=some (.dK [])/\Q (.ref p) (put S2 p (.dK [(.inr k1,t1),(.inr k2,t2)]))
theorem rW {k1 k2:Str}{v1 v2:Expr}{j1 j2:Nat}{p1 p2 pos:Pos}{w1 w2:WE}(hne:k1≠k2) (h1:QE K X v1 w1) (h2:QE K X v2 w2):QE K X (.Dict [some (.Constant (.str k1) j1 p1),some (.Constant (.str k2) j2 p2)] [v1,v2] pos) (t5 k1 k2 w1 w2):=by
 refine PE.of (AH (qm jJ h1 (qm jJ h2 AG)) rfl rfl (by simp) (Nat.le_of_ble_eq_true rfl)) λσ H Q zz99=>?_
 obtain ⟨S,σt,Qt,s,c,q,hq⟩:=zz99
 intro p hp
 have f0:Fr H S (upd H p (.dK [])) (put S p (.dK [])):=Fr.newT hp
 have s0:=s.newT hp (u:=.dK []) (o:=.dK []) (.dK aI .nil)
 refine ⟨put S p (.dK []),σt,_,s0,c.fr f0,q p (s.fresh hp),λx1 H1 t1 S1 f1 sr1 r1 q1=>?_⟩
 refine ⟨S1,σt,_,sr1,(c.fr f0).fr f1,q1,λx2 H2 t2 S2 f2 sr2 r2 q2=>?_⟩
 obtain ⟨e2,q2⟩:=q2
 obtain ⟨kvs,hk,pr⟩:=iH sr2 e2
 cases pr
 refine ⟨hk,[(.inr k1,x1),(.inr k2,x2)],rfl,Nat.le_of_ble_eq_true rfl,?_⟩
 have em:eC [] [((.inr k1:Key),x1),(.inr k2,x2)]=[(.inr k1,x1),(.inr k2,x2)]:=by
  simp [eC,bd,hne]
 rw [em]
 have hn:S2 p≠none:=by rw [e2];simp
 have fw:Fr H2 S2 (upd H2 p (.dK [(.inr k1,x1),(.inr k2,x2)])) (put S2 p (.dK [(.inr k1,t1),(.inr k2,t2)])):=Fr.write hn
 exact hq _ _ _ _ (((f0.trans f1).trans f2).trans fw) (sr2.write hn (.dK aI (.cons ⟨rfl,(r1.fr f2).fr fw⟩ (.cons ⟨rfl,r2.fr fw⟩ .nil)))) .ref q2
theorem Bm {σ:StT}{Q:T->Sto->Prop}{k1 k2:Str}{w1 w2:WE}(h:∀ p,S p=none->w1 σ (put S p (.dK [])) λt1 S1=>w2 σ S1 λt2 S2=>S2 p=some (.dK [])/\Q (.ref p) (put S2 p (.dK [(.inr k1,t1),(.inr k2,t2)]))):t5 k1 k2 w1 w2 σ S Q:=h
end
end T2
namespace L2
open PySem PySem.Spec PyProof.Rows
theorem zw {X:Cx}{pins:List (Addr×Obj)}{σ:St}{H:Hp}{s:Shared}{a:Addr}{kvs:List (Key×V)}{k:Key}{v:V}{u r:Value}{A:Around}{E:Value->Shared->Prop}{Q:Value->Shared->Prop}(I:Inv X pins σ H s) (e:H a=some (.dK kvs)) (ry:aq (kV k) u) (rv:aq v r) (l:kvs.length<sizeLine)
  (h1:∀ v',aU kvs k=some v'->∀ w' s',Inv X pins σ H s'->aq v' w'->Q w' s') (h2:aU kvs k=none->∀ s',Inv X pins σ (upd H a (.dK (bd kvs k v))) s'->Q r s') :
  wpAny (model X.prog X.w) A (call (.builtin "dict.setdefault") [.ref a,u,r]) Q E s:=by
 obtain ⟨z,hd,vs,rel,dd⟩:=eM I.hok e
 have hz:vs.length<=sizeLine:=by rw [<- rel.length];exact z
 have hl:(bd kvs k v).length<=sizeLine:=by have:=i9 kvs k v;omega
 refine call_meetsIn PySem.F.slot_dict_setdefault dd.typeIs PySem.F.entry_dict_setdefault (PySem.F.args_dict_setdefault_3 _ _ _) (kt_meets_setdefault (aP X.prog X.w) a (dH ry) hd r) ⟨vs,dd,hz,λw' hw=>?_,λhn h' dd' hs=>?_⟩
 ·cases q:aU kvs k with
  |none =>
   have:=rel.val k
   rw [q] at this
   rw [hw] at this
   exact absurd this (by intro z;cases z)
  |some v' =>
   obtain ⟨w2,hw2,rw2⟩:=bp.some_of (v:=v') (o:=valueAt vs k) (by rw [<- q];exact rel.val k)
   rw [hw2] at hw
   obtain rfl:w2=w':=Option.some.inj hw
   exact h1 v' q _ _ (I.tok _) rw2
 ·have q:aU kvs k=none:=by
   cases q:aU kvs k with
   |none=>rfl
   |some v' =>
    obtain ⟨w2,hw2,_⟩:=bp.some_of (v:=v') (o:=valueAt vs k) (by rw [<- q];exact rel.val k)
    rw [hw2] at hn;cases hn
  refine h2 q _ ?_
  have he:∃ q,h'.get? a=some q:=let ⟨q,_,_,hq,_⟩:=dd';⟨q,hq⟩
  exact g6 I (by rw [e];exact True.intro) hs he (jM hl hd (rel.put k rv) dd')
end L2
namespace T2
open PySem PySem.Spec PyProof.Rows L2
section
variable {K:Fg}{X:Cx}
def ma:GM:=λx ts S Q=>∃ a kts y z k,x=.ref a/\ts=[y,z]/\S a=some (.dK kts)/\bX y=some k/\kts.length<sizeLine/\(∀ t,aR kts k=some t->Q t S)/\(aR kts k=none->Q z (put S a (.dK (di kts k z))))
theorem zx:MtR X "dict.setdefault" (lM K ma):=by
 rintro pins s σ H x xs v us Q I rx rv ⟨S,t,ts,Qt,sr,hx,rs,⟨a,kts,y,z,k,e,e2,ea,ek,hl,q1,q2⟩,b⟩
 subst e e2
 cases hx
 cases rs with
 |cons ry rn =>
  cases rn with
  |cons rz rn2 =>
   cases rn2
   obtain ⟨kvs,hk,p⟩:=iH sr ea
   have:=gz ry ek
   subst this
   obtain ⟨u1,u2,rfl,rr1,rr2⟩:=eI rv
   cases (show v=Value.ref a from rx)
   refine zw I hk rr1 rr2 (by rw [Paired.len p];exact hl) (λv' l w' s' I' rw'=>?_) λl s' I'=>?_
   ·cases e:aR kts k with
    |none =>
     have:=jp (k:=k) p
     rw [e,l] at this
     cases this
    |some t =>
     obtain ⟨u,h1,h2⟩:=gU p e
     rw [l] at h1
     cases h1
     exact ⟨_,H,I',rw',b _ H _ S .refl sr h2 (q1 t e)⟩
   ·have e:aR kts k=none:=by
     cases e:aR kts k with
     |none=>rfl
     |some t =>
      obtain ⟨u,h1,_⟩:=gU p e
      rw [l] at h1;cases h1
    exact ⟨_,_,I',rr2,qG sr ea (tX rz p) b rz (q2 e)⟩
theorem yv {S:Sto}{Q:T->Sto->Prop}{a:Addr}{kts:List (Key×T)}{y z t:T}{k:Key}(ea:S a=some (.dK kts)) (ek:bX y=some k) (hl:kts.length<sizeLine) (e:aR kts k=some t) (h:Q t S):ma (.ref a) [y,z] S Q :=
 ⟨a,kts,y,z,k,rfl,rfl,ea,ek,hl,λt' e'=>by rw [e] at e';cases e';exact h,λe'=>by rw [e] at e';cases e'⟩
theorem yw {S:Sto}{Q:T->Sto->Prop}{a:Addr}{kts:List (Key×T)}{y z:T}{k:Key}(ea:S a=some (.dK kts)) (ek:bX y=some k) (hl:kts.length<sizeLine) (e:aR kts k=none) (h:Q z (put S a (.dK (di kts k z)))):ma (.ref a) [y,z] S Q :=
 ⟨a,kts,y,z,k,rfl,rfl,ea,ek,hl,(λt' e'=>by rw [e] at e';cases e'),λ_=>h⟩
def rX:GM:=λx ts S Q=>∃ a us zs,x=.ref a/\ts=[.lst zs]/\S a=some (.lst us)/\us.length+zs.length<=sizeLine/\Q .non (put S a (.lst (us++zs)))
theorem zy:MtR X "list.extend" (lM K rX):=by
 rintro pins s σ H x vs v us Q I rx rv ⟨S,t,ts,Qt,sr,hx,rs,⟨a,ws,zs,e,e2,ea,hl,q⟩,b⟩
 subst e e2
 cases hx
 cases rs with
 |cons rz rn =>
  cases rn
  cases rz with
  |lst n h r =>
   obtain ⟨ys,hy,ry⟩:=ia sr ea
   exact xX pins s σ H _ _ v us Q I rx rv ⟨_,_,ys,_,rfl,rfl,hy,h,by rw [ry.length,r.length];exact hl,jh sr ea (ry.append r) b .non q⟩
theorem zA {S:Sto}{Q:T->Sto->Prop}{a:Addr}{us zs:List T}(ea:S a=some (.lst us)) (hl:us.length+zs.length<=sizeLine) (h:Q .non (put S a (.lst (us++zs)))):rX (.ref a) [.lst zs] S Q:=⟨a,us,zs,rfl,rfl,ea,hl,h⟩
end
section
variable {K:Fg}{X:Cx}{e:Expr}{wa:WE}
def wG (wa:WE):WT:=λσ S B=>wa σ S λx S1=>∃ ts,aH S1 x=some ts/\B (!ts.isEmpty) S1
theorem yx {H:Hp}{S:Sto}{ts:List T}{vs:List V}(r:Rps K H S ts vs):vs.isEmpty=ts.isEmpty:=by cases r<;>rfl
theorem zB (hK:X.K=K) (h:QE K X e wa) (he:∀ whole,isTrue e X.env whole=(do let v <- whole;standAt e.pos;holding [v] (truthy v)):=by intro _;rfl):QT K X e (wG wa):=PT.of (yP h he) λσ H Q zz100=>by
 obtain ⟨S,σt,Qt,s,c,q,hq⟩:=zz100
 subst hK
 refine ⟨S,σt,_,s,c,q,λv H1 t S1 f1 s1 r1 zz101=>?_⟩
 obtain ⟨ts,ev,q1⟩:=zz101
 obtain ⟨p,vs,rfl,hS,rs⟩:=bF s1 r1 ev
 exact ⟨!vs.isEmpty,.inl ⟨vs,hS,rfl⟩,hq _ H1 S1 f1 s1 (by rw [yx rs];exact q1)⟩
theorem Gk {σ:StT}{S:Sto}{B:Bool->Sto->Prop}(h:wa σ S λx S1=>∃ ts,aH S1 x=some ts/\B (!ts.isEmpty) S1):wG wa σ S B:=h
end
end T2
namespace Xc
open PySem
structure Ent (fr:List Addr) (e:Addr) (oe:Obj) (h h':Heap):Prop where
 it:∃ T o ts,h.objs.size<=T/\h'.get? e=some (oe.mapFields (·.setIfInBounds 1 (.ref T)))/\h'.get? T=some o/\o.data=.fields ts/\ts[3]?=some .none
 keep:∀ b o,h.get? b=some o->b≠e->b∉fr->h'.get? b=some o
 slot:∀ b o,h.get? b=some o->b≠e->∃ sl,h'.get? b=some { o with slots:=sl }
section
variable {M:Model}{A:Around}{E:Value->Shared->Prop}{s:Shared}
theorem qH {base:Heap}{env:Env}{outer:List Env}{L e:Addr}{oe:Obj}{vs:Array Value}{hd:Value}{nx:Bool}{Q:Unit->Shared->Prop}
  (fr:A.frames=some (env::outer)) (ff:s.heap.FunFrames base (env::outer)) (ef:env.frame=some L) (ge:s.heap.get? e=some oe) (de:oe.data=.fields vs) (sz:1<vs.size)
  (k:∀ h',Ent ((env::outer).filterMap (·.frame)) e oe s.heap h'->Q () { s with heap:=h' }) :
  wpAny M A (do let a <- frameOf env;let pl <- entryPlaceOf L nx;let b <- EntryCells.newEntry hd a .none (rawInt L) .none pl;setField (.ref e) 1 b) (λ_ s'=>wpAny M A (setFlight (.ref e) none) Q E s') E s:=by
 have nfr:e∉(env::outer).filterMap (·.frame):=λz=>by
  obtain ⟨_,o,q,nf⟩:=ff.mem z
  rw [ge] at q;cases q;exact nf vs de
 refine wpAny_bind (wpAny_frameOf_fun fr ff ef λh1 so=>wpAny_bind (wpAny_entryPlaceOf λpl ip=>?_))
 unfold EntryCells.newEntry newFields
 refine wpAny_bind (wpAny_newObj_type ?_ (ip.sizeOk5 _ _ _ _ _))
 have ge1:h1.get? e=some oe:=(so.2.1 e nfr).trans ge
 generalize hob:({ cls:=.type "traceback",dict:=none,data:=.fields ([hd,.ref L,.none,rawInt L,.none]++(if pl.isEmpty then List.replicate 6 Value.none else pl)).toArray }:Obj)=ot
 have dt:ot.data=.fields ([hd,.ref L,.none,rawInt L,.none]++(if pl.isEmpty then List.replicate 6 Value.none else pl)).toArray:=by rw [<- hob]
 have ot0:ot.isFreed=false:=Obj.isFreed_of_fields dt
 have ge2:(h1.push ot).get? e=some oe:=Heap.get?_push_of_some ot ge1
 have neT:h1.objs.size≠e:=Nat.ne_of_gt (Heap.lt_size ge1)
 have de3:=Obj.data_mapFields de (·.setIfInBounds 1 (Value.ref h1.objs.size))
 refine wpAny_setField ge2 de sz ?_
 have ge3:=Heap.get?_update_self (Obj.mapFields (·.setIfInBounds 1 (Value.ref h1.objs.size))) ge2 (Obj.isFreed_of_fields de3)
 have gT3:((h1.push ot).update e (Obj.mapFields (·.setIfInBounds 1 (Value.ref h1.objs.size)))).get? h1.objs.size=some ot:=(Heap.get?_update_other _ _ (Ne.symm neT)).trans (Heap.get?_push_size h1 ot0)
 unfold setFlight
 refine wpAny_bind (wpAny_field ge3 de3 (x:=.ref h1.objs.size) (by simp [sz]) ?_)
 rw [if_pos (show (Value.ref h1.objs.size != Value.none)=true from by simp)]
 have sz3:3<([hd,Value.ref L,.none,rawInt L,.none]++(if pl.isEmpty then List.replicate 6 Value.none else pl)).toArray.size:=by simp
 refine wpAny_setField gT3 dt sz3 (k _ ?_)
 have kp:∀ b o,b≠e->h1.get? b=some o->(((h1.push ot).update e (Obj.mapFields (·.setIfInBounds 1 (Value.ref h1.objs.size)))).update h1.objs.size (Obj.mapFields (·.setIfInBounds 3 ((none:Option Addr).elim Value.none λf=>rawInt f)))).get? b=some o:=λb o nb hb=>by
  rw [Heap.get?_update_other _ _ (Nat.ne_of_gt (Heap.lt_size hb)),Heap.get?_update_other _ _ (Ne.symm nb)]
  exact Heap.get?_push_of_some ot hb
 refine ⟨⟨h1.objs.size,_,_,Nat.le_of_eq so.1.symm,?_,Heap.get?_update_self _ gT3 (Obj.isFreed_of_fields (Obj.data_mapFields dt _)),Obj.data_mapFields dt _,?_⟩,λb o hb nb nf=>kp b o nb ((so.2.1 b nf).trans hb),λb o hb nb=>?_⟩
 ·rw [Heap.get?_update_other _ _ neT];exact ge3
 ·rw [Array.getElem?_setIfInBounds]
  rw [if_pos rfl,if_pos sz3]
  rfl
 ·obtain ⟨sl,q⟩:=so.2.2 b o hb
  exact ⟨sl,kp b _ nb q⟩
def Exc (h:Heap) (lo:Nat) (N:Addr->Prop) (e:Addr) (cls:Value) (dct:Option Addr):Prop :=
 ∃ oe vs hd,h.get? e=some oe/\oe.cls=cls/\oe.dict=dct/\oe.data=.fields vs/\(vs[1]?=some hd/\vs[2]?=some .none)/\lo<=e/\N e /\
  (hd=.none\/∃ T oT ts,hd=.ref T/\lo<=T/\N T/\T≠e/\h.get? T=some oT/\oT.data=.fields ts/\ts[3]?=some .none)
structure Past (fr ch:List Addr) (h h':Heap):Prop where
 keep:∀ b o,h.get? b=some o->b∉ch->b∉fr->h'.get? b=some o
 slot:∀ b o,h.get? b=some o->b∈fr->∃ sl,h'.get? b=some { o with slots:=sl }
 there:∀ b o,h.get? b=some o->∃ o',h'.get? b=some o'
theorem zC (o:Obj) (f:Array Value->Array Value):(o.mapFields f).dict=o.dict:=by
 obtain ⟨c,d,dt,sl⟩:=o
 cases dt<;>rfl
theorem Exc.mono {h:Heap}{lo lo':Nat}{N:Addr->Prop}{e:Addr}{cls:Value}{dct:Option Addr}(x:Exc h lo N e cls dct) (l:lo'<=lo):Exc h lo' N e cls dct:=by
 obtain ⟨oe,vs,hd,ge,c,d,de,e1,le,ne,hh⟩:=x
 refine ⟨oe,vs,hd,ge,c,d,de,e1,Nat.le_trans l le,ne,hh.imp id λzz102=>by obtain ⟨T,oT,ts,r,lT,q⟩:=zz102;exact ⟨T,oT,ts,r,Nat.le_trans l lT,q⟩⟩
theorem Exc.there {h:Heap}{lo:Nat}{N:Addr->Prop}{e:Addr}{cls:Value}{dct:Option Addr}(x:Exc h lo N e cls dct):∃ oe,h.get? e=some oe/\oe.cls=cls/\oe.dict=dct:=by
 obtain ⟨oe,vs,hd,ge,c,d,_⟩:=x
 exact ⟨oe,ge,c,d⟩
theorem note_it {base:Heap}{env:Env}{outer:List Env}{L e:Addr}{lo:Nat}{N:Addr->Prop}{cls:Value}{dct:Option Addr}{Q:Unit->Shared->Prop}
  (fr:A.frames=some (env::outer)) (ff:s.heap.FunFrames base (env::outer)) (ef:env.frame=some L) (hN:∀ b,s.heap.objs.size<=b->N b) (hlo:lo<=s.heap.objs.size) (x:Exc s.heap lo N e cls dct)
  (k:∀ h' ch,(∀ b∈ch,lo<=b/\N b/\b∉(env::outer).filterMap (·.frame)/\∃ o vs,s.heap.get? b=some o/\o.data=.fields vs)->Past ((env::outer).filterMap (·.frame)) ch s.heap h'->Exc h' lo N e cls dct->Q () { s with heap:=h' }) :
  wpAny M A (noteFrame (.ref e) env) (λ_ s'=>wpAny M A (setFlight (.ref e) none) Q E s') E s:=by
 obtain ⟨oe,vs,hd,ge,rfl,rfl,de,e1,le,ne,hh⟩:=x
 have sz:1<vs.size:=(Array.getElem?_eq_some_iff.mp e1.1).1
 have nofld:∀ b∈(env::outer).filterMap (·.frame),∀ o,s.heap.get? b=some o->∀ vs,o.data≠.fields vs:=λb hb o q=>by
  obtain ⟨_,o',q',nf⟩:=ff.mem hb
  rw [q] at q';cases q';exact nf
 have nfe:e∉(env::outer).filterMap (·.frame):=λz=>nofld e z _ ge vs de
 have fin:∀ (g h':Heap),g.objs.size=s.heap.objs.size->Ent ((env::outer).filterMap (·.frame)) e oe g h'->Exc h' lo N e oe.cls oe.dict:=by
  rintro g h' sg ⟨⟨T,o,ts,hT,gE,gT,dT,e3⟩,_,_⟩
  have hT':s.heap.objs.size<=T:=by omega
  refine ⟨_,_,.ref T,gE,Obj.cls_mapFields _ _,zC _ _,Obj.data_mapFields de _,⟨by simp [sz],by rw [Array.getElem?_setIfInBounds,if_neg (by decide)];exact e1.2⟩,le,ne,.inr ⟨T,o,ts,rfl,Nat.le_trans hlo hT',hN T hT',λz=>?_,gT,dT,e3⟩⟩
  have q:e<s.heap.objs.size:=Heap.lt_size ge
  rw [z] at hT'
  exact absurd (Nat.lt_of_lt_of_le q hT') (Nat.lt_irrefl _)
 unfold noteFrame
 simp only [ef]
 refine wpAny_bind (wpAny_field ge de e1.1 ?_)
 rcases hh with rfl|⟨T,oT,ts,rfl,lT,nT,neT,gT,dT,e3⟩
 ·rw [if_neg (by decide)]
  refine qH fr ff ef ge de sz λh' en=>k h' [e] (λb hb=>by rw [List.mem_singleton.mp hb];exact ⟨le,ne,nfe,_,_,ge,de⟩) ⟨λb o hb hk nf=>en.keep b o hb (λz=>hk (List.mem_singleton.mpr z)) nf,λb o hb hf=>en.slot b o hb λz=>nfe (z ▸ hf),λb o hb=>?_⟩ (fin s.heap h' rfl en)
  by_cases z:b=e
  ·subst z
   obtain ⟨T,_,_,_,q,_⟩:=en.it
   exact ⟨_,q⟩
  ·obtain ⟨sl,q⟩:=en.slot b o hb z
   exact ⟨_,q⟩
 ·rw [if_pos (show (Value.ref T != Value.none)=true from by simp)]
  refine wpAny_bind (wpAny_field gT dT e3 ?_)
  rw [if_neg (show ¬ ((Value.none==rawInt L)=true) from by simp [rawInt])]
  refine wpAny_bind (wpAny_setField gT dT (Array.getElem?_eq_some_iff.mp e3).1 ?_)
  generalize hg:s.heap.update T (Obj.mapFields (·.setIfInBounds 3 Value.none))=g
  have ot:∀ b,b≠T->g.get? b=s.heap.get? b:=λb nb=>by rw [<- hg];exact Heap.get?_update_other _ _ (Ne.symm nb)
  have sg:g.objs.size=s.heap.objs.size:=by rw [<- hg];exact Heap.size_after_update ..
  have nfT:T∉(env::outer).filterMap (·.frame):=λz=>nofld T z _ gT ts dT
  have ff':g.FunFrames base (env::outer):=ff.of_keeps λb o hb nf=>⟨o,(ot b λz=>by subst z;rw [gT] at hb;cases hb;exact nf ts dT).trans hb,rfl⟩
  refine qH (s:={ s with heap:=g }) fr ff' ef ((ot e (Ne.symm neT)).trans ge) de sz λh' en=>k h' [e,T] (λb hb=>?_) ⟨λb o hb hk nf=>en.keep b o ((ot b λz=>hk (by rw [z];simp)).trans hb) (λz=>hk (by rw [z];simp)) nf,λb o hb hf=>en.slot b o ((ot b λz=>nfT (z ▸ hf)).trans hb) λz=>nfe (z ▸ hf),λb o hb=>?_⟩ (fin g h' sg en)
  ·rcases List.mem_cons.mp hb with z|z
   ·rw [z];exact ⟨le,ne,nfe,_,_,ge,de⟩
   ·rw [List.mem_singleton.mp z];exact ⟨lT,nT,nfT,_,_,gT,dT⟩
  ·by_cases z:b=e
   ·subst z
    obtain ⟨T,_,_,_,q,_⟩:=en.it
    exact ⟨_,q⟩
   ·by_cases z2:b=T
    ·subst z2
     have gT':g.get? b=some (oT.mapFields (·.setIfInBounds 3 Value.none)):=by rw [<- hg];exact Heap.get?_update_self _ gT (Obj.isFreed_of_fields (Obj.data_mapFields dT _))
     obtain ⟨sl,q⟩:=en.slot b _ gT' z
     exact ⟨_,q⟩
    ·obtain ⟨sl,q⟩:=en.slot b o ((ot b z2).trans hb) z
     exact ⟨_,q⟩
end
end Xc
namespace L2
open PySem PySem.Spec PyProof.Rows
def CX1 (P:Program) (w:World):CXT:=λouter H s E e s'=>∃ a C dct H',e=.ref a/\s'.os=s.os/\AllBare s'.gens/\Un (frs outer) [] H H' s.heap s'.heap/\HOk P w H' s'.heap /\
 Xc.Exc s'.heap s.heap.objs.size (λb=>H' b=none) a (.ref C) dct/\E (.ref C) dct H'
abbrev XS:=Addr->Option Addr->St->Hp->Prop
structure Low (X:Cx) (pins:List (Addr×Obj)) (lo:Nat):Prop where
 s0:X.s₀.heap.objs.size<=lo
 loc:X.env.locals<lo
 cell:∀ x c,X.env.cells.lookup x=some c->c<lo
 pin:∀ p∈X.pn++pins,p.1<lo
def XP (X:Cx) (pins:List (Addr×Obj)) (R:XS) (e:Value) (s':Shared):Prop:=∃ a C dct σ' H' lo,e=.ref a/\Inv X pins σ' H' s'/\Low X pins lo/\Xc.Exc s'.heap lo (λb=>H' b=none) a (.ref C) dct/\R C dct σ' H'
abbrev TR:=St->Hp->XS->Prop
def PR (X:Cx) (st:Stmt) (t:TR):Prop:=∀ (pins:List (Addr×Obj)) (s:Shared) (σ:St) (H:Hp) (R:XS),Inv X pins σ H s->t σ H R->wpAny (model X.prog X.w) X.A (exec st X.env) (λ_ _=>False) (XP X pins R) s
def PRs (X:Cx) (st:List Stmt) (t:TR):Prop:=∀ (pins:List (Addr×Obj)) (s:Shared) (σ:St) (H:Hp) (R:XS),Inv X pins σ H s->t σ H R->wpAny (model X.prog X.w) X.A (execs st X.env) (λ_ _=>False) (XP X pins R) s
def PRE (X:Cx) (e:Expr) (t:TR):Prop:=∀ (pins:List (Addr×Obj)) (s:Shared) (σ:St) (H:Hp) (R:XS),Inv X pins σ H s->t σ H R->wpAny (model X.prog X.w) X.A (eval e X.env) (λ_ _=>False) (XP X pins R) s
def PRA (X:Cx) (es:List Expr) (t:TR):Prop:=∀ (pos:Pos) (pins:List (Addr×Obj)) (s:Shared) (σ:St) (H:Hp) (R:XS),Inv X pins σ H s->t σ H R->wpAny (model X.prog X.w) X.A (spliced (backTo pos (starEach es X.env))) (λ_ _=>False) (XP X pins R) s
section
variable {X:Cx}{pins:List (Addr×Obj)}{σ:St}{H:Hp}{s:Shared}
theorem Inv.low (I:Inv X pins σ H s):Low X pins s.heap.objs.size :=
 ⟨I.sz,I.lt,λx c e=>by obtain ⟨v,o,ho,_⟩:=I.cell x c e;exact Heap.lt_size ho,λp hp=>Heap.lt_size (I.pin p hp).1⟩
theorem ii {α:Type}{t:Sem α}{Q Q':α->Shared->Prop}{E:Value->Shared->Prop}(h:wpAny (model X.prog X.w) X.A t Q (λ_ _=>False) s) (q:∀ a s,Q a s->Q' a s):wpAny (model X.prog X.w) X.A t Q' E s:=wpAny_mono h q λ_ _ z=>z.elim
variable {st:Stmt}{rest:List Stmt}{t u:TS}{r r2:TR}{e:Expr}{es:List Expr}{te:TE}{ta:TA}{pos:Pos}
theorem zD (h:PR X st r):PRs X (st::rest) r:=λpins s σ H R I q=>wpAny_execs_cons (wpAny_mono (h pins s σ H R I q) (λ_ _ z=>z.elim) λ_ _ z=>z)
def Gm (t:TS) (r:TR):TR:=λσ H R=>t { nx:=λσ' H'=>r σ' H' R,rt:=λ_ _=>False } σ H
theorem zE (h1:PS X.nox st t) (h2:PRs X rest r):PRs X (st::rest) (Gm t r):=by
 intro pins s σ H R I q
 refine wpAny_execs_cons (ii (h1 pins s σ H _ (I.wish _) q) λf s1 q=>?_)
 cases f with
 |next=>obtain ⟨σ',H',I',q⟩:=q;exact h2 pins s1 σ' H' R I'.unwish q
 |ret v=>obtain ⟨_,_,_,_,_,q⟩:=q;exact q.elim
 |brk=>obtain ⟨_,_,_,q⟩:=q;exact q.elim
 |cont=>obtain ⟨_,_,_,q⟩:=q;exact q.elim
def rIf (c:TT) (r r2:TR):TR:=λσ H R=>c σ H λb H1=>if b=true then r σ H1 R else r2 σ H1 R
theorem Gn {c:Expr}{a b:List Stmt}{tc:TT}(hc:PT X.nox c tc) (ha:PRs X a r) (hb:PRs X b r2):PR X (.If c a b pos) (rIf tc r r2):=by
 intro pins s σ H R I h
 refine wpAny_If (ii (hc pins s σ H _ (I.wish _) h) λd s1 zz103=>?_)
 obtain ⟨H1,I1,q1⟩:=zz103
 cases d with
 |true=>exact ha pins s1 σ H1 R I1.unwish q1
 |false=>exact hb pins s1 σ H1 R I1.unwish q1
theorem Bn (h:PRE X e r) (hs:swapsWith e none pos.line X.env=pure false:=by rfl):PR X (.Expr e pos) r:=λpins s σ H R I q=>wpAny_Expr_any (wpAny_mono (h pins s σ H R I q) (λ_ _ z=>z.elim) λ_ _ z=>z) I.quiet hs
theorem DR (h:PRE X e r):PR X (.Return (some e) pos) r:=λpins s σ H R I q=>wpAny_Return_some (wpAny_mono (h pins s σ H R I q) (λ_ _ z=>z.elim) λ_ _ z=>z)
theorem zF (h:PRE X e r) (hs:starEach (e::es) X.env=(false,eval e X.env)::starEach es X.env:=by rfl):PRA X (e::es) r:=by
 intro pos pins s σ H R I q
 rw [hs]
 exact Calls.spliced_cons (wpAny_mono (h pins s σ H R I q) (λ_ _ z=>z.elim) λ_ _ z=>z)
end
section
variable {X:Cx}{k:Nat}{f C:Addr}{fd:FuncData}{ps:List Str}{sp:Sp}{dvs:List V}{ds:List Value}{x m:Str}{p pos apos:Pos}{e o:Expr}{es:List Expr}{ta:TE}{t:TA}{r:TR}{G:Addr->Prop}
def toE (R:XS) (σ:St):XK:=λc dct H'=>∃ C,c=.ref C/\R C dct σ H'
theorem Bp {pins:List (Addr×Obj)}{σ:St}{H:Hp}{s:Shared}{R:XS}{us:List Value}{vs:List V}(F:FnOk X.prog X.w X.K X.mg X.base (CX1 X.prog X.w) k f fd ps sp) (hr:Room k X.A) (hb:ay X.K fd ps ds) (hd:al dvs ds)
  (I:Inv X pins σ H s) (r:al vs us) (h:sp (vs++dvs) H (λ_ _=>False) (toE R σ)):wpAny (model X.prog X.w) X.A (call (.ref f) us) (λ_ _=>False) (XP X pins R) s:=by
 have r2:al (vs++dvs) (us++ds):=r.append hd
 have hl:(us++ds).length=ps.length:=by rw [<- r2.length];exact F.len _ _ _ _ h
 refine wpAny_call (codeAny_mono (F.run X.A X.stack s H ⟨us,[]⟩ (us++ds) (vs++dvs) _ _ hr I.env0 (hb s us I.kIn hl) r2 h) λq s' hq=>?_)
 cases q with
 |error z =>
  obtain ⟨a,C,dct,H',rfl,os,bare,un,hok,x,C',ec,q⟩:=hq
  cases ec
  exact ⟨a,C,dct,σ,H',_,rfl,I.call' (ch:=[]) os un hok bare (λ_ z=>nomatch z),I.low,x,q⟩
 |ok fl =>
  cases fl with
  |ret u=>obtain ⟨_,_,_,_,_,_,_,q⟩:=hq;exact q.elim
  |next=>exact False.elim hq
  |brk=>exact False.elim hq
  |cont=>exact False.elim hq
theorem yy {g:Value}(hg:Gl X x) (hm:X.mg x=some (.ref f)) (hk:PySem.W.keepIn X.K (.ref f)=true) (ha:PRA X (e::es) r) (hdb:(x==("__debug__":Str))=false:=by decide)
  (he:starEach (e::es) X.env=(false,eval e X.env)::starEach es X.env:=by rfl) (hpl:(backTo pos (starEach es X.env)).any (·.1)=false:=by rfl):PRE X (.Call (.Name x p) (e::es) [] pos) r:=by
 intro pins s σ H R I h
 refine wpAny_Call_Name_kw (eg I hg hm ?_ hdb)
 exact PySem.W.callWith_K (h₀:=X.base) I.ok.mod.kin hk (wpAny_mono (ha pos pins s σ H R I h) (λ_ _ z=>z.elim) λ_ _ z=>z) he hpl
def vy (G:Addr->Prop) (m:Str) (sp:Sp) (dvs:List V) (ta:TE) (t:TA):TR:=λσ H R=>ta σ H λx H1=>∃ a C dx fs,x=.ref a/\H1 a=some (.ins C dx fs)/\G C/\fs.lookup m=none/\t σ H1 λvs H2=>sp (x::(vs++dvs)) H2 (λ_ _=>False) (toE R σ)
theorem qI {pl:Sem Bool}(he:PE X.nox o ta) (hG:∀ C,G C->Cls X.K C/\Meth X.K C m f) (F:FnOk X.prog X.w X.K X.mg X.base (CX1 X.prog X.w) k f fd ps sp) (hr:Room k X.A) (hb:ay X.K fd ps ds) (hd:al dvs ds) (ha:PA X.nox (e::es) t)
  (hst:starEach (e::es) X.env=(false,eval e X.env)::starEach es X.env:=by rfl) (hpl:(backTo pos (starEach es X.env)).any (·.1)=false:=by rfl)
  (ht:eval (.Call (.Attribute o m apos) (e::es) [] pos) X.env=(do
   let ov <- eval o X.env
   standAt apos.atName
   let (f,first) <- holding [ov] (getMethod ov m pl)
   callWith pos f first (backTo pos (starEach (e::es) X.env)) (backToKw pos (keywordEach [] X.env))):=by rfl) :
  PRE X (.Call (.Attribute o m apos) (e::es) [] pos) (vy G m sp dvs ta t):=by
 intro pins s σ H R I h
 refine PySem.W.methodCall_KW (pl:=pl) (ii (he pins s σ H _ (I.wish _) h) λu s1 ⟨x,H1,I1,rx,a,C,dx,fs,ex,ea,g,l,q⟩=>?_) ht
 subst ex
 obtain rfl:u=Value.ref a:=rx
 obtain ⟨c,hm⟩:=hG C g
 refine kR I1.unwish ea c hm l ?_
 refine PySem.W.callWith_K (first:=[.ref a]) (h₀:=X.base) I.ok.mod.kin hm.kp (ii (ha pos pins s1 σ H1 _ I1 q) λus s2 ⟨vs,H2,I2,r,q2⟩=>⟨I2.unwish.kIn,?_⟩) hst hpl
 exact Bp (us:=.ref a::us) (vs:=.ref a::vs) F hr hb hd I2.unwish (.cons rfl r) q2
end
section
variable {X:Cx}{pins:List (Addr×Obj)}{σ:St}{H:Hp}{s:Shared}
theorem Inv.past {h':Heap}{ch:List Addr}(I:Inv X pins σ H s){lo:Nat}(lw:Low X pins lo) (hch:∀ b∈ch,lo<=b/\H b=none/\b∉frs X.stack/\∃ o vs,s.heap.get? b=some o/\o.data=.fields vs) (p:Xc.Past (frs X.stack) ch s.heap h') :
  Inv X pins σ H { s with heap:=h' }:=by
 have nfr:∀ b u,H b=some u->b∉frs X.stack:=λb u e z=>by rw [I.stkFree b z] at e;cases e
 have nch:∀ b u,H b=some u->b∉ch:=λb u e z=>by rw [(hch b z).2.1] at e;cases e
 have kp:∀ b u o,H b=some u->s.heap.get? b=some o->h'.get? b=some o:=λb u o e g=>p.keep b o g (nch b u e) (nfr b u e)
 refine I.call (g':=s.gens) (d':=s.drawn) (t':=s.toks) (ch:=ch) ⟨λb o e _ nf nc=>p.keep b o e nc nf,λb o e _ hf _=>p.slot b o e hf,λb o _ n _=>n,λb o e _=>p.there b o e,λ_ _ e=>e,λ_ _ _ e=>e,λb ps e=>⟨#[],by rw [Array.append_empty];exact e⟩⟩ ?_ I.bare λb hb=>?_
 ·intro b u e
  refine (I.hok b u e).stay (λc v hc g=>?_) (λ_ z=>z) λ_ _ z=>z
  rcases hc with rfl|hc
  ·exact kp c u v e g
  ·exact kp c _ v hc g
 ·have hl:=(hch b hb).1
  exact ⟨.inr (Nat.le_trans lw.s0 hl),λz=>absurd (Nat.lt_of_lt_of_le lw.loc hl) (by rw [z];exact Nat.lt_irrefl _),λx c e z=>absurd (Nat.lt_of_lt_of_le (lw.cell x c e) hl) (by rw [z];exact Nat.lt_irrefl _),λq hq z=>absurd (Nat.lt_of_lt_of_le (lw.pin q hq) hl) (by rw [z];exact Nat.lt_irrefl _)⟩
theorem rY {Q:Unit->Shared->Prop}{E:Value->Shared->Prop}{a C:Addr}{dct:Option Addr}{lo:Nat}(I:Inv X pins σ H s) (st:X.stack=X.env::X.outer/\X.env.frame=some X.env.locals) (lw:Low X pins lo) (hlo:lo<=s.heap.objs.size) (x:Xc.Exc s.heap lo (λb=>H b=none) a (.ref C) dct)
  (k:∀ s',Inv X pins σ H s'->s'.os=s.os->s'.gens=s.gens->Xc.Exc s'.heap lo (λb=>H b=none) a (.ref C) dct->Q () s'):wpAny (model X.prog X.w) X.A (noteFrame (.ref a) X.env) (λ_ s'=>wpAny (model X.prog X.w) X.A (setFlight (.ref a) none) Q E s') E s:=by
 have fs:s.heap.FunFrames X.base (X.env::X.outer):=by rw [<- st.1];exact I.stack
 refine Xc.note_it (base:=X.base) (L:=X.env.locals) (by rw [I.ok.frames,st.1]) fs st.2 (λb hb=>I.hok.fresh hb) hlo x λh' ch hch p x'=>?_
 have e:(X.env::X.outer).filterMap (·.frame)=frs X.stack:=by rw [st.1];rfl
 rw [e] at hch p
 exact k _ (I.past lw hch p) rfl rfl x'
end
section
variable {P:Program}{w:World}{K:PySem.W.Frag}{mg:Str->Option Value}{base:Heap}
theorem zG {k:Nat}{f:Addr}{name qual:Str}{params:Arguments}{body:List Stmt}{scope:Scope}{dV kV doc pm cdv ct oc:Value}{an od:Option Addr}{osl:Array (Option Value)}{N ps:List Str}{sp:Sp}
  (lk:K.lookup f=some ⟨oc,od,.func (PySem.W.fnOf name qual params body scope dV kV doc pm an cdv ct),osl⟩) (hcd:PySem.W.codeIn K cdv qual=true) (S:FnScope N ps scope) (len:∀ vs H Q E,sp vs H Q E->vs.length=ps.length)
  (hbody:∀ (A:Around) (outer:List Env) (s:Shared) (H:Hp) (vs:List V) (E:XK) (Q:VK),Room k (A.deeper (envOfC qual scope s.heap.objs.size f cdv))->sp vs H Q E ->
   ∃ r,PRs (cq CX0 P w K mg base N qual scope f cdv A outer s H E) body r/\r (bO N vs) H λC dct _ H'=>E (.ref C) dct H') :
  FnOk P w K mg base (CX1 P w) (k+1) f (PySem.W.fnOf name qual params body scope dV kV doc pm an cdv ct) ps sp:=by
 refine m5 lk hcd S len λA outer s H vs Q E hr hsp=>?_
 obtain ⟨r,hr1,hr2⟩:=hbody A outer s H vs E Q hr hsp
 refine ⟨λ_ σ H'=>σ=bO N vs/\H'=H,?_,rfl,rfl⟩
 rintro pins s1 σ H1 D I ⟨rfl,rfl⟩
 have I0:Inv (cq CX0 P w K mg base N qual scope f cdv A outer s H1 E) pins (bO N vs) H1 s1:=⟨⟨I.ok.mod,I.ok.kind,I.ok.glob,I.ok.blt,I.ok.above,I.ok.inj,I.ok.has,I.ok.cab,I.ok.hd,I.ok.frames,I.ok.stk,I.ok.exf,I.ok.bs,I.ok.bsz,I.ok.noex,I.ok.exfs,I.ok.funs,I.ok.frf⟩,I.os,I.bare,I.base,I.loc,I.cell,I.free,I.freeC,I.pin,I.hok,I.len⟩
 refine wpAny_mono (hr1 pins s1 _ _ _ I0 hr2) (λ_ _ z=>z.elim) λe s2 zz104=>?_
 obtain ⟨a,C,dct,σ',H',lo,ee,J,lw,x,q⟩:=zz104
 subst ee
 show wpAny (model P w) (A.deeper _) (leaving _ (.ref a)) _ _ s2
 unfold leaving
 have hlo:lo<=s2.heap.objs.size:=Nat.le_of_lt (Nat.lt_of_le_of_lt (by obtain ⟨_,_,_,_,_,_,_,_,l,_⟩:=x;exact l) (by obtain ⟨oe,_,_,ge,_⟩:=x;exact Heap.lt_size ge))
 refine wpAny_bind (rY J ⟨rfl,rfl⟩ lw hlo x λs3 J3 _ _ x3=>?_)
 exact ⟨a,C,dct,H',rfl,J3.os,J3.bare,J3.base,J3.hok,x3.mono lw.s0,q⟩
end
end L2
namespace Xc
open PySem
section
variable {M:Model}{A:Around}{E:Value->Shared->Prop}{s:Shared}
theorem flight_it {e:Addr}{lo:Nat}{N:Addr->Prop}{cls:Value}{dct:Option Addr}{Q:Unit->Shared->Prop}(x:Exc s.heap lo N e cls dct)
  (k:∀ h' ch,(∀ b∈ch,lo<=b/\N b/\∃ o vs,s.heap.get? b=some o/\o.data=.fields vs)->Past [] ch s.heap h'->Exc h' lo N e cls dct->Q () { s with heap:=h' }):wpAny M A (setFlight (.ref e) none) Q E s:=by
 have x0:=x
 obtain ⟨oe,vs,hd,ge,hc,hdc,de,e1,le,ne,hh⟩:=x
 unfold setFlight
 refine wpAny_bind (wpAny_field ge de e1.1 ?_)
 rcases hh with rfl|⟨T,oT,ts,rfl,lT,nT,neT,gT,dT,e3⟩
 ·rw [if_neg (by decide)]
  exact wpAny_pure (k s.heap [] (λ_ z=>(nomatch z)) ⟨λb o hb _ _=>hb,λb o hb z=>(nomatch z),λb o hb=>⟨o,hb⟩⟩ x0)
 ·rw [if_pos (show (Value.ref T != Value.none)=true from by simp)]
  have s3:=(Array.getElem?_eq_some_iff.mp e3).1
  refine wpAny_setField gT dT s3 (k _ [T] (λb hb=>by rw [List.mem_singleton.mp hb];exact ⟨lT,nT,_,_,gT,dT⟩) ⟨λb o hb nb _=>?_,λb o hb z=>(nomatch z),λb o hb=>?_⟩ ?_)
  ·rw [Heap.get?_update_other _ _ (λz=>nb (List.mem_singleton.mpr z.symm))];exact hb
  ·by_cases z:b=T
   ·subst z
    exact ⟨_,Heap.get?_update_self _ gT (Obj.isFreed_of_fields (Obj.data_mapFields dT _))⟩
   ·exact ⟨o,by rw [Heap.get?_update_other _ _ (Ne.symm z)];exact hb⟩
  ·refine ⟨oe,vs,.ref T,(Heap.get?_update_other _ _ neT).trans ge,hc,hdc,de,e1,le,ne,.inr ⟨T,_,_,rfl,lT,nT,neT,Heap.get?_update_self _ gT (Obj.isFreed_of_fields (Obj.data_mapFields dT _)),Obj.data_mapFields dT _,?_⟩⟩
   rw [Array.getElem?_setIfInBounds,if_pos rfl,if_pos s3]
   rfl
end
end Xc
namespace L2
open PySem PySem.Spec PyProof.Rows
abbrev Cx.inx (X:Cx) (a:Addr):Cx:={ X with A:=X.A.mark (some (.ref a)),calm:=false,xe:=λ_ _=>False }
theorem Cx.Ok.inx {X:Cx}(ok:X.Ok) (a:Addr):(X.inx a).Ok :=
 ⟨ok.mod,ok.kind,ok.glob,ok.blt,ok.above,ok.inj,ok.has,ok.cab,λz=>(nomatch z),ok.frames,ok.stk,ok.exf,ok.bs,ok.bsz,ok.noex,ok.exfs,ok.funs,ok.frf⟩
section
variable {X:Cx}{pins:List (Addr×Obj)}{σ:St}{H:Hp}{s:Shared}{a:Addr}
theorem Inv.inx (I:Inv X pins σ H s) (a:Addr):Inv (X.inx a) pins σ H s:=⟨I.ok.inx a,I.os,I.bare,I.base,I.loc,I.cell,I.free,I.freeC,I.pin,I.hok,I.len⟩
theorem Inv.outx (I:Inv (X.inx a) pins σ H s) (ok:X.Ok):Inv X pins σ H s:=⟨ok,I.os,I.bare,I.base,I.loc,I.cell,I.free,I.freeC,I.pin,I.hok,I.len⟩
theorem SP.outx {D:Ends}{f:Flow}{s':Shared}(ok:X.Ok) (h:SP (X.inx a) pins D f s'):SP X pins D f s':=by
 cases f with
 |next=>obtain ⟨σ',H',I,q⟩:=h;exact ⟨σ',H',I.outx ok,q⟩
 |brk=>obtain ⟨σ',H',I,q⟩:=h;exact ⟨σ',H',I.outx ok,q⟩
 |cont=>obtain ⟨σ',H',I,q⟩:=h;exact ⟨σ',H',I.outx ok,q⟩
 |ret u=>obtain ⟨v,σ',H',I,r,q⟩:=h;exact ⟨v,σ',H',I.outx ok,r,q⟩
theorem zH {fr ch:List Addr}{h h':Heap}(p:Xc.Past [] ch h h') (hf:∀ b∈fr,b∉ch):Xc.Past fr ch h h' :=
 ⟨λb o hb nc _=>p.keep b o hb nc (by simp),λb o hb hfr=>⟨o.slots,p.keep b o hb (hf b hfr) (by simp)⟩,p.there⟩
theorem yz {A:Around}{Q:Unit->Shared->Prop}{E:Value->Shared->Prop}{C:Addr}{dct:Option Addr}{lo:Nat}(I:Inv X pins σ H s) (lw:Low X pins lo) (x:Xc.Exc s.heap lo (λb=>H b=none) a (.ref C) dct)
  (k:∀ s',Inv X pins σ H s'->Xc.Exc s'.heap lo (λb=>H b=none) a (.ref C) dct->Q () s'):wpAny (model X.prog X.w) A (setFlight (.ref a) none) Q E s:=by
 refine Xc.flight_it x λh' ch hch p x'=>?_
 have hf:∀ b∈frs X.stack,b∉ch:=λb hb hc=>by
  obtain ⟨_,o',g',nf⟩:=I.stack.mem hb
  obtain ⟨_,_,o,vs,g,d⟩:=hch b hc
  rw [g] at g';cases g'
  exact nf vs d
 exact k _ (I.past lw (λb hb=>⟨(hch b hb).1,(hch b hb).2.1,λz=>hf b z hb,(hch b hb).2.2⟩) (zH p hf)) x'
abbrev TH:=Addr->TS
def PH (X:Cx) (hs:List ExceptHandler) (t:TH):Prop:=∀ (pins:List (Addr×Obj)) (s:Shared) (σ:St) (H:Hp) (a C:Addr) (dct:Option Addr) (lo:Nat) (D:Ends),Inv X pins σ H s->Low X pins lo->Xc.Exc s.heap lo (λb=>H b=none) a (.ref C) dct->t C D σ H ->
 wpAny (model X.prog X.w) X.A (handleBy (.ref a) X.env hs) (SP X pins D) X.xe s
def Go:TH:=λ_ _ _ _=>False
theorem DS:PH X [] Go:=λ_ _ _ _ _ _ _ _ _ _ _ _ h=>h.elim
end
end L2
set_option maxRecDepth 100000
namespace PySem
section
variable {prog:Program}{w:World}{A:Around}{E:Value->Shared->Prop}{h:Heap}{g:Array GenState}{d:Drawn}{t:Nat}{os:OsState}
variable {nm q:Str}{C N:Addr}{bs bm bmB:List Value}{hdct:Bool}{sn:List Str}{sub:List Value}{ab:Bool}{col:Option Bool}{dd:Option Addr}{k0 k1 k2 k3 k5:Option Value}{B newId initId:String}
theorem wY (F:ExcBaseFacts B newId initId bmB) (T:OwnTail h bmB bm){mN:Str->Option Value}{rest:List Value}{Q:Fin->Shared->Prop}
  (hC:h.get? C=some (excClassObj nm q C N bs bm hdct sn sub ab col dd k0 k1 k2 k3 k5 newId)) (hn:h.Ns N mN) (hni:mN "__init__"=none)
  (hq:∀ h' e,Heap.MadeExcOf h h' e (.ref C) rest->h.objs.size<=e->Q (.done (.ret (.ref e))) ⟨h',g,d,t,os⟩) (hrest:rest.length<=sizeLine:=by size_fits) :
  wpAny (model prog w) A (Builtin.«type.__call__» ⟨.ref C::rest,[]⟩) Q E ⟨h,g,d,t,os⟩:=by
 repeat (first|with_reducible refine wpAny_loadPart_at hC ?_|with_reducible refine wpAny_madeBy_exc hC ?_|wp_step)
 refine codeAny_call_builtin_code (Code.quiet_builtin _ F.quiet) (wpAny_check_new_subT F T hC ?_)
 refine codeAny_exc_new_subT F T hC ?_ hrest
 show wpAny _ _ _ _ _ _
 have hC₁:=Heap.get?_push_of_some { cls:=.ref C,data:=.fields #[.ref h.objs.size,.none,.none,.none,.bool false,.none] }
  (Heap.get?_push_of_some { cls:=.type "tuple",data:=.seq rest.toArray } hC)
 have hn₁:((h.push { cls:=.type "tuple",data:=.seq rest.toArray }).push { cls:=.ref C,data:=.fields #[.ref h.objs.size,.none,.none,.none,.bool false,.none] }).Ns N mN :=
  let ⟨o,es,ep,e,r⟩:=hn;⟨o,es,ep,Heap.get?_push_of_some _ (Heap.get?_push_of_some _ e),r⟩
 have hget:((h.push { cls:=.type "tuple",data:=.seq rest.toArray }).push
   { cls:=.ref C,data:=.fields #[.ref h.objs.size,.none,.none,.none,.bool false,.none] }).get? (h.objs.size+1)=some
   { cls:=.ref C,data:=.fields #[.ref h.objs.size,.none,.none,.none,.bool false,.none] }:=by heap_get
 have hcC:(Value.ref C::bm).contains (.ref C)=true:=by simp
 have T₁:=T.keeps (h':=(h.push { cls:=.type "tuple",data:=.seq rest.toArray }).push { cls:=.ref C,data:=.fields #[.ref h.objs.size,.none,.none,.none,.bool false,.none] })
  λb o e=>Heap.get?_push_of_some _ (Heap.get?_push_of_some _ e)
 unfold isInstance
 repeat (first|with_reducible refine wpAny_loadPart_at hget ?_|(with_reducible refine wpAny_isSubtype_exc hC₁ ?_;rw [hcC])|wp_step)
 show wpAny _ _ (typeLookup (.ref C) _) _ _ _
 refine wpAny_typeLookup_tail hC₁ hn₁ T₁ F.mroIs F.init.lookup ?_
 rw [hni]
 refine wpAny_holding (wpAny_bind (wpAny_of_eq (F.init.bind _) ?_))
 refine wpAny_bind (wpAny_call (codeAny_call_builtin F.init.plain F.initEntry (wpAny_check_init_subT F T₁ hC₁ hget rfl ?_)))
 wp_walk
 refine hq _ _ ⟨λb o hb=>?_,Heap.get?_none_of_le (Nat.le_succ _),h.objs.size+2,?_,Heap.get?_none_of_le (by omega),?_⟩ (Nat.le_succ _)
 ·rw [Heap.get?_update_other _ _ (Nat.ne_of_gt (Nat.lt_succ_of_lt (Heap.lt_size hb)))]
  exact Heap.get?_push_of_some _ (Heap.get?_push_of_some _ (Heap.get?_push_of_some _ hb))
 ·rw [Heap.get?_update_self _ (Heap.get?_push_of_some _ hget) rfl]
  simp only [Heap.size_push]
  rfl
 ·rw [Heap.get?_update_other _ _ (show h.objs.size+1≠h.objs.size+2 by omega)]
  exact Heap.get?_push_at (by simp only [Heap.size_push]) rfl
theorem yA (F:ExcBaseFacts B newId initId bmB) (T:OwnTail h bmB bm){mN:Str->Option Value}{rest:List Value}{Q:Value->Shared->Prop}
  (hC:h.get? C=some (excClassObj nm q C N bs bm hdct sn sub ab col dd k0 k1 k2 k3 k5 newId)) (hn:h.Ns N mN) (hni:mN "__init__"=none)
  (hq:∀ h' e,Heap.MadeExcOf h h' e (.ref C) rest->h.objs.size<=e->Q (.ref e) ⟨h',g,d,t,os⟩) (hrest:rest.length<=sizeLine:=by size_fits) :
  wpAny (model prog w) A (call (.ref C) rest) Q E ⟨h,g,d,t,os⟩:=by
 have f1:=tc_lookup
 have f2:=tc_bind (.ref C)
 have hT:(⟨h,g,d,t,os⟩:Shared).TypeIs (.ref C) "type":=⟨_,hC,rfl⟩
 refine wpAny_call (codeAny_of_tree ?_)
 show wpAny _ _ (callAny (.ref C) _) _ _ _
 repeat (any_goals (first|assumption|with_reducible refine wpAny_loadPart_at hC ?_|wp_step))
 refine ⟨rfl,?_⟩
 refine codeAny_call_builtin_at (Code.quiet_builtin _ (by decide +kernel)) entry_typeCall (wpAny_check_type_call_sub hC (wY (hrest:=hrest) F T hC hn hni λh' e hm hz=>?_))
 exact hq h' e hm hz
end
end PySem
namespace L2
open PySem PySem.Spec PyProof.Rows
theorem Gq {K:PySem.W.Frag}{h:Heap}{N:Addr}{mg:Str->Option Value}{n:Str}{r:Option Value}(X:K.In h) (G:h.Ns N mg) (e:PySem.W.nsIn K N n=some r):mg n=r:=by
 obtain ⟨o,es,ep,ho,hd,_,hf⟩:=G
 unfold PySem.W.nsIn at e
 split at e
 ·rename_i c d es' n' sl q
  have:=X _ _ q
  rw [ho] at this
  cases this
  cases hd
  rw [<- hf]
  unfold nsFind findBy
  rw [<- Array.find?_toList]
  split at e
  ·rename_i y he;cases e;rw [he];rfl
  ·rename_i he
   split at e
   ·cases e
   ·cases e;rw [he];rfl
 ·cases e
theorem p5 {K:PySem.W.Frag}{h:Heap}{C:Addr}{r:Option Value}(X:K.In h) (q:b8 K C r=true) :
  ∃ bm N nm qn bs hdct sn sub ab col dd k0 k1 k2 k3 k5 mN,h.get? C=some (excClassObj nm qn C N bs bm hdct sn sub ab col dd k0 k1 k2 k3 k5 "ValueError.__new__")/\h.Ns N mN/\mN "__init__"=r/\OwnTail h vM bm:=by
 unfold b8 at q
 split at q
 ·rename_i dd cd sl ho
  split at q
  ·rename_i C' bm k0 k1 k2 k3 n k5 hm hs
   simp only [Bool.and_eq_true,beq_iff_eq,Bool.not_eq_true'] at q
   obtain ⟨⟨⟨⟨⟨rfl,rfl⟩,hdel⟩,ht⟩,hok⟩,hni⟩:=q
   obtain ⟨nm,bs,mro,ns,qn,hd,sn,sub,ab,col,del⟩:=cd
   dsimp only at hm hdel hok hni
   subst hm hdel
   have hsl:sl=#[k0,k1,k2,k3,some (.builtin "ValueError.__new__"),k5]:=by
    obtain ⟨l⟩:=sl
    simp only at hs
    rw [hs]
   subst hsl
   have N:=Heap.Ns.of_isNs (PySem.W.isNs_of_in X hok)
   exact ⟨bm,ns,nm,qn,bs,hd,sn,sub,ab,col,dd,k0,k1,k2,k3,k5,_,X _ _ ho,N,Gq X N hni,PySem.W.tail_of_in X ht⟩
  ·cases q
 ·cases q
theorem yB {K:PySem.W.Frag}{h h2:Heap}{C:Addr}{r:Option Value}(X:K.In h) (X2:K.In h2) (q:b8 K C r=true):h.get? C=h2.get? C:=by
 unfold b8 at q
 split at q
 ·rename_i dd cd sl ho
  rw [X _ _ ho,X2 _ _ ho]
 ·cases q
section
variable {X:Cx}{C:Addr}{x:Str}{p pos pos2:Pos}{e:Expr}{es:List Expr}{t:TA}
def DT (C:Addr) (t:TA):TR:=λσ H R=>t σ H λvs H1=>vs.length<=2/\R C none σ H1
theorem zI (hx:b8 X.K C none=true) (hk:PySem.W.keepIn X.K (.ref C)=true) (hc:X.calm=true) (hg:Gl X x) (hm:X.mg x=some (.ref C)) (ha:PA X.nox (e::es) t) (hdb:(x==("__debug__":Str))=false:=by decide)
  (he:starEach (e::es) X.env=(false,eval e X.env)::starEach es X.env:=by rfl) (hpl:(backTo pos (starEach es X.env)).any (·.1)=false:=by rfl):PR X (.Raise (some (.Call (.Name x p) (e::es) [] pos)) none pos2) (DT C t):=by
 intro pins s σ H R I h
 obtain ⟨bm,N,nm,q,bs,hd,sn,sub,ab,col,dd,k0,k1,k2,k3,k5,mN,hC,hN,hi,T⟩:=p5 I.kIn hx
 have hbase:bm.contains (.type "BaseException")=true:=T.hasType (by decide)
 rw [arm_exec_Raise]
 have go:wpAny (model X.prog X.w) X.A (eval (.Call (.Name x p) (e::es) [] pos) X.env) (λv s1=>∃ en t0,v=.ref en/\s1.heap.get? C=some (excClassObj nm q C N bs bm hd sn sub ab col dd k0 k1 k2 k3 k5 "ValueError.__new__") /\
   s1.heap.get? en=some { cls:=.ref C,data:=.fields #[.ref t0,.none,.none,.none,.bool false,.none] }/\XP X pins R (.ref en) s1) (XP X pins R) s:=by
  refine wpAny_Call_Name_kw (eg I hg hm ?_ hdb)
  refine PySem.W.callWith_K (h₀:=X.base) I.ok.mod.kin hk (ii (ha pos pins s σ H _ (I.wish _) h) λus s1 ⟨vs,H1,I1,r,hl,q1⟩=>⟨I1.unwish.kIn,?_⟩) he hpl
  have J:=I1.unwish
  obtain ⟨bm',N',nm',q',bs',hd',sn',sub',ab',col',dd',k0',k1',k2',k3',k5',mN',hC',hN',hi',T'⟩:=p5 J.kIn hx
  have same:s1.heap.get? C=some (excClassObj nm q C N bs bm hd sn sub ab col dd k0 k1 k2 k3 k5 "ValueError.__new__"):=by
   have z:=yB I.kIn J.kIn hx
   rw [<- z];exact hC
  obtain ⟨hp,g,d,tk,os⟩:=s1
  refine yA PySem.F.excBase_ValueError T' hC' hN' hi' (λh' en m hz=>?_) (by have:=r.length;rw [sizeLine_eq,List.nil_append];omega)
  obtain ⟨t0,g1,g2,g3⟩:=m.there
  refine ⟨en,t0,rfl,m.keeps _ _ same,g1,?_⟩
  refine ⟨en,C,none,σ,H1,hp.objs.size,rfl,J.kept (t':=tk) m.keeps,J.low,⟨_,_,.none,g1,rfl,rfl,rfl,⟨rfl,rfl⟩,hz,J.hok.fresh hz,.inl rfl⟩,q1⟩
 exact wpAny_bind (wpAny_standAt (wpAny_raiseStmt_made_sub (C:=C) (nm:=nm) (q:=q) (N:=N) (bs:=bs) (bm:=bm) (hdct:=hd) (sn:=sn) (sub:=sub) (ab:=ab) (col:=col) (dd:=dd) (k0:=k0) (k1:=k1) (k2:=k2) (k3:=k3) (k5:=k5) (newId:="ValueError.__new__") hbase (I.ok.hd hc)
  (wpAny_bind (wpAny_mono go (λv s3 h3=>wpAny_bind (wpAny_standAt (wpAny_pure h3))) λ_ _ z=>z))))
end
end L2
namespace T2
open PySem PySem.Spec PyProof.Rows L2
abbrev WX:=Addr->StT->Sto->Prop
abbrev WR:=StT->Sto->WX->Prop
def lR (K:Fg) (w:WR):TR:=λσ H R=>∃ S σt Rt,SRp K H S/\Cov K H S σ σt/\w σt S Rt/\∀ C σ' H' σt' S',Fr H S H' S'->SRp K H' S'->Cov K H' S' σ' σt'->Rt C σt' S'->R C none σ' H'
def QR (K:Fg) (X:Cx) (st:Stmt) (w:WR):Prop:=PR X st (lR K w)
def QRs (K:Fg) (X:Cx) (st:List Stmt) (w:WR):Prop:=PRs X st (lR K w)
def QRE (K:Fg) (X:Cx) (e:Expr) (w:WR):Prop:=PRE X e (lR K w)
def QRA (K:Fg) (X:Cx) (es:List Expr) (w:WR):Prop:=PRA X es (lR K w)
theorem PR.of {X:Cx}{e:Stmt}{t t':TR}(h:PR X e t) (i:∀ σ H Q,t' σ H Q->t σ H Q):PR X e t':=λpins s σ H Q I q=>h pins s σ H Q I (i σ H Q q)
theorem PRs.of {X:Cx}{e:List Stmt}{t t':TR}(h:PRs X e t) (i:∀ σ H Q,t' σ H Q->t σ H Q):PRs X e t':=λpins s σ H Q I q=>h pins s σ H Q I (i σ H Q q)
theorem PRE.of {X:Cx}{e:Expr}{t t':TR}(h:PRE X e t) (i:∀ σ H Q,t' σ H Q->t σ H Q):PRE X e t':=λpins s σ H Q I q=>h pins s σ H Q I (i σ H Q q)
abbrev cx:=List T->Sto->(Addr->Sto->Prop)->Prop
def bE (K:Fg) (w:cx):Sp:=λvs H _ E=>∃ S ts Rt,SRp K H S/\Rps K H S ts vs/\w ts S Rt/\∀ C H' S',Fr H S H' S'->SRp K H' S'->Rt C S'->E (.ref C) none H'
section
variable {K:Fg}{X:Cx}{st:Stmt}{rest:List Stmt}{w u:WS}{r r2:WR}{e:Expr}{es:List Expr}{we:WE}{pos:Pos}{t:WT}
theorem bC (h:QR K X st r):QRs K X (st::rest) r:=zD h
def t6 (w:WS) (r:WR):WR:=λσ S R=>w { nx:=λσ' S'=>r σ' S' R,rt:=λ_ _=>False } σ S
theorem zJ (h1:QS K X.nox st w) (h2:QRs K X rest r):QRs K X (st::rest) (t6 w r):=PRs.of (zE h1 h2) λσ H R ⟨S,σt,Rt,s,c,q,hr⟩ =>
 ⟨S,σt,_,s,c,q,⟨λσ' H' σt' S' f s' c' q'=>⟨S',σt',Rt,s',c',q',λC σ2 H2 σt2 S2 f2=>hr C σ2 H2 σt2 S2 (f.trans f2)⟩,λ_ _ _ _ _ _ _ q'=>q'.elim,λ_ _ _ _ _ _ _ q'=>q'.elim,λ_ _ _ _ _ _ _ q'=>q'.elim⟩⟩
def wH (t:WT) (r r2:WR):WR:=λσ S R=>t σ S λb S1=>if b=true then r σ S1 R else r2 σ S1 R
theorem gB {c:Expr}{a b:List Stmt}(hc:QT K X.nox c t) (ha:QRs K X a r) (hb:QRs K X b r2):QR K X (.If c a b pos) (wH t r r2):=PR.of (Gn hc ha hb) λσ H R zz105=>by
 obtain ⟨S,σt,Rt,s,c,q,hr⟩:=zz105
 refine ⟨S,σt,_,s,c,q,λk H1 S1 f1 s1 q1=>?_⟩
 cases k with
 |true=>exact ⟨S1,σt,Rt,s1,c.fr f1,q1,λC σ2 H2 σt2 S2 f2=>hr C σ2 H2 σt2 S2 (f1.trans f2)⟩
 |false=>exact ⟨S1,σt,Rt,s1,c.fr f1,q1,λC σ2 H2 σt2 S2 f2=>hr C σ2 H2 σt2 S2 (f1.trans f2)⟩
def Bq:WR:=λ_ _ _=>False
theorem k7 {sts:List Stmt}:QRs K X sts Bq:=λ_ _ _ _ _ _ zz106=>by obtain ⟨_,_,_,_,_,q,_⟩:=zz106;exact q.elim
theorem g9 (h:QRE K X e r) (hs:swapsWith e none pos.line X.env=pure false:=by rfl):QR K X (.Expr e pos) r:=Bn h hs
theorem DU (h:QRE K X e r):QR K X (.Return (some e) pos) r:=DR h
theorem qJ (h:QRE K X e r) (hs:starEach (e::es) X.env=(false,eval e X.env)::starEach es X.env:=by rfl):QRA K X (e::es) r:=zF h hs
end
section
variable {K:Fg}{X:Cx}{k:Nat}{f C:Addr}{fd:FuncData}{ps:List Str}{wsp:cx}{x m:Str}{p pos pos2 apos:Pos}{e o:Expr}{es:List Expr}{wa:WE}{wr:WA}{r:WR}{G:Addr->Prop}
theorem qK (D:Df X.K X.mg x f fd ps) (hg:Gl X x) (ha:QRA K X (e::es) r) (hdb:(x==("__debug__":Str))=false:=by decide) (he:starEach (e::es) X.env=(false,eval e X.env)::starEach es X.env:=by rfl) (hpl:(backTo pos (starEach es X.env)).any (·.1)=false:=by rfl) :
  QRE K X (.Call (.Name x p) (e::es) [] pos) r:=yy (g:=.none) hg D.hm D.kp ha hdb he hpl
def mL (G:Addr->Prop) (m:Str) (wsp:cx) (wa:WE) (wr:WA):WR:=λσ S R=>wa σ S λx S1=>∃ a C fs,x=.ref a/\S1 a=some (.ins C fs)/\G C/\fs.lookup m=none/\wr σ S1 λts S2=>wsp (x::(ts++[])) S2 λC S'=>R C σ S'
theorem yC {σ H R}(h:lR K (mL G m wsp wa wr) σ H R):vy G m (bE K wsp) [] (lE K wa) (lA K wr) σ H R:=by
 obtain ⟨S,σt,Rt,s,c,q,hq⟩:=h
 refine ⟨S,σt,_,s,c,q,λx H1 tx S1 f1 s1 r1 q1=>?_⟩
 obtain ⟨a,C,fs,rfl,ea,g,l,q1⟩:=q1
 cases r1
 cases s1 a _ ea with
 |ins eh pr =>
  refine ⟨a,C,_,_,rfl,eh,g,b7 pr l,S1,σt,_,s1,c.fr f1,q1,λvs H2 ts S2 f2 s2 r2 q2=>?_⟩
  exact ⟨S2,_,_,s2,.cons .ref (r2.append .nil),q2,λC H' S' f s' q'=>⟨C,rfl,hq C σ H' σt S' ((f1.trans f2).trans f) s' (c.fr ((f1.trans f2).trans f)) q'⟩⟩
theorem fU {pl:Sem Bool}(hG:∀ C,G C->Cls X.K C/\Meth X.K C m f) (F:FnOk X.prog X.w X.K X.mg X.base (CX1 X.prog X.w) k f fd ps (bE K wsp)) (hb:ay X.K fd ps []) (hr:Room k X.A) (ho:QE K X.nox o wa) (ha:QA K X.nox (e::es) wr)
  (hst:starEach (e::es) X.env=(false,eval e X.env)::starEach es X.env:=by rfl) (hpl:(backTo pos (starEach es X.env)).any (·.1)=false:=by rfl)
  (ht:eval (.Call (.Attribute o m apos) (e::es) [] pos) X.env=(do
   let ov <- eval o X.env
   standAt apos.atName
   let (f,first) <- holding [ov] (getMethod ov m pl)
   callWith pos f first (backTo pos (starEach (e::es) X.env)) (backToKw pos (keywordEach [] X.env))):=by rfl) :
  QRE K X (.Call (.Attribute o m apos) (e::es) [] pos) (mL G m wsp wa wr):=PRE.of (qI (pl:=pl) (dvs:=[]) ho hG F hr hb .nil ha hst hpl ht) λ_ _ _ h=>yC h
def rZ (C:Addr) (wr:WA):WR:=λσ S R=>wr σ S λts S1=>ts.length<=2/\R C σ S1
theorem ly (hx:b8 X.K C none=true) (hk:PySem.W.keepIn X.K (.ref C)=true) (hc:X.calm=true) (hg:Gl X x) (hm:X.mg x=some (.ref C)) (ha:QA K X.nox (e::es) wr) (hdb:(x==("__debug__":Str))=false:=by decide)
  (he:starEach (e::es) X.env=(false,eval e X.env)::starEach es X.env:=by rfl) (hpl:(backTo pos (starEach es X.env)).any (·.1)=false:=by rfl):QR K X (.Raise (some (.Call (.Name x p) (e::es) [] pos)) none pos2) (rZ C wr) :=
 PR.of (zI hx hk hc hg hm ha hdb he hpl) λσ H R ⟨S,σt,Rt,s,c,q,hq⟩ =>
  ⟨S,σt,_,s,c,q,λvs H1 ts S1 f1 s1 r1 zz107=>by obtain ⟨hl,q1⟩:=zz107;exact ⟨by rw [r1.length];exact hl,hq C σ H1 σt S1 f1 s1 (c.fr f1) q1⟩⟩
end
def nU (R:Addr->Sto->Prop):WX:=λC _ S=>∃ S0,Le S0 S/\R C S0
theorem nU.mk {R:Addr->Sto->Prop}{C:Addr}{σ:StT}{S:Sto}(h:R C S):nU R C σ S:=⟨S,.refl,h⟩
theorem hE {P:Program}{w:World}{K:Fg}{mg:Str->Option Value}{base:Heap}{x qual:Str}{st:Stmt}{f:Addr}{fd:FuncData}{N ps:List Str}{k:Nat}{wsp:cx}(F:FunD K x qual st f fd) (Sc:FnScope N ps (aj st)) (len:∀ ts S Q,wsp ts S Q->ts.length=ps.length)
  (hbody:∀ (cdv:Value) (A:Around) (outer:List Env) (s:Shared) (H:Hp) (E:XK),Room k (A.deeper (envOfC qual (aj st) s.heap.objs.size f cdv)) ->
   ∃ u,QRs K (cq CX0 P w K mg base N qual (aj st) f cdv A outer s H E) (av st) u/\∀ ts S R,wsp ts S R->u (cI N ts) S (nU R)):FnOk P w K mg base (CX1 P w) (k+1) f fd ps (bE K wsp):=by
 obtain ⟨oc,od,dV,kV,doc,pm,an,cdv,ct,osl,rfl,lk,hcd⟩:=F.ex
 refine zG lk hcd Sc (λvs H Q E ⟨S,ts,Qt,s,r,q,_⟩=>by rw [r.length];exact len _ _ _ q) λA outer s H vs E Q hr ⟨S,ts,Rt,sr,r,q,b⟩=>?_
 obtain ⟨u,hu,hq⟩:=hbody cdv A outer s H E hr
 refine ⟨_,hu,S,cI N ts,_,sr,kX r,hq ts S Rt q,λC σ' H' σt' S' f s' _ zz108=>?_⟩
 obtain ⟨S0,l,q0⟩:=zz108
 exact b C H' S0 (f.trans (Fr.le l)) (s'.le l) q0
section
variable {K:Fg}{X:Cx}{pos p:Pos}{x:Str}{B:Addr}
abbrev WH:=Addr->WS
def lH (K:Fg) (w:WH):TH:=λC D σ H=>∃ S σt Dt,SRp K H S/\Cov K H S σ σt/\w C Dt σt S/\EndsOk K H S Dt D
def QH (K:Fg) (X:Cx) (hs:List ExceptHandler) (w:WH):Prop:=PH X hs (lH K w)
theorem PH.of {hs:List ExceptHandler}{t t':TH}(h:PH X hs t) (i:∀ C D σ H,t' C D σ H->t C D σ H):PH X hs t':=λpins s σ H a C dct lo D I lw x q=>h pins s σ H a C dct lo D I lw x (i C D σ H q)
def Gu:WH:=λ_ _ _ _=>False
theorem DV:QH K X [] Gu:=PH.of DS λ_ _ _ _ zz109=>by obtain ⟨_,_,_,_,_,q,_⟩:=zz109;exact q
def nV (wn:WS) (wr:WR) (wh:WH):WS:=λD σ S=>wn D σ S\/wr σ S λC σ' S'=>wh C D σ' S'
end
section
variable {K:Fg}{σ:StT}{S:Sto}{R:WX}{D:EndsT}{w:WS}{r r2:WR}{t:WT}{we wa:WE}{wr:WA}{wsp:cx}{C B:Addr}{G:Addr->Prop}{m:Str}{wh:WH}
theorem t7 (h:w { nx:=λσ' S'=>r σ' S' R,rt:=λ_ _=>False } σ S):t6 w r σ S R:=h
theorem wI (h:t σ S λb S1=>if b=true then r σ S1 R else r2 σ S1 R):wH t r r2 σ S R:=h
theorem DW (h:wa σ S λx S1=>∃ a C fs,x=.ref a/\S1 a=some (.ins C fs)/\G C/\fs.lookup m=none/\wr σ S1 λts S2=>wsp (x::(ts++[])) S2 λC S'=>R C σ S'):mL G m wsp wa wr σ S R:=h
theorem Bs (h:wr σ S λts S1=>ts.length<=2/\R C σ S1):rZ C wr σ S R:=h
theorem t8 (h:w D σ S):nV w r wh D σ S:=.inl h
theorem mM (h:r σ S λC σ' S'=>wh C D σ' S'):nV w r wh D σ S:=.inr h
end
end T2
namespace L2
open PySem PySem.Spec PyProof.Rows
section
variable {X:Cx}
variable {pos p2 p3:Pos}{value:Expr}{tv:TE}{s2:Str}{k3:Nat}
end
end L2
namespace T2
open PySem PySem.Spec PyProof.Rows L2
section
variable {K:Fg}{X:Cx}{pos p2 p3:Pos}{value o:Expr}{wv wa:WE}{s2:Str}{k3:Nat}{G:Addr->Prop}
end
end T2
namespace L2
open PySem PySem.Spec PyProof.Rows
end L2
namespace T2
open PySem PySem.Spec PyProof.Rows L2
section
variable {K:Fg}{X:Cx}
end
section
variable {K:Fg}{X:Cx}{sts:List Stmt}{r1 r2:WR}
def nW (r1 r2:WR):WR:=λσ S R=>r1 σ S R\/r2 σ S R
theorem DX (h1:QRs K X sts r1) (h2:QRs K X sts r2):QRs K X sts (nW r1 r2):=λpins s σ H Q I zz110=>by
 obtain ⟨S,σt,Rt,sr,c,q,hr⟩:=zz110
 rcases q with q|q
 ·exact h1 pins s σ H Q I ⟨S,σt,Rt,sr,c,q,hr⟩
 ·exact h2 pins s σ H Q I ⟨S,σt,Rt,sr,c,q,hr⟩
theorem Gv {σ:StT}{S:Sto}{R:WX}(h:r1 σ S R):nW r1 r2 σ S R:=.inl h
theorem Gx {σ:StT}{S:Sto}{R:WX}(h:r2 σ S R):nW r1 r2 σ S R:=.inr h
end
end T2
namespace L2
open PySem PySem.Spec PyProof.Rows
section
variable {X:Cx}
end
end L2
namespace T2
open PySem PySem.Spec PyProof.Rows L2
section
variable {K:Fg}{X:Cx}
end
end T2
namespace L2
open PySem PySem.Spec PyProof.Rows
section
variable {X:Cx}{pos p2 p3 p4:Pos}{value value2:Expr}{tv tv2:TE}{s2:Str}{k3:Nat}
variable {elt iter target:Expr}{ifs:List Expr}{scope:Scope}{r:TR}
end
end L2
namespace T2
open PySem PySem.Spec PyProof.Rows L2
section
variable {K:Fg}{X:Cx}{pos p2 p3 p4:Pos}{value value2:Expr}{wv wv2:WE}{s2:Str}{k3:Nat}{r:WR}
variable {elt iter target:Expr}{ifs:List Expr}{scope:Scope}
end
end T2
namespace T2
open PySem L2
end T2
namespace L2
open PySem PySem.Spec PyProof.Rows
section
variable {X:Cx}
end
end L2
namespace T2
open PySem PySem.Spec PyProof.Rows L2
section
variable {K:Fg}{X:Cx}
end
end T2
namespace L2
open PySem PySem.Spec PyProof.Rows
end L2
namespace T2
open PySem PySem.Spec PyProof.Rows L2
section
variable {K:Fg}{X:Cx}
end
end T2
set_option maxRecDepth 100000
namespace PySem.W
open PySem PySem.Spec PySem.Calls PyProof.Rows
section
variable {prog:Program}{w:World}{A:Around}{E:Value->Shared->Prop}{s:Shared}{K:Frag}{x C:Addr}{ox:Obj}{od:Option Obj}{name:Str}{expr fill:Bool}
structure XGet (K:Frag) (C:Addr):Prop where
 ga:findIn K (.ref C) "__getattribute__"=some (some (.builtin "BaseException.__getattribute__"))
 gk:findIn K (.ref C) "__getattr__"=some none
 sub:mroIn K C (.type "BaseException")=some true
theorem Bt {tk:Tok}{Q:Value->Shared->Prop}(G:XGet K C) (X:K.In s.heap) (I:InstAt s.heap x ox C od)
  (h:wpAny (model prog w) A.in1 (Builtin.«object.__getattribute__» ⟨[.ref x,.str name tk],[]⟩) (λfin s'=>match fin with|.done (.ret v)=>wpAny (model prog w) A (handedOut v) Q E s'|_=>False) (λ_ _=>False) s) :
  wpAny (model prog w) A (getAttrBy (.ref x) (.str name tk) fill expr) Q E s:=by
 have hb:Looks (model prog w) s.heap (hookBefore (.ref C)) none:=by
  unfold hookBefore;rw [if_pos (show onTheHeap (.ref C)=true from rfl)];exact looks_findIn X G.gk
 have sub:Looks (model prog w) s.heap (isInstance (.ref x) (.type "BaseException")) true:=I.type.andThen (looks_mroIn X G.sub)
 unfold getAttrBy
 refine wpAny_holding (wpAny_bind (I.type.here (wpAny_bind ((looks_findIn X G.ga).here ?_))))
 dsimp only
 rw [show (onTheHeap (.ref C)&&Value.builtin "BaseException.__getattribute__" == Value.builtin "object.__getattribute__")=false from by rw [show (Value.builtin "BaseException.__getattribute__" == Value.builtin "object.__getattribute__")=false from by decide +kernel,Bool.and_false],if_neg (by decide)]
 unfold getAttrByItsOwn
 refine wpAny_bind (hb.here (wpAny_bind (wpAny_attempt (wpAny_holding ?_))))
 unfold callGetattribute
 rw [show (expr&&onTheHeap (Value.builtin "BaseException.__getattribute__"))=false from Bool.and_false _,if_neg (by decide)]
 unfold boundAndCalled
 rw [PySem.F.attr_ValueError.ga.bind]
 refine wpAny_bind (wpAny_pure ?_)
 show wpAny _ _ (call (.builtin "BaseException.__getattribute__") [.ref x,.str name tk]) _ _ _
 refine wpAny_call ?_
 refine codeAny_call_builtin PySem.F.attr_ValueError.ga.plain PySem.F.entry_bexc_ga ?_
 refine @check_slot (model prog w) _ _ s "BaseException.__getattribute__" "BaseException" "__getattribute__" (.ref x) [.str name tk] [] _ (by decide +kernel) (by decide +kernel) sub (PySem.F.args_bexc_ga (.ref x) (.str name tk)) ?_
 refine wpAny_mono h (λfin s' z=>?_) λ_ _ z=>z.elim
 rcases fin with (_|_|_|_)|_<;>first|exact z|exact z.elim
theorem xget_class {Q:Option Value->Shared->Prop}(G:XGet K C) (X:K.In s.heap) (I:InstAt s.heap x ox C od) (hf:findObj K C od "__class__"=some (.bind (.builtin "getset_descriptor.__get__") (.builtin "object.__class__")))
  (hm:mroIn K C (.type "object")=some true) (h:Q (some (.ref C)) { s with toks:=s.toks+1 }) :
  wpAny (model prog w) A (getAttr? (.ref x) "__class__") Q E s:=by
 unfold getAttr? getAttrBy?
 refine wpAny_bind (wpAny_mkText (wpAny_bind (wpAny_attempt (Bt (s:={ s with toks:=s.toks+1 }) G X I ?_))))
 obtain ⟨hh',g,d,t,os⟩:=s
 have L0:=I.type (M:=model prog w)
 have L1:=looks_find (M:=model prog w) X I hf
 refine wpAny_bind (wpAny_pure (wpAny_bind (wpAny_pure (wpAny_bind (L0.at (wpAny_bind (L1.at ?_)))))))
 show wpAny _ _ (holding [_] (call (.builtin "getset_descriptor.__get__") [.builtin "object.__class__",.ref x,.ref C]) >>= ret) _ _ _
 refine wpAny_bind (wpAny_holding (wpAny_call (class_get (ox:=ox) (od:=od) X I hm (wpAny_pure ?_))))
 show wpAny _ _ (handedOut (.ref C)) _ _ _
 rw [handedOut_of rfl]
 exact wpAny_pure (wpAny_pure h)
theorem findObj_class (hc:(clsIn K C).isSome=true) (ha:findIn K (.ref C) "__class__"=some (some (.builtin "object.__class__"))) (hn:specialIn K (.builtin "object.__class__") "__get__"=some (some (.builtin "getset_descriptor.__get__"))) (htk:takesIn K (.builtin "object.__class__")=some true) :
  findObj K C od "__class__"=some (.bind (.builtin "getset_descriptor.__get__") (.builtin "object.__class__")):=by
 obtain ⟨cd,hc⟩:=Option.isSome_iff_exists.mp hc
 unfold findObj
 rw [hc,Option.bind_some,ha,Option.bind_some]
 simp [hn,htk]
end
end PySem.W
namespace L2
open PySem PySem.Spec PyProof.Rows
section
variable {X:Cx}{pins:List (Addr×Obj)}{σ:St}{H:Hp}{s:Shared}
theorem jE {M:Model}{A:Around}{E:Value->Shared->Prop}{i:Nat}{x:Str}{pos:Pos}{Q:Unit->Shared->Prop}(I:Inv X pins σ H s) (hN:X.N.Nodup) (hi:X.N[i]?=some x) (hx:X.env.scope.names.lookup x=some .local)
  (h:∀ s',Inv X pins (σ.set i none) H s'->Q () s'):wpAny M A (do bindName X.env x .none;unbindBehindTheSuite X.env x pos) Q E s:=by
 refine wpAny_bind (wpAny_bindName (gP (v:=.non) I hN hi (.inl hx) rfl (λs1 I1=>?_) (.inr hx)))
 have hcls:(X.env.scope.kind==.class || (X.env.scope.kind==.module&&X.env.locals != X.env.globals))=false:=by rw [I.ok.kind];rfl
 have hk:X.env.kindOf x=some .local:=hx
 obtain ⟨m,hn,hl⟩:=id I1.loc
 have cne:=I1.cne
 unfold unbindBehindTheSuite
 refine wpAny_onRaise ?_
 unfold unbindName
 refine wpAny_bind (wpAny_point (wpAny_bind ?_))
 unfold deleteName
 simp only [hk,hcls]
 rw [if_neg (by decide)]
 refine wpAny_bind (wpAny_nsDel_keeps hn λh' v hn' hs=>?_)
 have hsome:(m x).isSome=true:=by
  have hiσ:i<σ.length:=by rw [I.len];exact (List.getElem?_eq_some_iff.mp hi).1
  obtain ⟨u,_,q⟩:=hl i x .non hi (by rw [List.getElem?_set_self hiσ]) (.inl hx)
  rcases q with ⟨_,e⟩|⟨k,_⟩
  ·rw [e];rfl
  ·rw [hk] at k;rcases k with k|k<;>cases k
 rw [hsome]
 simp only [if_true,Option.isSome_some,Bool.not_true,Bool.false_eq_true,if_false]
 refine wpAny_pure (wpAny_point (h _ ?_))
 obtain ⟨oL,_,_,hoL,_⟩:=id hn
 refine ⟨I.ok,I1.os,I1.bare,⟨λb o e n hb hx=>?_,λb o e n hb hx=>?_,I1.base.free,λb o e hx=>?_,I1.base.tups,I1.base.frzs,I1.base.tbls⟩,⟨_,hn',λj y v' e1 e2 e3=>?_⟩,λy c e=>?_,I1.free,I1.freeC,λp hp=>?_,λb ob e=>?_,by simpa using I.len⟩
 ·exact (hs.2 b (Nat.ne_of_lt (Nat.lt_of_lt_of_le (Heap.lt_size e) I.ok.above))).trans (I1.base.keep b o e n hb hx)
 ·obtain ⟨sl,e1⟩:=I1.base.slot b o e n hb hx
  exact ⟨sl,(hs.2 b (Nat.ne_of_lt (Nat.lt_of_lt_of_le (Heap.lt_size e) I.ok.above))).trans e1⟩
 ·obtain ⟨o',e1⟩:=I1.base.there b o e hx
  exact ⟨o',(hs.2 b (Nat.ne_of_lt (Nat.lt_of_lt_of_le (Heap.lt_size e) I.ok.above))).trans e1⟩
 ·have hiσ:i<σ.length:=by rw [I.len];exact (List.getElem?_eq_some_iff.mp hi).1
  by_cases hj:j=i
  ·subst hj
   rw [List.getElem?_set_self hiσ] at e2
   cases e2
  ·rw [List.getElem?_set_ne (Ne.symm hj)] at e2
   obtain ⟨u',r',q⟩:=hl j y v' e1 (by rw [List.getElem?_set_ne (Ne.symm hj)];exact e2) e3
   refine ⟨u',r',?_⟩
   rcases q with ⟨k,e⟩|⟨k,c,e,z⟩
   ·refine .inl ⟨k,?_⟩
    have:y≠x:=λe=>hj (k8 hN e1 (e ▸ hi))
    simp [this,e]
   ·exact .inr ⟨k,c,e,z.sameBut hs (cne y c e)⟩
 ·obtain ⟨w',z⟩:=I1.cell y c e
  exact ⟨w',z.sameBut hs (cne y c e)⟩
 ·obtain ⟨e,n,ne,nf,d⟩:=I1.pin p hp
  exact ⟨(hs.2 p.1 ne).trans e,n,ne,nf,d⟩
 ·refine (I1.hok b ob e).stay (λc w' hc q=>(hs.2 c ?_).trans q) (λ_ q=>q) λ_ _ q=>q
  rintro rfl
  rcases hc with rfl|hc
  ·rw [I1.free] at e;cases e
  ·rw [I1.free] at hc;cases hc
theorem Inv.add {a:Addr}{o:HO}{lo:Nat}(I:Inv X pins σ H s) (lw:Low X pins lo) (hl:lo<=a) (h0:H a=none) (new:aN X.prog X.w (upd H a o) s.heap a o):Inv X pins σ (upd H a o) s:=by
 have ne:∀ b u,H b=some u->b≠a:=λb u e z=>by rw [z,h0] at e;cases e
 have up:∀ b u,H b=some u->upd H a o b=some u:=λb u e=>by unfold upd;rw [if_neg (ne b u e)];exact e
 have no:∀ b,b<lo->H b=none->upd H a o b=none:=λb hb e=>by unfold upd;rw [if_neg (λz=>absurd (Nat.lt_of_lt_of_le hb hl) (by rw [z];exact Nat.lt_irrefl _))];exact e
 refine ⟨I.ok,I.os,I.bare,⟨I.base.keep,I.base.slot,λb u e n hx=>?_,I.base.there,λb xs e=>?_,λb u v e=>?_,λb ps e=>?_⟩,I.loc,I.cell,no _ lw.loc I.free,λx c e=>no _ (lw.cell x c e) (I.freeC x c e),λp hp=>?_,λb ob e=>?_,I.len⟩
 ·exact no b (Nat.lt_of_lt_of_le (Heap.lt_size e) lw.s0) (I.base.free b u e n hx)
 ·exact up _ _ (I.base.tups b xs e)
 ·exact up _ _ (I.base.frzs b u v e)
 ·obtain ⟨m,q⟩:=I.base.tbls b ps e
  exact ⟨m,up _ _ q⟩
 ·obtain ⟨e,n,r⟩:=I.pin p hp
  exact ⟨e,no _ (lw.pin p hp) n,r⟩
 ·by_cases hb:b=a
  ·subst hb
   have:ob=o:=by unfold upd at e;rw [if_pos rfl] at e;exact (Option.some.inj e).symm
   subst this
   exact new
  ·have e':H b=some ob:=by unfold upd at e;rw [if_neg hb] at e;exact e
   exact (I.hok b ob e').stay (λc w' hc q=>q) (λc q=>up _ _ q) λc xs q=>up _ _ q
theorem DY {P:Program}{w:World}{h:Heap}{C a:Addr}(x:∃ ob,h.get? a=some ob/\ob.cls=.ref C/\ob.dict=none/\∃ vs,ob.data=.fields vs/\vs[2]?=some .none):aN P w H h a (exH C a) :=
 ⟨x,let ⟨ob,e,_⟩:=x;⟨ob,e⟩,λ_ _ zz111 k=>by obtain ⟨ob,e,r⟩:=zz111;exact ⟨ob,k _ e,r⟩⟩
end
section
variable {X:Cx}
def PHn (X:Cx) (hs:List ExceptHandler) (t:TH):Prop:=∀ (pins:List (Addr×Obj)) (s:Shared) (σ:St) (H:Hp) (a C:Addr) (lo:Nat) (D:Ends),Inv X pins σ H s->Low X pins lo->Xc.Exc s.heap lo (λb=>H b=none) a (.ref C) none->t C D σ H ->
 wpAny (model X.prog X.w) X.A (handleBy (.ref a) X.env hs) (SP X pins D) X.xe s
theorem PH.n {hs:List ExceptHandler}{t:TH}(h:PH X hs t):PHn X hs t:=λpins s σ H a C lo D I lw x q=>h pins s σ H a C none lo D I lw x q
def mO (i:Nat) (D:Ends):Ends:={ D with nx:=λσ H=>D.nx (σ.set i none) H,bk:=λσ H=>D.bk (σ.set i none) H,ct:=λσ H=>D.ct (σ.set i none) H }
def HE (K:PySem.W.Frag) (B:Addr) (i:Nat) (t:Addr->TS) (r:TH):TH:=λC D σ H=>∃ b,PySem.W.exmOne K (.ref C) (.ref B)=some b/\if b=true then ∀ a,H a=none->t a (mO i D) (σ.set i (some (.ref a))) (upd H a (exH C a)) else r C D σ H
theorem Gy {x n:Str}{B:Addr}{i:Nat}{p pos:Pos}{st:Stmt}{suite:List Stmt}{hs:List ExceptHandler}{t:Addr->TS}{r:TH}(hN:X.N.Nodup) (hi:X.N[i]?=some n) (hn:X.env.scope.names.lookup n=some .local) (hg:Gl X x) (hm:X.mg x=some (.ref B)) (h1:∀ a,PSs (X.inx a) (st::suite) (t a)) (h2:PHn X hs r) (hdb:(x==("__debug__":Str))=false:=by decide) :
  PHn X (.ExceptHandler (some (.Name x p)) (some n) (st::suite) pos::hs) (HE X.K B i t r):=by
 intro pins s σ H a C lo D I lw x h
 obtain ⟨b,hb,q⟩:=h
 refine wpAny_handleBy_cons (codeAny_handlers_test (eg (X:=X.inx a) (I.inx a) hg hm ?_ hdb)) (by intro z;cases z)
 obtain ⟨oe,ge,hc,_⟩:=x.there
 have lt:PySem.W.Looks (model X.prog X.w) s.heap (typeOf (.ref a)) (.ref C):=hc ▸ (PySem.W.Looks.ld ge).andThen .now
 refine (PySem.W.exm_one (M:=model X.prog X.w) I.kIn lt hb).here ?_
 cases b with
 |true =>
  rw [if_pos rfl] at q
  refine codeAny_handlers_suite_as ?_
  refine yz I lw x λs' I' x'=>?_
  obtain ⟨oe',_,_,ge',hc',hd',de',e2',hlo,h0,_⟩:=x'
  have J:=(I'.add lw hlo h0 (DY (C:=C) ⟨oe',ge',hc',hd',_,de',e2'.2⟩)).inx a
  refine gP (X:=X.inx a) (v:=.ref a) J hN hi (.inl hn) rfl (λs2 J2=>?_) (.inr hn)
  refine wpAny_mono (h1 a pins s2 _ _ (mO i D) J2 (q a h0)) (λf s3 z=>?_) λ_ _ z=>z.elim
  have z:=SP.outx I.ok z
  cases f with
  |next=>obtain ⟨σ',H',I3,q3⟩:=z;exact jE I3 hN hi hn λs4 I4=>⟨_,_,I4,q3⟩
  |brk=>obtain ⟨σ',H',I3,q3⟩:=z;exact jE I3 hN hi hn λs4 I4=>⟨_,_,I4,q3⟩
  |cont=>obtain ⟨σ',H',I3,q3⟩:=z;exact jE I3 hN hi hn λs4 I4=>⟨_,_,I4,q3⟩
  |ret u=>obtain ⟨v,σ',H',I3,rv,q3⟩:=z;exact jE I3 hN hi hn λs4 I4=>⟨v,_,_,I4,rv,q3⟩
 |false =>
  rw [if_neg (by decide)] at q
  exact h2 pins s σ H a C lo D I lw x q
def Gz (tn:TS) (tr:TR) (th:TH):TS:=λD σ H=>tn D σ H\/tr σ H λC dct σ' H'=>dct=none/\th C D σ' H'
theorem Bu {body:List Stmt}{hd:ExceptHandler}{hs:List ExceptHandler}{tn:TS}{tr:TR}{th:TH}{pos:Pos}(st:X.stack=X.env::X.outer/\X.env.frame=some X.env.locals) (hn:PSs X.nox body tn) (hr:PRs X body tr) (hh:PHn X (hd::hs) th) :
  PS X (.Try body (hd::hs) [] [] pos) (Gz tn tr th):=by
 intro pins s σ H D I h
 rcases h with h|h
 ·refine wpAny_Try_except (wpAny_mono (hn pins s σ H D (I.wish _) h) (λf s1 q=>?_) λ_ _ z=>z.elim)
  cases f with
  |next=>exact wpAny_execs_nil q.unwish
  |brk=>exact q.unwish
  |cont=>exact q.unwish
  |ret u=>exact q.unwish
 ·refine wpAny_Try_except (wpAny_mono (hr pins s σ H _ I h) (λf s1 q=>q.elim) λe s1 ⟨a,C,dct,σ',H',lo,ee,J,lw,x,hdn,q⟩=>?_)
  subst ee hdn
  have hlo:lo<=s1.heap.objs.size:=Nat.le_of_lt (Nat.lt_of_le_of_lt (by obtain ⟨_,_,_,_,_,_,_,_,l,_⟩:=x;exact l) (by obtain ⟨oe,_,_,ge,_⟩:=x;exact Heap.lt_size ge))
  exact rY J st lw hlo x λs2 J2 _ _ x2=>hh pins s2 σ' H' a C lo D J2 lw x2 q
end
end L2
namespace T2
open PySem PySem.Spec PyProof.Rows L2
section
variable {K:Fg}{X:Cx}{pos p:Pos}{x:Str}{B:Addr}
theorem Cov.none {H:Hp}{S:Sto}{σ:L2.St}{σt:StT}(c:Cov K H S σ σt) (i:Nat):Cov K H S (σ.set i none) (σt.set i none):=by
 refine ⟨by rw [List.length_set,List.length_set];exact c.1,λj t e=>?_⟩
 rw [List.getElem?_set] at e
 split at e
 ·split at e<;>cases e
 ·rename_i h
  obtain ⟨v,e1,e2⟩:=c.2 j t e
  exact ⟨v,by rw [List.getElem?_set_ne h];exact e1,e2⟩
def asE (i:Nat) (D:EndsT):EndsT:={ D with nx:=λσ S=>D.nx (σ.set i none) S,bk:=λσ S=>D.bk (σ.set i none) S,ct:=λσ S=>D.ct (σ.set i none) S }
theorem EndsOk.as {H:Hp}{S:Sto}{Dt:EndsT}{D:Ends}(e:EndsOk K H S Dt D) (i:Nat):EndsOk K H S (asE i Dt) (mO i D) :=
 ⟨λσ' H' σt' S' f s c q=>e.nx _ H' _ S' f s (c.none i) q,λv H' t S' f s r q=>e.rt v H' t S' f s r q,λσ' H' σt' S' f s c q=>e.bk _ H' _ S' f s (c.none i) q,λσ' H' σt' S' f s c q=>e.ct _ H' _ S' f s (c.none i) q⟩
def QHn (K:Fg) (X:Cx) (hs:List ExceptHandler) (w:WH):Prop:=PHn X hs (lH K w)
theorem PHn.of {hs:List ExceptHandler}{t t':TH}(h:PHn X hs t) (i:∀ C D σ H,t' C D σ H->t C D σ H):PHn X hs t':=λpins s σ H a C lo D I lw x q=>h pins s σ H a C lo D I lw x (i C D σ H q)
theorem DZ {hs:List ExceptHandler}{w:WH}(h:QH K X hs w):QHn K X hs w:=PH.n h
def wJ (K:Fg) (B:Addr) (i:Nat) (w:Addr->WS) (r:WH):WH:=λC D σ S=>∃ b,PySem.W.exmOne K (.ref C) (.ref B)=some b/\if b=true then ∀ a,S a=none->w a (asE i D) (σ.set i (some (.ref a))) (put S a (.exk C)) else r C D σ S
theorem GA {n:Str}{i:Nat}{st:Stmt}{suite:List Stmt}{hs:List ExceptHandler}{w:Addr->WS}{r:WH}(hK:X.K=K) (hN:X.N.Nodup) (hi:X.N[i]?=some n) (hn:X.env.scope.names.lookup n=some .local) (hg:Gl X x) (hm:X.mg x=some (.ref B)) (h1:∀ a,QSs K (X.inx a) (st::suite) (w a)) (h2:QHn K X hs r) (hdb:(x==("__debug__":Str))=false:=by decide) :
  QHn K X (.ExceptHandler (some (.Name x p)) (some n) (st::suite) pos::hs) (wJ K B i w r):=by
 subst hK
 refine PHn.of (Gy hN hi hn hg hm h1 h2 hdb) λC D σ H zz112=>?_
 obtain ⟨S,σt,Dt,s,c,⟨b,hb,q⟩,he⟩:=zz112
 refine ⟨b,hb,?_⟩
 cases b with
 |true =>
  intro a h0
  have q:=q a (s.fresh h0)
  have f:=Fr.newT (S:=S) (u:=exH C a) (o:=.exk C) h0
  exact ⟨_,_,_,s.newT h0 (.exk aI),(c.fr f).set .ref i,q,(he.fr f).as i⟩
 |false=>exact ⟨S,σt,Dt,s,c,q,he⟩
theorem D0 {body:List Stmt}{hd:ExceptHandler}{hs:List ExceptHandler}{wn:WS}{wr:WR}{wh:WH}(st:X.stack=X.env::X.outer/\X.env.frame=some X.env.locals) (hn:QSs K X.nox body wn) (hr:QRs K X body wr) (hh:QHn K X (hd::hs) wh) :
  QS K X (.Try body (hd::hs) [] [] pos) (nV wn wr wh):=PS.of (Bu st hn hr hh) λD σ H zz113=>by
 obtain ⟨S,σt,Dt,s,c,q,he⟩:=zz113
 rcases q with q|q
 ·exact .inl ⟨S,σt,Dt,s,c,q,he⟩
 ·exact .inr ⟨S,σt,_,s,c,q,λC σ' H' σt' S' f s' c' q'=>⟨rfl,S',σt',Dt,s',c',q',he.fr f⟩⟩
theorem ik {σ:StT}{S:Sto}{D:EndsT}{C:Addr}{i:Nat}{w:Addr->WS}{r:WH}(e:PySem.W.exmOne K (.ref C) (.ref B)=some true) (h:∀ a,S a=none->w a (asE i D) (σ.set i (some (.ref a))) (put S a (.exk C))):wJ K B i w r C D σ S:=⟨true,e,h⟩
end
structure XC (K:Fg) (C:Addr):Prop where
 kp:PySem.W.keepIn K (.ref C)=true
 get:PySem.W.XGet K C
 cl:(PySem.W.clsIn K C).isSome=true
 ca:PySem.W.findIn K (.ref C) "__class__"=some (some (.builtin "object.__class__"))
 cn:PySem.W.specialIn K (.builtin "object.__class__") "__get__"=some (some (.builtin "getset_descriptor.__get__"))
 ct:PySem.W.takesIn K (.builtin "object.__class__")=some true
 ob:PySem.W.mroIn K C (.type "object")=some true
theorem XC.of {K:Fg}{C:Addr}(h:dO K C=true):XC K C:=by
 simp only [dO,Bool.and_eq_true,beq_iff_eq] at h
 obtain ⟨⟨⟨⟨⟨⟨⟨⟨a,b⟩,c⟩,d⟩,e⟩,f⟩,g⟩,i⟩,j⟩:=h
 exact ⟨a,⟨b,c,d⟩,e,f,g,i,j⟩
section
variable {K:Fg}{X:Cx}{x:Str}{p:Pos}
theorem qL {x D:Addr}{ox:Obj}{od:Option Obj}(c:XC K D):PySem.W.KitX K (.ref x) (.ref D) (λh=>PySem.W.InstAt h x ox D od) where
 ty:=λ_ _ _ I=>I.type
 it:=λ_ _ X _=>by
  obtain ⟨cdD,hcD⟩:=Option.isSome_iff_exists.mp c.cl
  unfold PySem.W.clsIn at hcD
  split at hcD
  ·rename_i c' d' cd' sl' ho
   intro A' Q' E' s' k q
   unfold isType loadHead
   exact wpAny_bind (wpAny_loadPart (k _ _ (X _ _ ho)) (wpAny_pure q))
  ·cases hcD
 ne:=λh tp dd its n sl X htp=>by
  obtain ⟨cdD,hcD⟩:=Option.isSome_iff_exists.mp c.cl
  refine Bool.eq_false_iff.mpr λq=>?_
  have e:D=tp:=Value.ref.inj (beq_iff_eq.mp q)
  subst e
  unfold PySem.W.clsIn at hcD
  split at hcD
  ·rename_i c' d' cd' sl' ho
   have z:=(X _ _ ho).symm.trans htp
   cases z
  ·cases hcD
 ca:=λX I k=>PySem.W.xget_class c.get X I (PySem.W.findObj_class c.cl c.ca c.cn c.ct) c.ob k
def wK:T->Option Value
 |.ty n=>some (.type n)
 |.ref C=>some (.ref C)
 |_=>none
def wL (K:Fg) (G:Addr->Prop):GC:=λts S Q=>∃ a C y c b,ts=[.ref a,y]/\S a=some (.exk C)/\G C/\wK y=some c/\PySem.W.kitOne K (.ref C) c=some b/\Q (.bl b) S
theorem nu {G:Addr->Prop}(hK:X.K=K) (hG:∀ C,G C->XC K C):aX X (.builtin "isinstance") (lC K (wL K G)):=by
 subst hK
 rintro pins s σ H xs us Q I r ⟨S,ts,Qt,sr,rs,hg,bh⟩
 obtain ⟨a,C,y,cv,b,rfl,ea,g,ey,ek,q⟩:=hg
 cases rs with
 |cons r1 l =>
  cases l with
  |cons r2 l2 =>
   cases l2
   cases r1
   obtain ⟨u1,u2,rfl,rr1,rr2⟩:=eI r
   obtain rfl:u1=Value.ref a:=rr1
   have eu:u2=cv:=by
    cases r2<;>first|cases ey|skip
    ·exact rr2
    ·exact rr2
   subst eu
   have fin:∀ tk,EP X pins σ Q (.bool b) { s with toks:=tk }:=λtk=>⟨.bl b,H,I.tok tk,rfl,bh _ H _ S .refl sr .bl q⟩
   cases sr a _ ea with
   |exk eh =>
    obtain ⟨oe,g0,hc,hd,vs,dv,_⟩:=(show aN X.prog X.w H s.heap a (exH C a) from I.hok a _ eh).1
    exact PySem.W.kia_one (qL (od:=none) (ox:=oe) (hG C g)) I.kIn ⟨g0,hc,by unfold PySem.W.notCls;rw [dv],by rw [hd];trivial⟩ ek (λz=>nomatch z) fin
theorem bJ {G:Addr->Prop}{S:Sto}{Q:T->Sto->Prop}{a C:Addr}{y:T}{c:Value}{b:Bool}(h1:S a=some (.exk C)) (h2:G C) (h3:wK y=some c) (h4:PySem.W.kitOne K (.ref C) c=some b) (h:Q (.bl b) S):wL K G [.ref a,y] S Q:=⟨a,C,y,c,b,rfl,h1,h2,h3,h4,h⟩
theorem D6 {C:Addr}(hg:Gl X x) (hm:X.mg x=some (.ref C)) (hdb:(x==("__debug__":Str))=false:=by decide):PE X (.Name x p) (λ_ H Q=>Q (.ref C) H):=by
 intro pins s σ H Q I h
 exact eg I hg hm ⟨.ref C,H,I,rfl,h⟩ hdb
def wM (C:Addr):WE:=λ_ S Q=>Q (.ref C) S
theorem dj {C:Addr}(hg:Gl X x) (hm:X.mg x=some (.ref C)) (hdb:(x==("__debug__":Str))=false:=by decide):QE K X (.Name x p) (wM C) :=
 PE.of (D6 hg hm hdb) λσ H Q zz114=>by obtain ⟨S,σt,Qt,s,c,q,hq⟩:=zz114;exact hq _ H _ S .refl s .ref q
theorem GB {C:Addr}{σ:StT}{S:Sto}{Q:T->Sto->Prop}(h:Q (.ref C) S):wM C σ S Q:=h
end
end T2
namespace L2
open PySem PySem.Spec PyProof.Rows
theorem D7 {X:Cx}{tg e:Expr}{r:TR}{pos:Pos}(h:PRE X e r) (hs:swapsWithSole [tg] e pos.line X.env=pure false:=by rfl) (hw:swappedStores [tg] e X.env=pure none:=by rfl):PR X (.Assign [tg] e pos) r :=
 λpins s σ H R I q=>wpAny_Assign_stores (wpAny_mono (h pins s σ H R I q) (λ_ _ z=>z.elim) λ_ _ z=>z) hs hw
end L2
namespace T2
open PySem PySem.Spec PyProof.Rows L2
theorem D8 {K:Fg}{X:Cx}{tg e:Expr}{r:WR}{pos:Pos}(h:QRE K X e r) (hs:swapsWithSole [tg] e pos.line X.env=pure false:=by rfl) (hw:swappedStores [tg] e X.env=pure none:=by rfl):QR K X (.Assign [tg] e pos) r:=D7 h hs hw
def shN:Option Int->Str
 |none=>Str.ofString "None"
 |some i=>Str.ofString (toString i)
def noI:Option Int->T
 |none=>.non
 |some i=>.int i
def t9:GC:=λts S Q=>∃ o:Option Int,ts=[noI o]/\(∀ i,o=some i->i.natAbs.log2<1920)/\Q (.str (shN o)) S
theorem r9 {K:Fg}{X:Cx}(hK:X.K=K):aX X (.builtin "repr") (lC K t9):=by
 subst hK
 rintro pins s σ H xs us Q I r ⟨S,ts,Qt,sr,rs,⟨o,e,hl,q⟩,b⟩
 subst e
 cases o with
 |none =>
  cases rs with
  |cons h rn =>
   cases rn
   obtain ⟨u,rfl,ru⟩:=bg r
   cases h
   obtain rfl:=(show u=Value.none from ru)
   exact P.repr_of_none ⟨.str _,H,I.tok _,⟨_,rfl⟩,b _ H _ S .refl sr .str q⟩
 |some i =>
  cases rs with
  |cons h rn =>
   cases rn
   obtain ⟨u,rfl,ru⟩:=bg r
   cases h
   obtain ⟨t,rfl⟩:=(show ∃ t,u=Value.int i t from ru)
   exact P.repr_of_int (hl i rfl) ⟨.str _,H,I.tok _,⟨_,rfl⟩,b _ H _ S .refl sr .str q⟩
theorem sd {S:Sto}{Q:T->Sto->Prop}(o:Option Int) (h:∀ i,o=some i->i.natAbs.log2<1920) (hq:Q (.str (shN o)) S):t9 [noI o] S Q:=⟨o,rfl,h,hq⟩
section
variable {K:Fg}{X:Cx}
theorem se {H:Hp}{S:Sto}:∀ {ys:List Addr}{vs:List V},Rps K H S (ys.map T.ref) vs->vs=ys.map V.ref
 |[],_,.nil=>rfl
 |_::_,_,.cons .ref r=>by rw [se r];rfl
theorem p6:∀ {ys:List Addr}{us:List Value},al (ys.map V.ref) us->us=ys.map Value.ref
 |[],_,.nil=>rfl
 |y::_,_,.cons h r=>by rw [p6 r,show _=Value.ref y from h];rfl
def vA (K:Fg) (G:Addr->Prop):GC:=λts S Q=>∃ (a C:Addr) (ys:List Addr) (b:Bool),ts=[.ref a,.tup (ys.map T.ref)]/\S a=some (.exk C)/\G C/\PySem.W.kitAny K (.ref C) (ys.map Value.ref)=some b/\Q (.bl b) S
theorem D9 {G:Addr->Prop}(hK:X.K=K) (hG:∀ C,G C->XC K C):aX X (.builtin "isinstance") (lC K (vA K G)):=by
 subst hK
 rintro pins s σ H xs us Q I r ⟨S,ts,Qt,sr,rs,hg,bh⟩
 obtain ⟨a,C,ys,b,rfl,ea,g,ek,q⟩:=hg
 cases rs with
 |cons r1 l =>
  cases l with
  |cons r2 l2 =>
   cases l2
   cases r1
   cases r2 with
   |tup hn hp rr =>
    obtain ⟨u1,u2,rfl,rr1,rr2⟩:=eI r
    obtain rfl:u1=Value.ref a:=rr1
    cases rr2
    obtain ⟨its,rv,ht,hz⟩:=I.tuple (SqT.of hp)
    rw [se rr] at rv
    obtain rfl:=p6 rv
    obtain ⟨⟨oc,dd,od,sl⟩,htp,hc,n,hd⟩:=ht
    simp only at hc hd
    subst hc hd
    have fin:∀ tk,EP X pins σ Q (.bool b) { s with toks:=tk }:=λtk=>⟨.bl b,H,I.tok tk,rfl,bh _ H _ S .refl sr .bl q⟩
    cases sr a _ ea with
    |exk eh =>
     obtain ⟨oe,g0,hc,hd,vs,dv,_⟩:=(show aN X.prog X.w H s.heap a (exH C a) from I.hok a _ eh).1
     exact PySem.W.kia_tup (qL (od:=none) (ox:=oe) (hG C g)) I.kIn ⟨g0,hc,by unfold PySem.W.notCls;rw [dv],by rw [hd];trivial⟩ htp ek (λz=>nomatch z) fin
theorem io {G:Addr->Prop}{S:Sto}{Q:T->Sto->Prop}{a C:Addr}{ys:List Addr}{b:Bool}(h1:S a=some (.exk C)) (h2:G C) (h4:PySem.W.kitAny K (.ref C) (ys.map Value.ref)=some b) (h:Q (.bl b) S):vA K G [.ref a,.tup (ys.map T.ref)] S Q:=⟨a,C,ys,b,rfl,h1,h2,h4,h⟩
end
section
variable {K:Fg}{X:Cx}{k:Nat}{f C:Addr}{fd:FuncData}{ps:List Str}{wsp:WSp}{wsr:cx}{x m fl:Str}{p pos apos cpos pos':Pos}{e o value:Expr}{es:List Expr}{wa wv:WE}{wr:WA}{G:Addr->Prop}{i:Int}{tk:Tok}
theorem Bv {pl:Sem Bool}(hG:∀ C,G C->Cls X.K C/\Meth X.K C m f) (F:FnOk X.prog X.w X.K X.mg X.base CX0 k f fd ps (lSp K wsp)) (hb:ay X.K fd ps [.int i tk]) (hr:Room k X.A) (ho:QE K X o wa) (ha:QA K X (e::es) wr)
  (hst:starEach (e::es) X.env=(false,eval e X.env)::starEach es X.env:=by rfl) (hpl:(backTo pos (starEach es X.env)).any (·.1)=false:=by rfl)
  (ht:eval (.Call (.Attribute o m apos) (e::es) [] pos) X.env=(do
   let ov <- eval o X.env
   standAt apos.atName
   let (f,first) <- holding [ov] (getMethod ov m pl)
   callWith pos f first (backTo pos (starEach (e::es) X.env)) (backToKw pos (keywordEach [] X.env))):=by rfl) :
  QE K X (.Call (.Attribute o m apos) (e::es) [] pos) (dI G m wsp [.int i] wa wr):=tf (dvs:=[.int i]) (λ_ _=>.cons .int .nil) (qo (pl:=pl) ho hG F hr hb (.cons ⟨tk,rfl⟩ .nil) iz ha hst hpl ht)
def sf (G:Addr->Prop) (m:Str) (i:Int) (wsp:cx) (wa:WE) (wr:WA):WR:=λσ S R=>wa σ S λx S1=>∃ a C fs,x=.ref a/\S1 a=some (.ins C fs)/\G C/\fs.lookup m=none/\wr σ S1 λts S2=>wsp (x::(ts++[.int i])) S2 λC S'=>R C σ S'
theorem zK {pl:Sem Bool}(hG:∀ C,G C->Cls X.K C/\Meth X.K C m f) (F:FnOk X.prog X.w X.K X.mg X.base (CX1 X.prog X.w) k f fd ps (bE K wsr)) (hb:ay X.K fd ps [.int i tk]) (hr:Room k X.A) (ho:QE K X.nox o wa) (ha:QA K X.nox (e::es) wr)
  (hst:starEach (e::es) X.env=(false,eval e X.env)::starEach es X.env:=by rfl) (hpl:(backTo pos (starEach es X.env)).any (·.1)=false:=by rfl)
  (ht:eval (.Call (.Attribute o m apos) (e::es) [] pos) X.env=(do
   let ov <- eval o X.env
   standAt apos.atName
   let (f,first) <- holding [ov] (getMethod ov m pl)
   callWith pos f first (backTo pos (starEach (e::es) X.env)) (backToKw pos (keywordEach [] X.env))):=by rfl) :
  QRE K X (.Call (.Attribute o m apos) (e::es) [] pos) (sf G m i wsr wa wr):=PRE.of (qI (pl:=pl) (dvs:=[.int i]) ho hG F hr hb (.cons ⟨tk,rfl⟩ .nil) ha hst hpl ht) λσ H R h=>by
 obtain ⟨S,σt,Rt,s,c,q,hq⟩:=h
 refine ⟨S,σt,_,s,c,q,λx H1 tx S1 f1 s1 r1 q1=>?_⟩
 obtain ⟨a,C,fs,rfl,ea,g,l,q1⟩:=q1
 cases r1
 cases s1 a _ ea with
 |ins eh pr =>
  refine ⟨a,C,_,_,rfl,eh,g,b7 pr l,S1,σt,_,s1,c.fr f1,q1,λvs H2 ts S2 f2 s2 r2 q2=>?_⟩
  exact ⟨S2,_,_,s2,.cons .ref (r2.append (.cons .int .nil)),q2,λC H' S' f s' q'=>⟨C,rfl,hq C σ H' σt S' ((f1.trans f2).trans f) s' (c.fr ((f1.trans f2).trans f)) q'⟩⟩
theorem Bw {σ:StT}{S:Sto}{R:WX}(h:wa σ S λx S1=>∃ a C fs,x=.ref a/\S1 a=some (.ins C fs)/\G C/\fs.lookup m=none/\wr σ S1 λts S2=>wsr (x::(ts++[.int i])) S2 λC S'=>R C σ S'):sf G m i wsr wa wr σ S R:=h
end
end T2
namespace L2
open PySem PySem.Spec PyProof.Rows
section
variable {X:Cx}{pos p2 p3:Pos}{value:Expr}{tv:TE}{s2:Str}{k3:Nat}
structure Tng (d:PyData):Prop where
 sh:PyData.showable d=true
 nd:PyData.hasDict d=false
 dp:PyData.depth d<=60
 sz:(PyData.shown d).length<=10002
theorem Bx {pins:List (Addr×Obj)}{σ:St}{H:Hp}{s:Shared}{v:V}{u:Value}{A:Around}{E:Value->Shared->Prop}{d:PyData}{Q:Value->Shared->Prop}(hg:A.guards=some []) (hu:A.units+64<cLine) (I:Inv X pins σ H s) (hd:DatV X.K H v d) (ru:aq v u) (t:Tng d)
  (h:∀ y t s',Str.length y<=10002->Inv X pins σ H s'->Q (.str y t) s'):wpAny (model X.prog X.w) A (pyReprObj u) Q E s:=by
 obtain ⟨as,ra⟩:=cF I hd ru
 have hsz:=t.sz
 have hdp:=t.dp
 have hz:(PyData.shown d).length<=sizeLine:=by rw [sizeLine_eq];omega
 cases hd with
 |non=>obtain rfl:=(show u=Value.none from ru);exact pyReprObj_none (h _ _ _ (by decide) (I.tok _))
 |bl b=>obtain rfl:=(show u=Value.bool b from ru);exact pyReprObj_bool (h _ _ _ (by cases b<;>decide) (I.tok _))
 |int i =>
  obtain ⟨t',rfl⟩:=(show ∃ t,u=Value.int i t from ru)
  exact pyReprObj_int (by have:=t.sh;simpa [PyData.showable] using this) (h _ _ _ hsz (I.tok _))
 |str z =>
  obtain ⟨t',rfl⟩:=(show ∃ t,u=Value.str z t from ru)
  exact pyReprObj_str (h _ _ _ hsz (I.tok _)) hz
 |lst hq hss =>
  obtain rfl:=(show u=Value.ref _ from ru)
  exact pyReprObj_of_reads ra t.sh (PyData.noDict_hsm t.nd) hg (by omega) (λ_ _ e=>e) (λh' u tk hk=>h _ _ _ hsz (I.kept (t':=tk) hk)) hz
 |tup hq hss =>
  obtain rfl:=(show u=Value.ref _ from ru)
  exact pyReprObj_of_reads ra t.sh (PyData.noDict_hsm t.nd) hg (by omega) (λ_ _ e=>e) (λh' u tk hk=>h _ _ _ hsz (I.kept (t':=tk) hk)) hz
def HF (K:PySem.W.Frag) (tv:TE):TE:=λσ H Q=>tv σ H λx H1=>(∃ d,DatV K H1 x d/\Tng d)/\∀ y,Q (.str y) H1
theorem D' (hg:X.A.guards=some []) (hu:X.A.units+64<cLine) (hv:PE X value tv) (h2:s2.length<=1000):PE X (.JoinedStr [.FormattedValue value 114 none p2,.Constant (.str s2) k3 p3] pos) (HF X.K tv):=by
 intro pins s σ H Q I h
 refine JoinedStr_many (joinParts_cons ?_)
 show wpAny (model X.prog X.w) X.A (do let v <- eval value X.env;standAt p2;formatted p2 (<- holding [v] (converted 114 v)) none) _ _ s
 refine wpAny_bind (thn (hv pins s σ H _ I h) λu sa zz115=>?_)
 obtain ⟨x,H1,I1,rx,⟨d,hd,ht⟩,q⟩:=zz115
 refine wpAny_bind (wpAny_standAt (wpAny_bind (wpAny_holding ?_)))
 show wpAny _ _ (pyReprObj u) _ _ _
 refine Bx hg hu I1 hd rx ht λz t1 sb hz I2=>formatField_str (λt' tk=>?_) (by rw [sizeLine_eq];omega)
 have l0:(Str.empty++z).length<=10002:=by rw [PySem.Str.length_append];exact (by simpa [Str.empty,PySem.Str.length] using hz)
 refine ⟨by rw [sizeLine_eq];omega,?_⟩
 refine joinParts_cons (thn (jJ pins _ σ H1 (λv H2=>v=.str s2/\H2=H1) (I2.tok _) ⟨rfl,rfl⟩) λu3 sc zz116=>?_)
 obtain ⟨v,H3,I3,ru3,ev,eH⟩:=zz116
 subst ev eH
 obtain ⟨t3,rfl⟩:=(show ∃ t,u3=Value.str s2 t from ru3)
 have lz:(Str.empty++z++s2).length<=sizeLine:=by rw [PySem.Str.length_append,sizeLine_eq];omega
 exact ⟨lz,joinParts_nil (show EP X pins σ Q _ _ from ⟨.str (Str.empty++z++s2),_,I3.tok _,⟨_,rfl⟩,q _⟩) lz⟩
end
end L2
namespace T2
open PySem PySem.Spec PyProof.Rows L2
section
variable {K:Fg}{X:Cx}{pos p2 p3:Pos}{value:Expr}{wv:WE}{s2:Str}{k3:Nat}
def wN (wv:WE):WE:=λσ S Q=>wv σ S λx S1=>(∃ d,a7 S1 x=some d/\Tng d)/\∀ y,Q (.str y) S1
theorem nv (hK:X.K=K) (hg:X.A.guards=some []) (hu:X.A.units+64<cLine) (hv:QE K X value wv) (h2:s2.length<=1000:=by decide):QE K X (.JoinedStr [.FormattedValue value 114 none p2,.Constant (.str s2) k3 p3] pos) (wN wv):=by
 subst hK
 exact PE.of (D' hg hu hv h2) λσ H Q zz117=>by
  obtain ⟨S,σt,Qt,s,c,q,hq⟩:=zz117
  refine ⟨S,σt,_,s,c,q,λx H1 tx S1 f1 s1 r1 q1=>?_⟩
  obtain ⟨⟨d,hd,ht⟩,q1⟩:=q1
  exact ⟨⟨d,dD s1 r1 hd,ht⟩,λy=>hq _ H1 _ S1 f1 s1 .str (q1 y)⟩
theorem GD {σ:StT}{S:Sto}{Q:T->Sto->Prop}(h:wv σ S λx S1=>(∃ d,a7 S1 x=some d/\Tng d)/\∀ y,Q (.str y) S1):wN wv σ S Q:=h
end
section
variable {K:Fg}{X:Cx}
def vB:G2:=λx y S Q=>∃ dx D,a7 S x=some dx/\a7 S y=some (.list D)/\PyData.canLayAll0 D=true/\dx.canLay0=true/\PyData.depthAll D<=60/\Q (.bl (!D.any λy=>PyData.eqv y dx)) S
theorem Ea (hK:X.K=K) (hu:X.A.units+64<cLine):OpR X (compareOp .NotIn) (l2 K vB):=by
 subst hK
 rintro pins s σ H x y v u Q I rx ry ⟨S,tx,ty,Qt,sr,hx,hy,⟨dx,D,e1,e2,c1,c2,hd,q⟩,b⟩
 obtain ⟨as,ra⟩:=cF I (dD sr hx e1) rx
 obtain ⟨bs,rb⟩:=cF I (dD sr hy e2) ry
 exact PySem.SeqAt.notIn_list_reads rb ra c1 c2 (by have:=Nat.min_le_left (PyData.depthAll D) dx.depth;omega) ⟨.bl _,H,I,rfl,b _ H _ S .refl sr .bl q⟩
theorem Eb {S:Sto}{Q:T->Sto->Prop}{x y:T}{dx:PyData}{D:List PyData}(e1:a7 S x=some dx) (e2:a7 S y=some (.list D)) (c1:PyData.canLayAll0 D=true) (c2:dx.canLay0=true) (hd:PyData.depthAll D<=60) (h:Q (.bl (!D.any λy=>PyData.eqv y dx)) S):vB x y S Q:=⟨dx,D,e1,e2,c1,c2,hd,h⟩
structure IsO (K:Fg) (C:Addr):Prop where
 pg:PySem.W.plainGet K C "__class__"=true
 hd:PySem.W.hasDictIn K C=true
 fi:PySem.W.findIn K (.ref C) "__class__"=some (some (.builtin "object.__class__"))
 sp:PySem.W.specialIn K (.builtin "object.__class__") "__get__"=some (some (.builtin "getset_descriptor.__get__"))
 tk:PySem.W.takesIn K (.builtin "object.__class__")=some true
 mr:PySem.W.mroIn K C (.type "object")=some true
def HG (K:Fg) (C:Addr):GC:=λts S Q=>∃ a fs D b,ts=[.ref a,.ref D]/\S a=some (.ins C fs)/\PySem.W.kitOne K (.ref C) (.ref D)=some b/\Q (.bl b) S
theorem GE {C:Addr}(hK:X.K=K) (hC:IsO K C):aX X (.builtin "isinstance") (lC K (HG K C)):=by
 subst hK
 rintro pins s σ H xs us Q I r ⟨S,ts,Qt,sr,rs,hg,bh⟩
 obtain ⟨a,fs,D,b,rfl,ea,ek,q⟩:=hg
 cases rs with
 |cons r1 l =>
  cases l with
  |cons r2 l2 =>
   cases l2
   cases r1
   cases r2
   obtain ⟨u1,u2,rfl,rr1,rr2⟩:=eI r
   obtain rfl:u1=Value.ref a:=rr1
   obtain rfl:u2=Value.ref D:=rr2
   have fin:∀ tk,EP X pins σ Q (.bool b) { s with toks:=tk }:=λtk=>⟨.bl b,H,I.tok tk,rfl,bh _ H _ S .refl sr .bl q⟩
   obtain ⟨dx,vs,eh,_⟩:=(sr a _ ea).iins
   obtain ⟨mA,hO,_⟩:=gY I.hok eh
   obtain ⟨od,hI,_⟩:=hO.look
   exact PySem.W.kia_one (PySem.W.kitx_own (od:=od) hC.pg hC.hd hC.fi hC.sp hC.tk hC.mr) I.kIn hI ek (λz=>nomatch z) fin
end
end T2
namespace As
open PySem T2
variable {α β:Type}
def kt (f:α->T) (l:List (Str×α)):List (L2.Key×T):=l.map λa=>(Sum.inr a.1,f a.2)
def look (l:List (Str×α)) (z:Str):Option α:=(l.find? λa=>decide (a.1=z)).map (·.2)
def pu (l:List (Str×α)) (z:Str) (x:α):List (Str×α):=if (l.any λa=>decide (a.1=z))=true then l.map (λa=>if a.1=z then (a.1,x) else a) else l++[(z,x)]
def dr (l:List (Str×α)) (z:Str):List (Str×α):=l.filter λa=>decide (a.1≠z)
theorem bW (f:α->T) (z:Str):∀ l:List (Str×α),aR (kt f l) (Sum.inr z)=(look l z).map f
 |[]=>rfl
 |a::l=>by
  have ih:=bW f z l
  unfold aR kt look at *
  rw [List.map_cons,List.find?_cons,List.find?_cons]
  by_cases e:a.1=z
  ·simp [e]
  ·have e2:¬ (Sum.inr a.1:L2.Key)=Sum.inr z:=λq=>e (Sum.inr.inj q)
   simp only [e,e2,decide_false]
   exact ih
theorem ua (f:α->T) (z:Str):∀ l:List (Str×α),((kt f l).any λkv=>decide (kv.1=Sum.inr z))=l.any λa=>decide (a.1=z)
 |[]=>rfl
 |a::l=>by
  have ih:=ua f z l
  unfold kt at *
  rw [List.map_cons,List.any_cons,List.any_cons,ih]
  congr 1
  rw [Bool.eq_iff_iff]
  simp
theorem iq (f:α->T) (l:List (Str×α)) (z:Str) (x:α):di (kt f l) (Sum.inr z) (f x)=kt f (pu l z x):=by
 unfold di pu
 rw [ua]
 split
 ·unfold kt
  rw [List.map_map,List.map_map]
  refine List.map_congr_left λa _=>?_
  by_cases e:a.1=z
  ·simp [e]
  ·have e2:¬ (Sum.inr a.1:L2.Key)=Sum.inr z:=λq=>e (Sum.inr.inj q)
   simp [e]
 ·unfold kt;simp
theorem si (f:α->T) (l:List (Str×α)) (z:Str):gy (kt f l) (Sum.inr z)=kt f (dr l z):=by
 unfold gy dr kt
 rw [List.filter_map]
 congr 1
 refine List.filter_congr λa _=>?_
 rw [Bool.eq_iff_iff]
 simp
theorem qM (g:α->β) (z:Str):∀ l:List (Str×α),look (l.map λa=>(a.1,g a.2)) z=(look l z).map g
 |[]=>rfl
 |a::l=>by
  have ih:=qM g z l
  unfold look at *
  rw [List.map_cons,List.find?_cons,List.find?_cons]
  by_cases e:a.1=z
  ·simp [e]
  ·simp only [e,decide_false];exact ih
theorem d8 {l:List (Str×α)}{z:Str}{x:α}(h:look l z=some x):(z,x)∈l:=by
 unfold look at h
 rw [Option.map_eq_some_iff] at h
 obtain ⟨a,h1,h2⟩:=h
 have h3:=List.find?_some h1
 have h4:=List.mem_of_find?_eq_some h1
 simp only [decide_eq_true_eq] at h3
 rw [<- h3,<- h2];exact h4
theorem sj {l:List (Str×α)}(hn:(l.map (·.1)).Nodup){a:Str×α}(h:a∈l):look l a.1=some a.2:=by
 induction l with
 |nil=>cases h
 |cons b l ih =>
  rw [List.map_cons,List.nodup_cons] at hn
  unfold look
  rw [List.find?_cons]
  rcases List.mem_cons.mp h with rfl|h
  ·simp
  ·rw [decide_eq_false (λe=>hn.1 (by rw [e];exact List.mem_map_of_mem h))]
   exact ih hn.2 h
theorem b7 {l:List (Str×α)}{z:Str}:look l z=none ↔ z∉l.map (·.1):=by
 unfold look
 rw [Option.map_eq_none_iff,List.find?_eq_none]
 constructor
 ·intro h hm
  obtain ⟨a,ha,e⟩:=List.mem_map.mp hm
  exact h a ha (by simp [e])
 ·intro h a ha e
  exact h (by rw [<- of_decide_eq_true e];exact List.mem_map_of_mem ha)
theorem ir {l:List (Str×α)}{z:Str}(x:α) (h:z∉l.map (·.1)):pu l z x=l++[(z,x)]:=by
 unfold pu
 rw [if_neg]
 intro e
 rw [List.any_eq_true] at e
 obtain ⟨a,ha,e⟩:=e
 exact h (by rw [<- of_decide_eq_true e];exact List.mem_map_of_mem ha)
theorem sm {l:List (Str×α)}{z:Str}(x:α) (h:z∈l.map (·.1)):(pu l z x).map (·.1)=l.map (·.1):=by
 unfold pu
 rw [if_pos (by
  obtain ⟨a,ha,e⟩:=List.mem_map.mp h
  exact List.any_eq_true.mpr ⟨a,ha,by simp [e]⟩),List.map_map]
 refine List.map_congr_left λa _=>?_
 by_cases e:a.1=z<;>simp [e]
theorem By (l:List (Str×α)) (z:Str):(dr l z).map (·.1)=(l.map (·.1)).filter λy=>decide (y≠z):=by
 unfold dr
 rw [List.filter_map];rfl
theorem mP {l:List (Str×α)}{z:Str}{x:α}{a:Str×α}(h:a∈pu l z x):a∈l\/a=(z,x):=by
 unfold pu at h
 split at h
 ·obtain ⟨b,hb,e⟩:=List.mem_map.mp h
  by_cases q:b.1=z
  ·rw [if_pos q] at e;exact .inr (by rw [<- e,q])
  ·rw [if_neg q] at e;exact .inl (e ▸ hb)
 ·rcases List.mem_append.mp h with h|h
  ·exact .inl h
  ·exact .inr (List.mem_singleton.mp h)
theorem iw (f:α->T) (l:List (Str×α)):(kt f l).length=l.length:=by unfold kt;rw [List.length_map]
def wrt (m:Int×Int) (now:Int):Int:=m.1 / 2 ^ (now - m.2).toNat
def mkT (m:Int×Int):T:=.tup [.int m.1,.int m.2]
end As
set_option maxRecDepth 100000
seal T2.QE T2.QT T2.QW T2.QA T2.QS T2.QSs T2.QG T2.QGs T2.QI T2.QTs T2.QO L2.PE L2.PT L2.PA L2.PS L2.PSs L2.PG L2.PGs L2.PI L2.PTs L2.PO L2.PW
namespace My
open PySem L2 T2
set_option hygiene false
local macro_rules
 | `(tactic|nofun)=>`(tactic|exact ⟨rfl,rfl,rfl,by decide +kernel,rfl,by decide +kernel,by decide +kernel⟩)
local macro_rules
 | `(tactic|subst_eqs)=>`(tactic|simp only [Option.isSome_none,Option.isSome_some,Bool.true_xor,Bool.false_xor,Bool.not_false,Bool.not_true])
local macro_rules
 | `(tactic|and_intros)=>`(tactic|simp only [List.set_cons_zero,List.set_cons_succ])
local macro_rules
 |`(tactic| ac_nf)=>`(tactic| simp only [cI,List.map_cons,List.map_nil,List.length_cons,List.length_nil,List.replicate,List.cons_append,List.nil_append,Nat.zero_add,Nat.reduceAdd,Nat.reduceSub])
local macro_rules
 |`(tactic| ac_rfl)=>`(tactic| (first|(with_reducible assumption)|with_reducible exact au|exact (ak (by assumption)).trans (by assumption)|exact (ak (by assumption)).trans au|exact (ak (Ne.symm (by assumption))).trans au|exact (ak (Ne.symm (by assumption))).trans (by assumption)))
local macro_rules
 |`(tactic| infer_instance)=>`(tactic| (first|omega|(with_reducible assumption)|((with_reducible apply Int.emod_nonneg);omega)|((with_reducible apply Int.emod_lt_of_pos);omega)|(simp only [Int.reduceToNat,Int.reducePow];omega)|(simp only [PySem.Str.length_append];omega)|(simp only [List.length_range,List.length_map];omega)))
local macro_rules
 |`(tactic| contradiction)=>`(tactic| (first|(simp only [PySem.sizeLine_eq,PySem.Str.length_append,Tm.rO,Tm.d5,Tm.yt];omega)|(rw [PySem.sizeLine_eq];omega)|(rw [PySem.sizeLine_eq];decide)))
local macro_rules
 |`(tactic| bv_omega)=>`(tactic| (repeat (first
   |(with_reducible first|apply E5|apply C2|apply C3|apply E6|apply E7|apply E8|apply Hm|apply AX|apply C4|apply E9|apply i_C|apply i_2|apply i_B|apply Ho|apply AY|apply Fc|apply Hq|apply Ff|apply C5|apply C6|apply Fh|apply Fi|apply C7|apply Fj|apply Fl|apply C8|apply C9|apply Hr|apply Hs|apply Fm|apply Ht|apply Hu|apply Hv|apply Dc|apply De|apply Hw|apply Fn|apply Hx|apply Fo|apply Dg|apply Fv|apply Fy|apply Fz|apply FA|apply FB|apply FC|apply FD|apply FQ|apply ve|apply FH|apply Dm|apply FL|apply Do|apply zg|apply FN|apply FP|apply ifT|apply ifF|apply Hz|apply HA|apply Dj)
   |((with_reducible apply eN);((with_reducible assumption)))
   |((with_reducible apply Gk);(skip))
   |((with_reducible apply Ec);(skip))
   |((with_reducible apply ki);(ac_rfl;rfl;first|exact GF|exact GG|exact GH))
   |((with_reducible apply g_r0);(skip))
   |((with_reducible apply zL);(infer_instance;infer_instance;infer_instance))
   |((with_reducible apply Bz);(infer_instance;infer_instance;assumption;infer_instance;intro r f' hdw hr0 hr1 hfd))
   |((with_reducible apply BA);(infer_instance;infer_instance;ac_rfl;assumption;infer_instance;intro r f' hdw hr0 hr1 hfd))
   |((with_reducible apply F0);(skip))
   |((with_reducible apply FZ);(skip))
   |((with_reducible apply BB);(infer_instance;infer_instance;assumption;infer_instance;intro r o' hr0 hr1 hfd))
   |((with_reducible apply Ed);(infer_instance;infer_instance;ac_rfl;assumption;infer_instance;intro r o' hr0 hr1 hfd))
   |((with_reducible apply BC);((with_reducible assumption);infer_instance;assumption;(with_reducible assumption);infer_instance;ac_rfl;assumption;infer_instance;intro z o' hzw hfd))
   |((with_reducible apply BD);(infer_instance;assumption;assumption;infer_instance;intro z o' hzp hfd))
   |((with_reducible apply GI);(infer_instance;intro b hfit))
   |((with_reducible apply Ee);(infer_instance;intro fe o hp0 hf0))
   |((with_reducible apply j9);(rfl;first|exact T.ss|exact T.ll))
   |((with_reducible apply Ef);(infer_instance))
   |((with_reducible apply BE);(infer_instance))
   |((with_reducible apply zM);(infer_instance))
   |((with_reducible apply zN);(skip))
   |((with_reducible apply vw);(ac_rfl))
   |((with_reducible apply wF);(ac_rfl))
   |((with_reducible apply zv);(ac_rfl;(simp only [List.length_cons,List.length_nil];decide)))
   |((with_reducible apply Bl);(ac_rfl;rfl;rfl))
   |((with_reducible apply tZ);(ac_rfl;rfl;(simp only [List.length_cons,List.length_nil];decide)))
   |((with_reducible apply Gf);(ac_rfl;rfl;rfl))
   |((with_reducible apply DK);(ac_rfl;rfl;rfl))
   |((with_reducible apply GB);(skip))
   |((with_reducible apply Bs);(skip))
   |((with_reducible apply Bw);(skip))
   |((with_reducible apply DW);(skip))
   |((with_reducible apply wI);(skip))
   |((with_reducible apply t7);(skip))
   |((with_reducible apply GD);(skip))
   |((with_reducible apply Bm);(skip))
   |((with_reducible apply Gg);(skip))
   |((with_reducible apply HC);(skip))
   |((with_reducible apply HD);(skip))
   |((with_reducible apply DN);(skip))
   |((with_reducible apply Gi);(skip))
   |((with_reducible apply Gh);(skip))
   |((with_reducible apply Bk);(skip))
   |((with_reducible apply DL);(skip))
   |((with_reducible apply Ge);(skip))
   |((with_reducible apply DJ);(skip))
   |((with_reducible apply DI);(skip))
   |((with_reducible apply i_V);(rfl))
   |((with_reducible apply vd);(((try and_intros);rfl)))
   |((with_reducible apply Hn);(rfl))
   |((with_reducible apply nh);(rfl))
   |((with_reducible apply eN);(rfl))
   |((with_reducible apply FE);(ac_rfl;rfl))
   |((with_reducible apply AZ);(rfl;(simp only [List.length_cons,List.length_nil];decide);((try and_intros);rfl)))
   |((with_reducible apply Dl);(ac_rfl;rfl;(simp only [List.length_cons,List.length_nil];decide);((try and_intros);rfl)))
   |((with_reducible apply Fs);(infer_instance))
   |((with_reducible apply Fq);(infer_instance;infer_instance))
   |((with_reducible apply Ft);(decide;decide;decide))
   |((with_reducible apply Di);(first|exact .inl ⟨by first|omega|decide,by first|omega|decide⟩|exact .inr ⟨by first|omega|decide,by first|omega|decide⟩))
   |((with_reducible apply FI);(infer_instance;infer_instance;intro z hz ez))
   |((with_reducible apply Fu);(infer_instance))
   |((with_reducible apply Dh);(contradiction))
   |((with_reducible apply FG);(contradiction))
   |((with_reducible apply tF);(contradiction))
   |((with_reducible apply A3);(decide;infer_instance))
   |((with_reducible apply FR);(infer_instance;infer_instance))
   |((with_reducible apply Du);(ac_rfl))
   |((with_reducible apply A5);(ac_rfl))
   |((with_reducible apply Dk);(ac_rfl;infer_instance;infer_instance;intro z hz ez))
   |((with_reducible apply Dq);(contradiction;infer_instance;infer_instance;intro d hd ed))
   |((with_reducible apply FO);(ac_rfl))
   |((with_reducible apply A2);(ac_rfl))
   |((with_reducible apply FJ);(rfl;rfl))
   |((with_reducible apply Hy (n:=0));((first|decide|(simp only [List.length_cons,List.length_nil];decide)))))))
set_option hygiene true
open Rk S6 As
structure Zs where
 (N T A E B1 B2 B3 B4 B5 W P:Addr)
abbrev vv0:List Str:=["_law_feed_here","_law_many"]
abbrev vv1:List Str:=["self","word"]
abbrev vv2:List Str:=["self","beginning","many"]
abbrev vv3:List Str:=["self","beginning"]
abbrev vv4:List Str:=["_law_feed_here","_law_wood","_law_model","_law_words_here"]
abbrev vv5:List Str:=["_law_one","_law_other","_law_feed_here","_law_words_here"]
abbrev vv6:List Str:=["self","word","times"]
abbrev vv7:List Str:=["self","word","count"]
abbrev vv8:List Str:=["_law_feed_here","_law_words_here","_law_letters"]
abbrev vv9:List Str:=["mark","era"]
abbrev aZ:List Str:=["self"]
abbrev dY:List Str:=["last","text","rated"]
abbrev kJ:List Str:=["_law_way","_law_wood","_law_word_here"]
abbrev iR:List Str:=["_law_word_here","_law_branch"]
abbrev kK:List Str:=["_law_wood","_law_text","_law_many"]
abbrev kL:List Str:=["_law_feed_here","_law_words_here"]
abbrev vv16:List Str:=["_law_word_here","_law_worth","_law_branch"]
abbrev kM:List Str:=["_law_feed_here","_law_letters"]
abbrev gJ:List Str:=["mark","era","times"]
abbrev kN:List Str:=["_law_count_here","_law_times"]
abbrev eT:List Str:=["one","other"]
abbrev vv21:List Str:=["word","mark","self","beginning"]
abbrev gK:List Str:=["text","rated"]
abbrev gL:List Str:=["_law_script"]
abbrev iS:List Str:=["_law_feed_here"]
abbrev vv25:List Str:=["word","mark","beginning"]
abbrev iT:List Str:=["self","times"]
abbrev iU:List Str:=["rated","many"]
structure Txt (K:PySem.W.Frag) (mg:Str->Option Value) (C:Addr) (Z:Zs):Prop where
 len:mg "len"=none
 range:mg "range"=none
 all:mg "all"=none
 max:mg "max"=none
 min:mg "min"=none
 sorted:mg "sorted"=none
 isinstance:mg "isinstance"=none
 str:mg "str"=none
 list:mg "list"=none
 repr:mg "repr"=none
 int:mg "int"=none
 bool:mg "bool"=none
 ss:PySem.W.kitOne K (.type "str") (.type "str")=some true
 bb:PySem.W.kitOne K (.type "bool") (.type "bool")=some true
 ns:PySem.W.kitOne K (.type "NoneType") (.type "str")=some false
 bs:PySem.W.kitOne K (.type "bool") (.type "str")=some false
 is:PySem.W.kitOne K (.type "int") (.type "str")=some false
 ls:PySem.W.kitOne K (.type "list") (.type "str")=some false
 ts:PySem.W.kitOne K (.type "tuple") (.type "str")=some false
 c_MOST_SIGNS:∃ tk,mg "MOST_SIGNS"=some (.int 24 tk)
 c_MOST_PARTS:∃ tk,mg "MOST_PARTS"=some (.int 4 tk)
 c_MOST_LETTERS:∃ tk,mg "MOST_LETTERS"=some (.int 12 tk)
 mg_NoWord:mg "NoWord"=some (.ref Z.N)
 mg_Twice:mg "Twice"=some (.ref Z.T)
 mg_Absent:mg "Absent"=some (.ref Z.A)
 mg_AheadError:mg "AheadError"=some (.ref Z.E)
 mg_Beside:mg "Beside"=some (.ref Z.B1)
 mg_NoChoice:mg "NoChoice"=some (.ref Z.B2)
 mg_NoRow:mg "NoRow"=some (.ref Z.B3)
 mg_NoSign:mg "NoSign"=some (.ref Z.B4)
 mg_NoText:mg "NoText"=some (.ref Z.B5)
 x_NoWord:b8 K Z.N none=true
 k_NoWord:PySem.W.keepIn K (.ref Z.N)=true
 c_NoWord:dO K Z.N=true
 e_NoWord:PySem.W.exmOne K (.ref Z.N) (.ref Z.E)=some true
 x_Twice:b8 K Z.T none=true
 k_Twice:PySem.W.keepIn K (.ref Z.T)=true
 c_Twice:dO K Z.T=true
 e_Twice:PySem.W.exmOne K (.ref Z.T) (.ref Z.E)=some true
 x_Absent:b8 K Z.A none=true
 k_Absent:PySem.W.keepIn K (.ref Z.A)=true
 c_Absent:dO K Z.A=true
 e_Absent:PySem.W.exmOne K (.ref Z.A) (.ref Z.E)=some true
 knn:PySem.W.kitOne K (.ref Z.N) (.ref Z.N)=some true
 knt:PySem.W.kitOne K (.ref Z.N) (.ref Z.T)=some false
 kna:PySem.W.kitOne K (.ref Z.N) (.ref Z.A)=some false
 ktn:PySem.W.kitOne K (.ref Z.T) (.ref Z.N)=some false
 ktt:PySem.W.kitOne K (.ref Z.T) (.ref Z.T)=some true
 kta:PySem.W.kitOne K (.ref Z.T) (.ref Z.A)=some false
 kan:PySem.W.kitOne K (.ref Z.A) (.ref Z.N)=some false
 kat:PySem.W.kitOne K (.ref Z.A) (.ref Z.T)=some false
 kaa:PySem.W.kitOne K (.ref Z.A) (.ref Z.A)=some true
 on:PySem.W.kitAny K (.ref Z.N) (List.map Value.ref [Z.B1,Z.B2,Z.B3,Z.B4,Z.B5])=some false
 ot:PySem.W.kitAny K (.ref Z.T) (List.map Value.ref [Z.B1,Z.B2,Z.B3,Z.B4,Z.B5])=some false
 oa:PySem.W.kitAny K (.ref Z.A) (List.map Value.ref [Z.B1,Z.B2,Z.B3,Z.B4,Z.B5])=some false
 mg_Wood:mg "Wood"=some (.ref Z.W)
 mg_PartWood:mg "PartWood"=some (.ref Z.P)
 cl:Cls K C
 nm:bG K C "marks"
 nn:bG K C "now"
section
variable {P:Program}{w:World}{K:PySem.W.Frag}{mg:Str->Option Value}{base:Heap}{C:Addr}{Z:Zs}
theorem Txt.gm (T:Txt K mg C Z):∀ c,c=C->Cls K c/\bG K c "marks":=λc e=>by subst e;exact ⟨T.cl,T.nm⟩
theorem Txt.gn (T:Txt K mg C Z):∀ c,c=C->Cls K c/\bG K c "now":=λc e=>by subst e;exact ⟨T.cl,T.nn⟩
theorem Txt.gf (T:Txt K mg C Z){m:Str}{f:Addr}(h:Meth K C m f):∀ c,c=C->Cls K c/\Meth K c m f:=λc e=>by subst e;exact ⟨T.cl,h⟩
def GX (Z:Zs) (c:Addr):Prop:=c=Z.N\/c=Z.T\/c=Z.A
theorem Txt.gx (T:Txt K mg C Z):∀ c,GX Z c->XC K c:=λc e=>by
 rcases e with rfl|rfl|rfl
 ·exact .of T.c_NoWord
 ·exact .of T.c_Twice
 ·exact .of T.c_Absent
def Fd (n:Int) (o:O):Prop:=∃ (cells:List Int) (i x k:Int),o=.lst [.lst (cells.map T.int),.int i,.int x,.int k]/\0<=i/\0<=k/\k<=n/\cells≠[]
theorem Fd.mono {n m:Int}{o:O}(h:Fd n o) (l:n<=m):Fd m o:=by
 obtain ⟨c,i,x,k,e,h1,h2,h3,h4⟩:=h
 exact ⟨c,i,x,k,e,h1,h2,by omega,h4⟩
def db:WSp:=λts S Q=>∃ p m n o,ts=[.ref p,.int m]/\0<m/\m<18446744073709551616/\S p=some o/\Fd n o/\n<1000000000/\∀ r o',0<=r->r<m->Fd (n+1) o'->Q (.int r) (put S p o')
theorem Ed {S:Sto}{Q:T->Sto->Prop}{p:Addr}{m n:Int}{o:O}(h1:0<m) (h2:m<18446744073709551616) (e:S p=some o) (f:Fd n o) (hn:n<1000000000) (h:∀ r o',0<=r->r<m->Fd (n+1) o'->Q (.int r) (put S p o')) :
  db ([.ref p,.int m]++[]) S Q:=⟨p,m,n,o,rfl,h1,h2,e,f,hn,h⟩
theorem BB {S:Sto}{Q:T->Sto->Prop}{p:Addr}{m n:Int}{o:O}(h1:0<m) (h2:m<18446744073709551616) (f:Fd n o) (hn:n<1000000000) (h:∀ r o',0<=r->r<m->Fd (n+1) o'->Q (.int r) (put S p o')) :
  db ([.ref p,.int m]++[]) (put S p o) Q:=⟨p,m,n,o,rfl,h1,h2,au,f,hn,λr o' a b c=>by rw [bD];exact h r o' a b c⟩
structure Fe where
 cs:List Int
 (i x k:Int)
def fo (f:Fe):O:=.lst [.lst (f.cs.map T2.T.int),.int f.i,.int f.x,.int f.k]
def Fk (n:Int) (f:Fe):Prop:=0<=f.i/\0<=f.k/\f.k<=n/\f.cs≠[]
theorem Fk.fd {n:Int}{f:Fe}(h:Fk n f):Fd n (fo f):=⟨f.cs,f.i,f.x,f.k,rfl,h⟩
theorem Fk.mono {n m:Int}{f:Fe}(h:Fk n f) (l:n<=m):Fk m f:=⟨h.1,h.2.1,by have:=h.2.2.1;omega,h.2.2.2⟩
theorem Fd.fe {n:Int}{o:O}(h:Fd n o):∃ f,o=fo f/\Fk n f:=by
 obtain ⟨c,i,x,k,rfl,h⟩:=h
 exact ⟨⟨c,i,x,k⟩,rfl,h⟩
def sk (cs:List Int):Nat->Int->Int->Int×Int
 |0,i,x=>(i,x)
 |j+1,i,x=>if (atI cs 0).getD 0 % 2=1/\(x=0\/x=-1)/\i+1<cs.length then sk cs j (i+1) ((atI cs (i+1)).getD 0) else (i,x)
theorem kj {x:Int}:([T2.T.int 0,T2.T.int (-1)].any λy=>eqF y (T2.T.int x))=true ↔ (x=0\/x=-1):=by
 have e:∀ a:Int,eqF (.int a) (.int x)=decide (a=x):=λ_=>rfl
 simp only [List.any_cons,List.any_nil,e,Bool.or_false,Bool.or_eq_true,decide_eq_true_eq]
 exact ⟨λh=>h.imp Eq.symm Eq.symm,λh=>h.imp Eq.symm Eq.symm⟩
theorem mf {cs:List Int}{i x:Int}(h:¬ ((atI cs 0).getD 0 % 2=1/\(x=0\/x=-1)/\i+1<cs.length)):∀ j,sk cs j i x=(i,x)
 |0=>rfl
 |j+1=>by rw [sk,if_neg h]
def mix (cs:List Int) (k:Int):Int:=((((atI cs (k % cs.length)).getD 0 % 10 ^ 12 * 48271+31 * k * k+7) % 1000003) * 69621+k) % 999983 * 40692 % 2147483399 % 999961
def dw (f:Fe) (m:Int):Int×Fe :=
 let p:=sk f.cs (f.cs.length - f.i.toNat) f.i f.x
 if p.2=0\/p.2=-1 then (mix f.cs (f.k+1) % m,⟨f.cs,p.1,p.2,f.k+1⟩) else (p.2 % m,⟨f.cs,p.1,p.2 / m,f.k+1⟩)
def fV:WSp:=λts S Q=>∃ p m n f,ts=[.ref p,.int m]/\0<m/\m<18446744073709551616/\S p=some (fo f)/\Fk n f/\n<1000000000/\∀ r f',dw f m=(r,f')->0<=r->r<m->Fk (n+1) f'->Q (.int r) (put S p (fo f'))
theorem BA {S:Sto}{Q:T->Sto->Prop}{p:Addr}{m n:Int}{f:Fe}(h1:0<m) (h2:m<18446744073709551616) (e:S p=some (fo f)) (hf:Fk n f) (hn:n<1000000000) (h:∀ r f',dw f m=(r,f')->0<=r->r<m->Fk (n+1) f'->Q (.int r) (put S p (fo f'))) :
  fV ([.ref p,.int m]++[]) S Q:=⟨p,m,n,f,rfl,h1,h2,e,hf,hn,h⟩
theorem Bz {S:Sto}{Q:T->Sto->Prop}{p:Addr}{m n:Int}{f:Fe}(h1:0<m) (h2:m<18446744073709551616) (hf:Fk n f) (hn:n<1000000000) (h:∀ r f',dw f m=(r,f')->0<=r->r<m->Fk (n+1) f'->Q (.int r) (put S p (fo f'))) :
  fV ([.ref p,.int m]++[]) (put S p (fo f)) Q:=⟨p,m,n,f,rfl,h1,h2,au,hf,hn,λr f' a b c d=>by rw [bD];exact h r f' a b c d⟩
theorem oZ:FnScope ["_law_feed_here","_law_many","_law_cells","_law_found","_law_at","_law_number"] vv0 (aj fI):=by nofun
theorem zO {f:Addr}{fd:FuncData}(F:Fun K "_law_draw" "_law_draw" fI f fd) (T:Txt K mg C Z):FnOk P w K mg base CX0 1 f fd vv0 (lSp K fV):=by
 refine aW F oZ (λts S Q h=>?_) λcdv A outer s H E hr=>?_
 ·obtain ⟨p,m,n,f,rfl,_⟩:=h;rfl
 have nd:=oZ.nd
 refine ⟨_,((am (aD (i:=2) nd rfl (Or.inl rfl) (az rfl (ac 0) ai (λ_ _=>rfl)))
   (am (df (λh g=>c7 h g) (aC (aT false) (az rfl (ac 0) ai (λ_ _=>rfl)) ai) (da (ac 0) ai (jP 3) (λh1 h2 h3=>c6 h1 h2 h3)))
   (am (rB PassesOwn.never (du (iE (aK (bu rfl hr.units) (aC cL (az rfl (ac 2) ai (λ_ _=>rfl)) ai) ai (aJ _)) (iE (aK (Hk rfl) (az rfl (ac 0) ai (λ_ _=>rfl)) (bz (af ai (af (iG ai) ag (ae rfl)) (ae rfl))) (by with_unfolding_all rfl)) (jN (aK wj (aC (aT false) (az rfl (ac 0) ai (λ_ _=>rfl)) ai) (aF (a9 rfl) (by rfl) T.len PySem.boot_len (af (ac 2) ag (ae rfl))) (aJ _))))))
    (am (df (λh g=>c7 h g) (aC (aT false) (az rfl (ac 0) ai (λ_ _=>rfl)) ai) (da (ac 0) ai (jP 1) (λh1 h2 h3=>c6 h1 h2 h3)))
   (ao (df (λh g=>c7 h g) (az rfl (ac 2) (az rfl (ac 0) ai (λ_ _=>rfl)) (λ_ _=>rfl)) (da (ac 0) ai (jP 2) (λh1 h2 h3=>c6 h1 h2 h3))))))
   (am (aQ (aK (rD rfl) (az rfl (ac 0) ai (λ_ _=>rfl)) (bz (af ai (af (iG ai) ag (ae rfl)) (ae rfl))) (by with_unfolding_all rfl))
    (am (aD (i:=3) nd rfl (Or.inl rfl) (aC cL (az rfl (ac 0) ai (λ_ _=>rfl)) (ac 1)))
   (am (df (λh g=>c7 h g) (aC m7 (az rfl (ac 0) ai (λ_ _=>rfl)) (ac 1)) (da (ac 0) ai (jP 2) (λh1 h2 h3=>c6 h1 h2 h3)))
   (ao (aE (ac 3)))))
    a8)
   (am (aD (i:=4) nd rfl (Or.inl rfl) (az rfl (ac 0) ai (λ_ _=>rfl)))
   (am (aD (i:=5) nd rfl (Or.inl rfl) (aC cL (aC (aT false) (aC (aT false) (aC (gw false) (aC cL (az rfl (ac 2) (aC cL (ac 4) (aF (a9 rfl) (by rfl) T.len PySem.boot_len (af (ac 2) ag (ae rfl)))) (λ_ _=>rfl)) (aC j7 ai ai)) ai) (aC (gw false) (aC (gw false) ai (ac 4)) (ac 4))) ai) ai))
   (ao (aE (aC cL (aC cL (aC cL (aC (gw false) (aC cL (aC (aT false) (aC (gw false) (ac 5) ai) (ac 4)) ai) ai) ai) ai) (ac 1))))))))))),λts S Q h=>?_⟩
 obtain ⟨p,m,n,⟨cells,i,x,k⟩,rfl,h1,h2,hp,⟨hi,hk,hkn,hne⟩,hn,hq⟩:=h
 dsimp only at hi hk hkn hne
 unfold fo at hp
 ac_nf
 bv_omega
 have hl:0<cells.length:=List.length_pos_iff.mpr hne
 refine pk (λσ' S'=>∃ i' x':Int,0<=i'/\σ'=[some (T2.T.ref p),some (T2.T.int m),some (T2.T.lst (List.map T2.T.int cells)),none,none,none]/\S'=put S p (O.lst [T2.T.lst (List.map T2.T.int cells),T2.T.int i',T2.T.int x',T2.T.int (k+1)])/\sk cells (cells.length - i'.toNat) i' x'=sk cells (cells.length - i.toNat) i x)
  (λσ' S'=>∃ i' x':Int,0<=i'/\σ'=[some (T2.T.ref p),some (T2.T.int m),some (T2.T.lst (List.map T2.T.int cells)),none,none,none]/\S'=put S p (O.lst [T2.T.lst (List.map T2.T.int cells),T2.T.int i',T2.T.int x',T2.T.int (k+1)])/\sk cells (cells.length - i.toNat) i x=(i',x'))
  (λσ' S'=>match S' p with|some (.lst [_,.int i,_,_])=>(cells.length - i).toNat|_=>0) ⟨i,x,hi,rfl,rfl,rfl⟩ ?_ ?_
 ·rintro σ' S' N X ⟨i',x',hi',rfl,rfl,he⟩ hN hX
  bv_omega
  have e0:(atI cells 0).getD 0=z:=by rw [ez];rfl
  refine ifB (λb1=>?_) λb1=>?_
  ·have c1:(atI cells 0).getD 0 % 2=1:=by rw [e0];simpa using b1
   bv_omega
   refine ifB (λb2=>?_) λb2=>?_
   ·have c2:x'=0\/x'=-1:=kj.mp (by rw [Bool.false_xor] at b2;exact b2)
    bv_omega
    refine ifB (λb3=>?_) λb3=>?_
    ·have b3:i'+1<cells.length:=of_decide_eq_true b3
     bv_omega
     refine hN _ _ ⟨_,_,?_,rfl,rfl,?_⟩ ?_
     ·omega
     ·rw [<- he,show cells.length - i'.toNat=(cells.length - (i'+1).toNat)+1 by omega,sk,if_pos ⟨c1,c2,b3⟩,ez];rfl
     ·simp only [au];omega
    ·exact hX _ _ ⟨i',x',hi',rfl,rfl,he.symm.trans (mf (λq=>by have:=of_decide_eq_false b3;omega) _)⟩
   ·exact ifF (hX _ _ ⟨i',x',hi',rfl,rfl,he.symm.trans (mf (λq=>by rw [Bool.false_xor,kj.mpr q.2.1] at b2;cases b2) _)⟩)
  ·exact ifF (hX _ _ ⟨i',x',hi',rfl,rfl,he.symm.trans (mf (λq=>by have:=q.1;rw [e0] at this;simp [this] at b1) _)⟩)
 ·rintro σ' S' ⟨i',x',hi',rfl,rfl,he⟩
  bv_omega
  refine ifB (λhb=>?_) λhb=>?_
  ·have hx:¬ (x'=0\/x'=-1):=λq=>by rw [kj.mpr q] at hb;cases hb
   bv_omega
   exact .mk (hq _ ⟨cells,i',x' / m,k+1⟩ (by unfold dw;dsimp only;rw [he];exact if_neg hx) (Int.emod_nonneg _ (by omega)) (Int.emod_lt_of_pos _ h1) ⟨hi',by dsimp only;omega,by dsimp only;omega,hne⟩)
  ·have hx:x'=0\/x'=-1:=kj.mp (by revert hb;cases ([T2.T.int 0,T2.T.int (-1)].any λy=>eqF y (T2.T.int x'))<;>simp)
   bv_omega
   refine .mk (hq _ ⟨cells,i',x',k+1⟩ (by unfold dw;dsimp only;rw [he];refine (if_pos hx).trans ?_;unfold mix;rw [ez];rfl) (Int.emod_nonneg _ (by omega)) (Int.emod_lt_of_pos _ h1) ⟨hi',by dsimp only;omega,by dsimp only;omega,hne⟩)
theorem BF {f:Addr}{fd:FuncData}(G:FnOk P w K mg base CX0 1 f fd vv0 (lSp K fV)):FnOk P w K mg base CX0 1 f fd vv0 (lSp K db):=T2.FnOk.weak G λts S Q h=>by
 obtain ⟨p,m,n,o,rfl,h1,h2,hp,hf,hn,hq⟩:=h
 obtain ⟨f,rfl,hk⟩:=hf.fe
 exact ⟨p,m,n,f,rfl,h1,h2,hp,hk,hn,λr f' _ a b c=>hq r _ a b c.fd⟩
def Lt (z:Str):Prop:=∀ c∈Tm.tl z,Sc.isL c=true
theorem Lt.of {a:Str}{d:Nat}(h:Lt a) (hd:d∈a.cps.toList):Sc.isL d=true:=h d hd
def mQ:WSp:=λts S Q=>∃ p a n o,ts=[.ref p,.str a]/\a.length=4/\Lt a/\S p=some o/\Fd n o/\n+13<1000000000/\∀ z o',Sc.isP (Tm.tl z)=true->Fd (n+13) o'->Q (.str z) (put S p o')
theorem BD {S:Sto}{Q:T->Sto->Prop}{p:Addr}{a:Str}{n:Int}{o:O}(h1:a.length=4) (h2:Lt a) (f:Fd n o) (hn:n+13<1000000000) (h:∀ z o',Sc.isP (Tm.tl z)=true->Fd (n+13) o'->Q (.str z) (put S p o')) :
  mQ ([.ref p,.str a]++[]) (put S p o) Q:=⟨p,a,n,o,rfl,h1,h2,au,f,hn,λz o' a b=>by rw [bD];exact h z o' a b⟩
theorem o0:FnScope ["_law_feed_here","_law_letters","_law_size"] kM (aj fJ):=by nofun
theorem BG {f f1:Addr}{fd fd1:FuncData}(F:Fun K "_law_part" "_law_part" fJ f fd) (T:Txt K mg C Z) (G__law_draw:FnOk P w K mg base CX0 1 f1 fd1 vv0 (lSp K db)) (D__law_draw:Df K mg "_law_draw" f1 fd1 vv0) :
  FnOk P w K mg base CX0 2 f fd kM (lSp K mQ):=by
 refine aW F o0 (λts S Q h=>?_) λcdv A outer s H E hr=>?_
 ·obtain ⟨p,m,n,o,rfl,_⟩:=h;rfl
 have nd:=o0.nd
 refine ⟨_,((am (aD (i:=2) nd rfl (Or.inl rfl) (az rfl (bn (af ai (af ai (af ai (af ai (af ai (af ai ag (ae rfl)) (ae rfl)) (ae rfl)) (ae rfl)) (ae rfl)) (ae rfl))) (ax G__law_draw D__law_draw hr.m (by rfl) (af (ac 0) (af ai ag (ae rfl)) (ae rfl))) (λ_ _=>rfl)))
   (ao (aE (bK rfl PySem.F.plainAttrs_str PySem.F.slot_str_join PySem.F.type_str_join (jO rfl) aM (af (c8 false ["_law_k","_law_letters","_law_feed_here"] 1 [1,0] rfl (gN (by rfl) T.range (ac 2)) (λ_ _ _ _=>(aS (i:=0) (show List.Nodup (["_law_k","_law_letters","_law_feed_here"]:List Str) from by decide +kernel) rfl (Or.inl rfl))) (λ_ _ _ _=>cZ) (λ_ _ _ _=>(az rfl (ac 1) (ax G__law_draw D__law_draw hr.m (by rfl) (af (ac 2) (af ai ag (ae rfl)) (ae rfl))) (λ_ _=>rfl)))) ag (ae rfl)) (λh1 h2 h3=>bI PySem.F.plainAttrs_str PySem.F.slot_str_join PySem.F.type_str_join h2 h1 h3)))))),λts S Q h=>?_⟩
 obtain ⟨p,a,n,o,rfl,ha,hAs,hp,hf,hn,hq⟩:=h
 ac_nf
 bv_omega
 refine eO (λt=>∃ z:Int,t=.int z/\1<=z/\z<=12) hr0 (by simpa using hr1) (by simp) ?_
 rintro _ ⟨z,rfl,hz1,hz2⟩
 bv_omega
 refine fP (λitems acc σ' S'=>∃ (zs:List Str) (u:Option T2.T) (o2:O),acc=zs.map T2.T.str/\(∀ y∈zs,∃ c,y=⟨#[c]⟩/\Sc.isL c=true)/\zs.length+items.length=z.toNat/\σ'=[u,some (.str a),some (.ref p)]/\S'=put S p o2/\Fd (n+1+zs.length) o2)
  ⟨[],none,o',rfl,by simp,by simp [bH],rfl,rfl,by simpa using hfd⟩ ?_ ?_
 ·rintro t ts acc σ' S' N ⟨zs,u,o2,rfl,hza,hl,rfl,rfl,hf2⟩ hN
  simp only [List.length_cons] at hl
  refine ⟨trivial,?_⟩
  bv_omega
  refine ⟨by rw [List.length_map,sizeLine_eq];omega,hN _ _ _ ⟨zs++[⟨#[d]⟩],_,_,by simp,?_,by simp;omega,rfl,rfl,?_⟩⟩
  ·intro y hy
   rcases List.mem_append.mp hy with h|h
   ·exact hza y h
   ·rw [List.mem_singleton.mp h];exact ⟨d,rfl,hAs.of hd⟩
  ·rw [List.length_append,List.length_singleton];exact hfd.mono (by omega)
 ·rintro acc σ' S' ⟨zs,u,o2,rfl,hza,hl,rfl,rfl,hf2⟩
  have hl2:zs.length=z.toNat:=by simpa using hl
  refine ⟨trivial,?_⟩
  bv_omega
  refine rK (Tm.jo zs) (Tm.jS (b:=1) (λy hy=>by obtain ⟨c,rfl,_⟩:=hza y hy;exact Nat.le_refl _) (by simp only [show (Str.ofString "").length=0 from rfl];omega)) ?_
  exact .mk (hq _ _ (Wm.ju hza (by omega) (by omega)) (hf2.mono (by omega)))
def ny:WSp:=λts S Q=>∃ a,ts=[.str a]/\a.length<=1000/\∀ b,(b=true->Wm.Fit a)->Q (.bl b) S
theorem GI {S:Sto}{Q:T->Sto->Prop}{a:Str}(h1:a.length<=1000) (h:∀ b,(b=true->Wm.Fit a)->Q (.bl b) S):ny ([.str a]++[]) S Q:=⟨a,rfl,h1,h⟩
theorem ow:FnScope ["_law_text","_law_parts"] ["_law_text"] (aj e9):=by nofun
theorem Eg {f:Addr}{fd:FuncData}(F:Fun K "_law_is_fit" "_law_is_fit" e9 f fd) (T:Txt K mg C Z):FnOk P w K mg base CX0 1 f fd ["_law_text"] (lSp K ny):=by
 refine aW F ow (λts S Q h=>?_) λcdv A outer s H E hr=>?_
 ·obtain ⟨a,rfl,_⟩:=h;rfl
 have nd:=ow.nd
 refine ⟨_,((am (aD (i:=1) nd rfl (Or.inl rfl) (bK rfl PySem.F.plainAttrs_str PySem.F.slot_str_split PySem.F.type_str_split (lW false) (ac 0) (af aM ag (ae rfl)) (λh1 h2 h3=>bI PySem.F.plainAttrs_str PySem.F.slot_str_split PySem.F.type_str_split h2 h1 h3)))
   (ao (aE (fZ (b9 dR (aF (a9 rfl) (by rfl) T.len PySem.boot_len (af (ac 0) ag (ae rfl))) ai (aJ _)) (fZ (b9 dR (aF (a9 rfl) (by rfl) T.len PySem.boot_len (af (ac 1) ag (ae rfl))) ai (aJ _)) (gv (b9 dR (aF (m9 rfl rfl) (by rfl) T.max PyProof.Rows.boot_max (af (c8 false ["_law_part_here"] 1 [] rfl (bV rfl (ac 1)) (λ_ _ _ _=>(aS (i:=0) (show List.Nodup (["_law_part_here"]:List Str) from by decide +kernel) rfl (Or.inl rfl))) (λ_ _ _ _=>cZ) (λ_ _ _ _=>(aF (a9 rfl) (by rfl) T.len PySem.boot_len (af (ac 0) ag (ae rfl))))) ag (ae rfl))) ai (aJ _))))))))),λts S Q h=>?_⟩
 obtain ⟨a,rfl,ha,hq⟩:=h
 ac_nf
 bv_omega
 refine ifB (λhb=>?_) λhb=>.mk (hq _ (by simp))
 have h24:a.length<=24:=by have:=of_decide_eq_true hb;omega
 bv_omega
 refine ifB (λh4=>?_) λhb=>.mk (hq _ (by simp))
 bv_omega
 refine d0 (ls:=Txt.split a " ") T2.T.str (λx=>some (.int x.length)) [] ?_ ?_ (λx hx u acc N hacc hN=>?_) ?_
 ·trivial
 ·have:=PyProof.Rows.split_le a " ";rw [sizeLine_eq];omega
 ·bv_omega
  have hxl:x.length<=a.length:=Tm.kZ hx
  refine tF (by rw [sizeLine_eq];omega) ⟨hacc,?_⟩
  exact hN _
 ·bv_omega
  refine mI (ns:=(Txt.split a " ").map λx:Str=>(x.length:Int)) (by rw [show (λx:Str=>some (T2.T.int x.length))=some ∘ (λx:Str=>T2.T.int x.length) from rfl,List.filterMap_eq_map,<- Tm.lj,List.map_map];rfl) (by simp [Tm.gS]) λm hm1 hm2=>?_
  bv_omega
  refine .mk (hq _ λhb12=>⟨h24,?_,λp hp=>?_⟩)
  ·have:=of_decide_eq_true h4;omega
  ·have h3:=of_decide_eq_true hb12
   have h5:=hm2 p.length (List.mem_map_of_mem (f:=λx:Str=>(x.length:Int)) hp)
   omega
def mR:WSp:=λts S Q=>∃ p q a n o,∃ ws:List Str,ts=[.ref p,.ref q,.str a]/\q≠p/\a.length=4/\Lt a/\S p=some o/\Fd n o/\n+60<1000000000/\S q=some (.lst (ws.map T.str))/\(∀ x∈ws,Wm.Wd x=true)/\ws.length<=1000 /\
 ∀ z o',Wm.Wd z=true->Fd (n+60) o'->Q (.str z) (put S p o')
theorem BC {S:Sto}{Q:T->Sto->Prop}{p q:Addr}{a:Str}{n:Int}{o:O}{ws:List Str}(hqp:q≠p) (h1:a.length=4) (h2:Lt a) (f:Fd n o) (hn:n+60<1000000000) (e:put S p o q=some (.lst (ws.map T.str))) (hws:∀ x∈ws,Wm.Wd x=true) (hwl:ws.length<=1000)
  (h:∀ z o',Wm.Wd z=true->Fd (n+60) o'->Q (.str z) (put S p o')):mR ([.ref p,.ref q,.str a]++[]) (put S p o) Q :=
 ⟨p,q,a,n,o,ws,rfl,hqp,h1,h2,au,f,hn,e,hws,hwl,λz o' a b=>by rw [bD];exact h z o' a b⟩
theorem su {y:Str}(h:Sc.isP (Tm.tl y)=true):y.length<=12:=by
 unfold Sc.isP at h
 simp only [Bool.and_eq_true,decide_eq_true_eq] at h
 rw [<- Tm.len];omega
theorem o3:FnScope ["_law_feed_here","_law_words_here","_law_letters","_law_more","_law_longer","_law_parts"] vv8 (aj fL):=by nofun
theorem BH {f f1 f2 f3:Addr}{fd fd1 fd2 fd3:FuncData}(F:Fun K "_law_word" "_law_word" fL f fd) (T:Txt K mg C Z) (G__law_draw:FnOk P w K mg base CX0 1 f1 fd1 vv0 (lSp K db)) (D__law_draw:Df K mg "_law_draw" f1 fd1 vv0)
  (G__law_part:FnOk P w K mg base CX0 2 f2 fd2 kM (lSp K mQ)) (D__law_part:Df K mg "_law_part" f2 fd2 kM)
  (G__law_is_fit:FnOk P w K mg base CX0 1 f3 fd3 ["_law_text"] (lSp K ny)) (D__law_is_fit:Df K mg "_law_is_fit" f3 fd3 ["_law_text"]) :
  FnOk P w K mg base CX0 3 f fd vv8 (lSp K mR):=by
 refine aW F o3 (λts S Q h=>?_) λcdv A outer s H E hr=>?_
 ·obtain ⟨p,q,m,n,o,ws,rfl,_⟩:=h;rfl
 have nd:=o3.nd
 refine ⟨_,((am (aQ (du (iE (aK kF (aF (a9 rfl) (by rfl) T.len PySem.boot_len (af (ac 1) ag (ae rfl))) ai (aJ _)) (jN (aK (bu rfl hr.units) (ax G__law_draw D__law_draw hr.m (by rfl) (af (ac 0) (af ai ag (ae rfl)) (ae rfl))) ai (aJ _)))))
    (am (aD (i:=3) nd rfl (Or.inl rfl) (az rfl (bn (af (az rfl (ac 2) ai (λ_ _=>rfl)) (af (az rfl (ac 2) ai (λ_ _=>rfl)) (af (aC (aT false) aM (az rfl (ac 2) ai (λ_ _=>rfl))) ag (ae rfl)) (ae rfl)) (ae rfl))) (ax G__law_draw D__law_draw hr.m (by rfl) (af (ac 0) (af ai ag (ae rfl)) (ae rfl))) (λ_ _=>rfl)))
   (am (aD (i:=4) nd rfl (Or.inl rfl) (aC (aT false) (az rfl (ac 1) (ax G__law_draw D__law_draw hr.m (by rfl) (af (ac 0) (af (aF (a9 rfl) (by rfl) T.len PySem.boot_len (af (ac 1) ag (ae rfl))) ag (ae rfl)) (ae rfl))) (λ_ _=>rfl)) (ac 3)))
   (ao (aQ (bN (ax G__law_is_fit D__law_is_fit hr.m (by rfl) (af (ac 4) ag (ae rfl))))
    (ao (aE (ac 4)))
    a8))))
    a8)
   (am (gO true (i:=5) ["_law_k","_law_feed_here","_law_letters"] 1 [0,2] rfl nd rfl (Or.inl rfl) (gN (by rfl) T.range (az rfl (bn (af ai (af ai (af ai (af ai (af ai ag (ae rfl)) (ae rfl)) (ae rfl)) (ae rfl)) (ae rfl))) (ax G__law_draw D__law_draw hr.m (by rfl) (af (ac 0) (af ai ag (ae rfl)) (ae rfl))) (λ_ _=>rfl))) (λ_ _ _ _=>(aS (i:=0) (show List.Nodup (["_law_k","_law_feed_here","_law_letters"]:List Str) from by decide +kernel) rfl (Or.inl rfl))) (λ_ _ _ _=>cZ) (λ_ _ _ _=>(ax G__law_part D__law_part hr.m (by rfl) (af (ac 1) (af (ac 2) ag (ae rfl)) (ae rfl)))))
   (am (rB PassesOwn.never (aK kF (aF (a9 rfl) (by rfl) T.len PySem.boot_len (af (bK rfl PySem.F.plainAttrs_str PySem.F.slot_str_join PySem.F.type_str_join (jO rfl) aM (af (ac 5) ag (ae rfl)) (λh1 h2 h3=>bI PySem.F.plainAttrs_str PySem.F.slot_str_join PySem.F.type_str_join h2 h1 h3)) ag (ae rfl))) ai (aJ _))
    (ao (bx (FX rfl PySem.F.plainAttrs_list PySem.F.slot_list_pop PySem.F.type_list_pop E3 (ac 5) (λh1 h2=>sW PySem.F.plainAttrs_list PySem.F.slot_list_pop PySem.F.type_list_pop h2 h1)))))
   (ao (aE (bK rfl PySem.F.plainAttrs_str PySem.F.slot_str_join PySem.F.type_str_join (jO rfl) aM (af (ac 5) ag (ae rfl)) (λh1 h2 h3=>bI PySem.F.plainAttrs_str PySem.F.slot_str_join PySem.F.type_str_join h2 h1 h3)))))))),λts S Q h=>?_⟩
 obtain ⟨p,q,a,n,o,ws,rfl,hqp,ha,hAs,hp,hf,hn,hw,hws,hwl,hq⟩:=h
 ac_nf
 refine vc (λσ' S'=>∃ u v o',σ'=[some (.ref p),some (.ref q),some (.str a),u,v,none]/\S'=put S p o'/\Fd (n+3) o') ?_ ?_
 ·intro X hX
  have h0:X [some (.ref p),some (.ref q),some (.str a),none,none,none] S:=hX _ _ ⟨_,_,o,rfl,(qA hp).symm,hf.mono (by omega)⟩
  bv_omega
  refine ifB (λhb=>?_) λhb=>ifF h0
  have hwp:0<(ws.length:Int):=by simpa using hb
  bv_omega
  refine ifB (λhb=>?_) λhb=>?_
  ·bv_omega
   refine eO (λt=>∃ z:Str,t=.str z/\z.length<=2/\∃ c,Sc.isL c=true/\(Tm.tl z=[c]\/Tm.tl z=[32,c])) hr0 ?_ ?_ ?_
   ·simpa using hr1
   ·intro t ht
    simp only [List.mem_cons,List.not_mem_nil,or_false] at ht
    rcases ht with rfl|rfl|rfl
    ·exact ⟨_,rfl,by simp [Str.length],_,hAs.of (by assumption),.inl rfl⟩
    ·exact ⟨_,rfl,by simp [Str.length],_,hAs.of (by assumption),.inl rfl⟩
    ·exact ⟨_,rfl,Nat.le_refl _,_,hAs.of (by assumption),.inr (by rw [Tm.gg];rfl)⟩
   rintro _ ⟨y,rfl,hy,hyA⟩
   bv_omega
   have hzw:=hws _ hz
   have hzl:=Wm.eF hzw
   bv_omega
   refine ifB (λhb=>?_) λhb=>?_
   ·bv_omega
    exact .mk (hq _ _ (Wm.Bg hzw hyA (hfit hb)) (hfd.mono (by omega)))
   exact hX _ _ ⟨_,_,_,rfl,rfl,hfd.mono (by omega)⟩
  ·exact hX _ _ ⟨_,_,_,rfl,rfl,hfd.mono (by omega)⟩
 ·rintro σ' S' ⟨u1,v1,o1,rfl,rfl,hf1⟩
  bv_omega
  refine eO (λt=>∃ z:Int,t=.int z/\1<=z/\z<=4) hr0 ?_ ?_ ?_
  ·simpa using hr1
  ·simp
  rintro _ ⟨z,rfl,hz1,hz2⟩
  bv_omega
  refine fP (λitems acc σ' S'=>∃ (zs:List Str) (u:Option T2.T) (o2:O),acc=zs.map T2.T.str/\(∀ y∈zs,Sc.isP (Tm.tl y)=true)/\zs.length+items.length=z.toNat/\σ'=[u,some (.ref p),some (.str a)]/\S'=put S p o2/\Fd (n+4+13 * zs.length) o2)
   ⟨[],none,_,rfl,by simp,by simp [bH],rfl,rfl,hfd.mono (by simp;omega)⟩ ?_ ?_
  ·rintro t ts acc σ' S' N ⟨zs,u,o2,rfl,hza',hl,rfl,rfl,hf2⟩ hN
   simp only [List.length_cons] at hl
   refine ⟨trivial,?_⟩
   bv_omega
   refine ⟨by rw [List.length_map,sizeLine_eq];omega,hN _ _ _ ⟨zs++[z],_,_,by simp,?_,by simp;omega,rfl,rfl,?_⟩⟩
   ·intro y hy
    rcases List.mem_append.mp hy with h|h
    ·exact hza' y h
    ·rw [List.mem_singleton.mp h];assumption
   ·rw [List.length_append,List.length_singleton];exact hfd.mono (by omega)
  ·rintro acc σ' S' ⟨zs,u,o2,rfl,hza',hl,rfl,rfl,hf2⟩
   have hl2:zs.length=z.toNat:=by simpa using hl
   refine ⟨trivial,λl hl0=>?_⟩
   bv_omega
   refine pk (λσ' S'=>∃ zs:List Str,zs≠[]/\(∀ y∈zs,Sc.isP (Tm.tl y)=true)/\zs.length<=4/\σ'=[some (.ref p),some (.ref q),some (.str a),u1,v1,some (.ref l)]/\S'=put (put S p o2) l (O.lst (zs.map T2.T.str)))
    (λσ' S'=>∃ zs:List Str,zs≠[]/\(∀ y∈zs,Sc.isP (Tm.tl y)=true)/\zs.length<=4/\(Txt.join " " zs).length<=24/\σ'=[some (.ref p),some (.ref q),some (.str a),u1,v1,some (.ref l)]/\S'=put (put S p o2) l (O.lst (zs.map T2.T.str)))
    (λσ' S'=>match S' l with|some (.lst ts)=>ts.length|_=>0) ⟨zs,by rintro rfl;simp at hl2;omega,hza',by omega,rfl,rfl⟩ ?_ ?_
   ·rintro σ' S' N X ⟨zs,hne,hzA2,hl4,rfl,rfl⟩ hN hX
    have hzs:∀ y∈zs,y.length<=12:=λy hy=>su (hzA2 y hy)
    bv_omega
    refine rL au (Tm.jo zs) (Tm.jS (b:=12) hzs (by rw [Tm.d5];omega)) ?_
    have hjl:(Txt.join " " zs).length<=60:=by
     have h1:=Tm.l6 " " zs hzs
     rw [Tm.d5] at h1
     omega
    bv_omega
    refine ifB (λhb=>?_) λhb=>?_
    ·bv_omega
     have h2:2<=zs.length:=by
      have hb:=of_decide_eq_true hb
      have h1:=Tm.l6 " " zs hzs
      rw [Tm.d5] at h1
      have hp:=List.length_pos_iff.mpr hne
      omega
     have hlast:(zs.map T2.T.str)[(zs.map T2.T.str).length - 1]?=some (T2.T.str (zs.getLast hne)):=by
      rw [List.getElem?_map,List.length_map,<- List.getLast?_eq_getElem?,List.getLast?_eq_getLast hne];rfl
     refine FM au hlast ?_
     rw [bD,<- List.map_dropLast]
     refine hN _ _ ⟨zs.dropLast,λe=>?_,λy hy=>hzA2 y ((List.dropLast_subset zs) hy),by rw [List.length_dropLast];omega,rfl,rfl⟩ ?_
     ·have:=congrArg List.length e
      rw [List.length_dropLast,List.length_nil] at this
      omega
     simp only [au,List.length_map,List.length_dropLast]
     omega
    ·exact hX _ _ ⟨zs,hne,hzA2,hl4,by have:=of_decide_eq_false hb;omega,rfl,rfl⟩
   ·rintro σ' S' ⟨zs,hne,hzA2,hl4,h24,rfl,rfl⟩
    have hzs:∀ y∈zs,y.length<=12:=λy hy=>su (hzA2 y hy)
    bv_omega
    refine rL au (Tm.jo zs) (Tm.jS (b:=12) hzs (by rw [Tm.d5];omega)) ?_
    refine .le (.put hl0) (hq _ _ ?_ (hf2.mono (by omega)))
    unfold Wm.Wd
    rw [decide_eq_true h24,Bool.true_and]
    exact Wm.Bf hzA2 hne hl4
def mh:WSp:=λts S Q=>∃ p m n o,ts=[.ref p,.int m]/\1<=m/\m<=20/\S p=some o/\Fd n o/\n+2000<1000000000 /\
 ∀ (ws:List Str) o',ws≠[]->(ws.length:Int)<=m->ws.Nodup->(∀ x∈ws,Wm.Wd x=true)->Fd (n+2000) o'->Q (.lst (ws.map T.str)) (put S p o')
theorem oK:FnScope ["_law_feed_here","_law_many","_law_first","_law_some","_law_letters","_law_words_here","_law_k","_law_word_here"] vv0 (aj fk):=by nofun
theorem zP {f f1 f2:Addr}{fd fd1 fd2:FuncData}(F:Fun K "_law_words" "_law_words" fk f fd) (T:Txt K mg C Z) (G__law_draw:FnOk P w K mg base CX0 1 f1 fd1 vv0 (lSp K db)) (D__law_draw:Df K mg "_law_draw" f1 fd1 vv0)
  (G__law_word:FnOk P w K mg base CX0 3 f2 fd2 vv8 (lSp K mR)) (D__law_word:Df K mg "_law_word" f2 fd2 vv8) :
  FnOk P w K mg base CX0 4 f fd vv0 (lSp K mh):=by
 refine aW F oK (λts S Q h=>?_) λcdv A outer s H E hr=>?_
 ·obtain ⟨p,m,n,o,rfl,_⟩:=h;rfl
 have nd:=oK.nd
 refine ⟨_,((am (aD (i:=2) nd rfl (Or.inl rfl) (ax G__law_draw D__law_draw hr.m (by rfl) (af (ac 0) (af ai ag (ae rfl)) (ae rfl))))
   (am (aD (i:=3) nd rfl (Or.inl rfl) (cH false rfl aM (cj (ac 2)) (cj (aC (aT false) (ac 2) ai))))
   (am (aD (i:=4) nd rfl (Or.inl rfl) (aC (aT false) (aC (aT false) (aC (aT false) (az rfl (ac 3) ai (λ_ _=>rfl)) (az rfl (ac 3) ai (λ_ _=>rfl))) (az rfl (ac 3) ai (λ_ _=>rfl))) (az rfl (ac 3) ai (λ_ _=>rfl))))
   (am (aD (i:=5) nd rfl (Or.inl rfl) (h6 ag))
   (am (dJ PassesOwn.never rfl (gN (by rfl) T.range (ac 1)) (aS (i:=6) nd rfl (Or.inl rfl))
    (am (aD (i:=7) nd rfl (Or.inl rfl) (ax G__law_word D__law_word hr.m (by rfl) (af (ac 0) (af (ac 5) (af (ac 4) ag (ae rfl)) (ae rfl)) (ae rfl))))
   (ao (aQ (aK (rD rfl) (ac 7) (ac 5) (by with_unfolding_all rfl))
    (ao (bx (bK rfl PySem.F.plainAttrs_list PySem.F.slot_list_insert PySem.F.type_list_insert zd (ac 5) (af (ax G__law_draw D__law_draw hr.m (by rfl) (af (ac 0) (af (aC (aT false) (aF (a9 rfl) (by rfl) T.len PySem.boot_len (af (ac 5) ag (ae rfl))) ai) ag (ae rfl)) (ae rfl))) (af (ac 7) ag (ae rfl)) (ae rfl)) (λh1 h2 h3=>bI PySem.F.plainAttrs_list PySem.F.slot_list_insert PySem.F.type_list_insert h2 h1 h3))))
    a8))))
   (ao (aE (ac 5))))))))),λts S Q h=>?_⟩
 obtain ⟨p,m,n,o,rfl,hm1,hm2,hp,hf,hn,hq⟩:=h
 ac_nf
 bv_omega
 have hs:∀ k:Nat,k<26->(Txt.slice (Str.ofString "zabcdefghijklmnopqrstuvwxyza") (some (k:Int)) (some ((k:Int)+3))).length=3:=by decide +kernel
 have hsl:=hs r.toNat (by omega)
 rw [show ((r.toNat:Nat):Int)=r by omega] at hsl
 have hs2:∀ k:Nat,k<26->((Tm.tl (Txt.slice (Str.ofString "zabcdefghijklmnopqrstuvwxyza") (some (k:Int)) (some ((k:Int)+3)))).all Sc.isL)=true:=by decide +kernel
 have hsa:=hs2 r.toNat (by omega)
 rw [show ((r.toNat:Nat):Int)=r by omega] at hsa
 have hsA:Lt (Txt.slice (Str.ofString "zabcdefghijklmnopqrstuvwxyza") (some r) (some (r+3))):=λc hc=>List.all_eq_true.mp hsa c hc
 generalize Txt.slice (Str.ofString "zabcdefghijklmnopqrstuvwxyza") (some r) (some (r+3))=some3 at hsl hsA ⊢
 bv_omega
 rename_i d1 hm1 _ d2 hm2 _ d3 hm3 _
 have hA4:Lt (({ cps:=#[d1] }++{ cps:=#[d2] }++{ cps:=#[d3] }++{ cps:=#[d] }:Str)):=by
  intro c hc
  simp only [Tm.gg,List.mem_append] at hc
  rcases hc with ((hc|hc)|hc)|hc
  ·rw [show c=d1 by simpa [Tm.tl] using hc];exact hsA.of hm1
  ·rw [show c=d2 by simpa [Tm.tl] using hc];exact hsA.of hm2
  ·rw [show c=d3 by simpa [Tm.tl] using hc];exact hsA.of hm3
  ·rw [show c=d by simpa [Tm.tl] using hc];exact hsA.of hd
 have hl4:(({ cps:=#[d1] }++{ cps:=#[d2] }++{ cps:=#[d3] }++{ cps:=#[d] }:Str)).length=4:=by simp only [PySem.Str.length_append,Tm.rO]
 generalize ({ cps:=#[d1] }++{ cps:=#[d2] }++{ cps:=#[d3] }++{ cps:=#[d] }:Str)=le4 at hl4 hA4 ⊢
 intro l hl0
 obtain ⟨hlp,hl1⟩:=lf hl0
 rw [qB (Ne.symm hlp)]
 bv_omega
 refine qy (λitems σ' S'=>∃ (ws:List Str) (o2:O) (u v:Option T2.T),(items.length:Int)<=m/\ws.length+items.length<=m/\((items.length:Int)<m->ws≠[])/\ws.Nodup/\(∀ x∈ws,Wm.Wd x=true)/\σ'=[some (.ref p),some (.int m),some (.int r),some (.str some3),some (.str le4),some (.ref l),u,v] /\
   S'=put (put S l (.lst (ws.map T2.T.str))) p o2/\Fd (n+1+61 * (m - items.length)) o2) ⟨[],_,none,none,?_,?_,?_,by simp,by simp,rfl,rfl,hfd.mono ?_⟩ ?_ ?_
 ·simp [bH];omega
 ·simp [bH];omega
 ·simp [bH];omega
 ·simp [bH];omega
 ·rintro t ts σ' S' N ⟨ws,o2,u,v,hi1,hi2,hi3,hnd,hws,rfl,rfl,hf2⟩ hN
  simp only [List.length_cons,Int.natCast_add,Int.natCast_one] at hi1 hi2 hi3 hf2
  refine ⟨trivial,?_⟩
  bv_omega
  refine ifB (λhb=>?_) λhb=>?_
  ·bv_omega
   refine zh ((ak hlp).trans au) (by rw [List.length_map,sizeLine_eq];omega) hr0 (by omega) ?_
   rw [Ds hlp]
   refine hN _ _ ⟨ws.take r.toNat++z::ws.drop r.toNat,_,_,_,by omega,?_,λ_=>by simp,?_,?_,rfl,?_,hfd.mono (by omega)⟩
   ·simp only [List.length_append,List.length_take,List.length_cons,List.length_drop];omega
   ·have hp:(ws.take r.toNat++z::ws.drop r.toNat).Perm (z::ws):=by
     refine List.perm_middle.trans (List.Perm.cons _ ?_)
     rw [List.take_append_drop]
    refine hp.nodup_iff.mpr (List.nodup_cons.mpr ⟨λhm=>?_,hnd⟩)
    simp [hm] at hb
   ·intro x hx
    simp only [List.mem_append,List.mem_cons] at hx
    rcases hx with h|rfl|h
    ·exact hws x (List.mem_of_mem_take h)
    ·exact hzw
    ·exact hws x (List.mem_of_mem_drop h)
   ·simp [List.map_take,List.map_drop]
  ·bv_omega
   refine hN _ _ ⟨ws,_,_,_,by omega,by omega,λ_=>?_,hnd,hws,rfl,rfl,hfd.mono (by omega)⟩
   rintro rfl
   simp at hb
 ·rintro σ' S' ⟨ws,o2,u,v,hi1,hi2,hi3,hnd,hws,rfl,rfl,hf2⟩
  refine ⟨trivial,?_⟩
  bv_omega
  simp only [List.length_nil,Int.natCast_zero,Int.add_zero,Int.sub_zero] at hi2 hi3 hf2
  exact .frz ((ak hlp).trans au) (.put2 (.put hl1)) (by rw [ak hlp];exact hl1) (hq ws o2 (hi3 (by omega)) (by omega) hnd hws (hf2.mono (by omega)))
def mS:WSp:=λts S Q=>∃ ns:List Int,ts=[.scr ns]/\ns.length<=63/\∀ p o,S p=none->Fd 0 o->Q (.ref p) (put S p o)
theorem Ee {S:Sto}{Q:T->Sto->Prop}{ns:List Int}(h1:ns.length<=63) (h:∀ p o,S p=none->Fd 0 o->Q (.ref p) (put S p o)):mS ([.scr ns]++[]) S Q:=⟨ns,rfl,h1,h⟩
theorem o4:FnScope ["_law_script","_law_cells"] gL (aj fH):=by nofun
theorem BI {f:Addr}{fd:FuncData}(F:Fun K "_law_feed" "_law_feed" fH f fd) (T:Txt K mg C Z):FnOk P w K mg base CX0 1 f fd gL (lSp K mS):=by
 refine aW F o4 (λts S Q h=>?_) λcdv A outer s H E hr=>?_
 ·obtain ⟨ns,rfl,_⟩:=h;rfl
 have nd:=o4.nd
 refine ⟨_,((am (aD (i:=1) nd rfl (Or.inl rfl) (aC (aT false) (cH false rfl (ac 0) cY (cj ai)) (bn (af ai ag (ae rfl)))))
   (ao (aE (h6 (af (ac 1) (af ai (af (aC (gw false) (aC m7 (az rfl (ac 1) ai (λ_ _=>rfl)) ai) (aC cL (az rfl (ac 1) ai (λ_ _=>rfl)) ai)) (af ai ag (ae rfl)) (ae rfl)) (ae rfl)) (ae rfl))))))),λts S Q h=>?_⟩
 obtain ⟨ns,rfl,hns,hq⟩:=h
 ac_nf
 bv_omega
 rw [qC,rM (by omega)]
 have hcl:(ns.take (63:Int).toNat).length<=63:=by rw [List.length_take];omega
 generalize ns.take (63:Int).toNat=cs at hcl ⊢
 refine mH rfl rfl (by simp only [List.length_map,List.length_singleton,sizeLine_eq];omega) ?_
 rw [show cs.map T2.T.int++[T2.T.int 0]=(cs++[0]).map T2.T.int by simp]
 have hpos:0<(cs++[0]).length:=by simp
 bv_omega
 intro p hp
 exact .mk (hq p _ hp ⟨cs++[0],_,_,_,rfl,Int.le_refl _,Int.le_refl _,Int.le_refl _,by simp⟩)
theorem BJ {S:Sto}{Q:T->Sto->Prop}{p:Addr}{m n:Int}{o:O}(h1:1<=m) (h2:m<=20) (f:Fd n o) (hn:n+2000<1000000000)
  (h:∀ (ws:List Str) o',ws≠[]->(ws.length:Int)<=m->ws.Nodup->(∀ x∈ws,Wm.Wd x=true)->Fd (n+2000) o'->Q (.lst (ws.map T.str)) (put S p o')):mh ([.ref p,.int m]++[]) (put S p o) Q :=
 ⟨p,m,n,o,rfl,h1,h2,au,f,hn,λws o' a b c d e=>by rw [bD];exact h ws o' a b c d e⟩
def lB:WSp:=λts S Q=>∃ c:Nat,ts=[.str ⟨#[c]⟩]/\Q (.bl (Sc.isL c)) S
theorem zN {S:Sto}{Q:T->Sto->Prop}{c:Nat}(h:Q (.bl (Sc.isL c)) S):lB ([.str ⟨#[c]⟩]++[]) S Q:=⟨c,rfl,h⟩
theorem oM:FnScope ["sign"] ["sign"] (aj fh):=by nofun
theorem yD {f:Addr}{fd:FuncData}(F:Fun K "is_letter" "is_letter" fh f fd):FnOk P w K mg base CX0 1 f fd ["sign"] (lSp K lB):=by
 refine aW F oM (λts S Q h=>?_) λcdv A outer s H E hr=>?_
 ·obtain ⟨c,rfl,_⟩:=h;rfl
 have nd:=oM.nd
 refine ⟨_,((ao (aE (rp dR dR aM (ac 0) aM)))),λts S Q h=>?_⟩
 obtain ⟨c,rfl,hq⟩:=h
 rw [<- Wm.DD] at hq
 ac_nf
 bv_omega
 refine ifB (λhb=>?_) λhb=>?_
 ·bv_omega
  rw [hb,Bool.true_and] at hq
  exact .mk hq
 ·rw [hb,Bool.false_and] at hq
  exact .mk hq
def lD:WSp:=λts S Q=>∃ z:Str,ts=[.str z]/\z.length<=1000/\Q (.bl (Sc.isP (Tm.tl z))) S
theorem zM {S:Sto}{Q:T->Sto->Prop}{z:Str}(h0:z.length<=1000) (h:Q (.bl (Sc.isP (Tm.tl z))) S):lD ([.str z]++[]) S Q:=⟨z,rfl,h0,h⟩
theorem pz:FnScope ["text"] ["text"] (aj fN):=by nofun
theorem yE {f f1:Addr}{fd fd1:FuncData}(F:Fun K "is_part" "is_part" fN f fd) (T:Txt K mg C Z) (G_is_letter:FnOk P w K mg base CX0 1 f1 fd1 ["sign"] (lSp K lB)) (D_is_letter:Df K mg "is_letter" f1 fd1 ["sign"]) :
  FnOk P w K mg base CX0 2 f fd ["text"] (lSp K lD):=by
 refine aW F pz (λts S Q h=>?_) λcdv A outer s H E hr=>?_
 ·obtain ⟨c,rfl,_⟩:=h;rfl
 have nd:=pz.nd
 refine ⟨_,((ao (aE (fZ (rp dR dR ai (aF (a9 rfl) (by rfl) T.len PySem.boot_len (af (ac 0) ag (ae rfl))) (mK (n:=12) (by rfl) T.c_MOST_LETTERS)) (gv (aF (u4 rfl rfl) (by rfl) T.all PyProof.Rows.boot_all (af (c8 false ["sign"] 1 [] rfl (CT (ac 0)) (λ_ _ _ _=>(aS (i:=0) (show List.Nodup (["sign"]:List Str) from by decide +kernel) rfl (Or.inl rfl))) (λ_ _ _ _=>cZ) (λ_ _ _ _=>(ax G_is_letter D_is_letter hr.m (by rfl) (af (ac 0) ag (ae rfl))))) ag (ae rfl)))))))),λts S Q h=>?_⟩
 obtain ⟨z,rfl,hz,hq⟩:=h
 have e:Sc.isP (Tm.tl z)=(decide (1<=(z.length:Int))&&decide ((z.length:Int)<=12)&&(Tm.tl z).all Sc.isL):=by
  unfold Sc.isP
  rw [Tm.len]
  congr 1
  congr 1
  ·rw [Bool.eq_iff_iff];simp only [decide_eq_true_eq];omega
  ·rw [Bool.eq_iff_iff];simp only [decide_eq_true_eq];omega
 rw [e] at hq
 ac_nf
 bv_omega
 refine ifB (λhb=>?_) λhb=>?_
 ·rw [hb,Bool.true_and] at hq
  bv_omega
  refine ifB (λhb=>?_) λhb=>?_
  ·rw [hb,Bool.true_and] at hq
   bv_omega
   refine d0 (ls:=Tm.tl z) (λc=>T2.T.str ⟨#[c]⟩) (λc=>some (.bl (Sc.isL c))) [] ?_ ?_ (λx hx u acc N hacc hN=>?_) ?_
   ·trivial
   ·rw [Tm.len,sizeLine_eq];omega
   ·bv_omega
    exact ⟨hacc,hN _⟩
   ·bv_omega
    refine tG (bs:=(Tm.tl z).map Sc.isL) (by rw [<- Wm.all_map,List.map_map];rw [Wm.jC];rfl) ?_
    rw [List.all_map]
    exact .mk hq
  ·rw [hb,Bool.false_and] at hq
   exact .mk hq
 ·rw [hb,Bool.false_and,Bool.false_and] at hq
  bv_omega
  exact .mk hq
def km (t:T2.T):Prop:=t=.non\/(∃ b,t=.bl b)\/(∃ i,t=.int i)\/(∃ l,t=.lst l)\/∃ l,t=.tup l
def jr:WSp:=λts S Q=>∃ t,ts=[t]/\((∃ z:Str,t=.str z/\z.length<=1000/\Q (.bl (Wm.Wd z)) S)\/km t/\Q (.bl false) S)
theorem qN {t:T2.T}{S:Sto}(T:Txt K mg C Z) (h:km t):∃ v,tyT S t=some v/\PySem.W.kitOne K v (.type "str")=some false:=by
 rcases h with rfl|⟨b,rfl⟩|⟨i,rfl⟩|⟨l,rfl⟩|⟨l,rfl⟩
 ·exact ⟨_,rfl,T.ns⟩
 ·exact ⟨_,rfl,T.bs⟩
 ·exact ⟨_,rfl,T.is⟩
 ·exact ⟨_,rfl,T.ls⟩
 ·exact ⟨_,rfl,T.ts⟩
theorem pA:FnScope ["thing","parts"] ["thing"] (aj fO):=by nofun
theorem yF {f f1:Addr}{fd fd1:FuncData}(F:Fun K "is_word" "is_word" fO f fd) (T:Txt K mg C Z) (G_is_part:FnOk P w K mg base CX0 2 f1 fd1 ["text"] (lSp K lD)) (D_is_part:Df K mg "is_part" f1 fd1 ["text"]) :
  FnOk P w K mg base CX0 3 f fd ["thing"] (lSp K jr):=by
 refine aW F pA (λts S Q h=>?_) λcdv A outer s H E hr=>?_
 ·obtain ⟨c,rfl,_⟩:=h;rfl
 have nd:=pA.nd
 refine ⟨_,((am (aQ (du (gG (dE (bN (aF (m8 rfl) (by rfl) T.isinstance PyProof.Rows.boot_isinstance (af (ac 0) (af (nN (n:="str") (by rfl) T.str PyProof.Rows.boot_str) ag (ae rfl)) (ae rfl))))) (iD (aK kF (aF (a9 rfl) (by rfl) T.len PySem.boot_len (af (ac 0) ag (ae rfl))) (mK (n:=24) (by rfl) T.c_MOST_SIGNS) (aJ _)))))
    (ao (aE cg))
    a8)
   (am (aD (i:=1) nd rfl (Or.inl rfl) (bK rfl PySem.F.plainAttrs_str PySem.F.slot_str_split PySem.F.type_str_split (lW false) (ac 0) (af aM ag (ae rfl)) (λh1 h2 h3=>bI PySem.F.plainAttrs_str PySem.F.slot_str_split PySem.F.type_str_split h2 h1 h3)))
   (ao (aE (fZ (b9 dR (aF (a9 rfl) (by rfl) T.len PySem.boot_len (af (ac 1) ag (ae rfl))) (mK (n:=4) (by rfl) T.c_MOST_PARTS) (aJ _)) (gv (aF (u4 rfl rfl) (by rfl) T.all PyProof.Rows.boot_all (af (c8 false ["part"] 1 [] rfl (bV rfl (ac 1)) (λ_ _ _ _=>(aS (i:=0) (show List.Nodup (["part"]:List Str) from by decide +kernel) rfl (Or.inl rfl))) (λ_ _ _ _=>cZ) (λ_ _ _ _=>(ax G_is_part D_is_part hr.m (by rfl) (af (ac 0) ag (ae rfl))))) ag (ae rfl)))))))))),λts S Q h=>?_⟩
 obtain ⟨t,rfl,h⟩:=h
 ac_nf
 rcases h with ⟨z,rfl,hz,hq⟩|⟨hn,hq⟩
 ·unfold Wm.Wd at hq
  bv_omega
  refine ifB (λhb=>?_) λhb=>?_
  ·bv_omega
   have hb:=of_decide_eq_true hb
   rw [decide_eq_false (by omega),Bool.false_and] at hq
   exact .mk hq
  ·have hb:=of_decide_eq_false hb
   rw [decide_eq_true (by omega),Bool.true_and,Wm.kT] at hq
   have hsl:=PyProof.Rows.split_le z " "
   bv_omega
   refine ifB (λhb=>?_) λhb=>?_
   ·have hb:=of_decide_eq_true hb
    rw [decide_eq_true (by omega),Bool.true_and] at hq
    bv_omega
    refine d0 (ls:=Txt.split z " ") T2.T.str (λp=>some (.bl (Sc.isP (Tm.tl p)))) [] ?_ ?_ (λx hx u acc N hacc hN=>?_) ?_
    ·trivial
    ·rw [sizeLine_eq];omega
    ·have hxl:=Tm.kZ hx
     bv_omega
     exact ⟨hacc,hN _⟩
    ·bv_omega
     refine tG (bs:=(Txt.split z " ").map λp=>Sc.isP (Tm.tl p)) (by rw [<- Wm.all_map,List.map_map];rw [Wm.jC];rfl) ?_
     rw [List.all_map]
     exact .mk hq
   ·have hb:=of_decide_eq_false hb
    rw [decide_eq_false (by omega),Bool.false_and] at hq
    exact .mk hq
 ·obtain ⟨v,hv1,hv2⟩:=qN (S:=S) T hn
  bv_omega
  refine j9 hv1 hv2 ?_
  bv_omega
  exact .mk hq
def Bad (t:T2.T):Prop:=(∃ z:Str,t=.str z/\z.length<=1000/\PyData.strOk z=true/\Wm.Wd z=false)\/km t/\∃ d,(∀ S,a7 S t=some d)/\Tng d
theorem Bad.isw {S:Sto}{Q:T2.T->Sto->Prop}{t:T2.T}(h:Bad t) (q:Q (.bl false) S):jr ([t]++[]) S Q:=by
 rcases h with ⟨z,rfl,hz,_,hw⟩|⟨h,_⟩
 ·exact ⟨_,rfl,.inl ⟨z,rfl,hz,by rw [hw];exact q⟩⟩
 ·exact ⟨_,rfl,.inr ⟨h,q⟩⟩
theorem mi {z:Str}(hz:z.length<=1000) (ho:PyData.strOk z=true):Tng (.str z):=by
 refine ⟨rfl,rfl,by simp [PyData.depth],?_⟩
 have:=StrLaws.reprText_len z λc hc=>by
  unfold PyData.strOk at ho
  rw [Array.all_eq_true_iff_forall_mem] at ho
  have:=of_decide_eq_true (ho c (by simpa using hc))
  omega
 show (reprText z).length<=10002
 omega
theorem Bad.fr {S:Sto}{t:T2.T}(h:Bad t):∃ d,a7 S t=some d/\Tng d:=by
 rcases h with ⟨z,rfl,hz,ho,_⟩|⟨_,d,hd,ht⟩
 ·exact ⟨_,rfl,mi hz ho⟩
 ·exact ⟨d,hd S,ht⟩
def el:WSp:=λts S Q=>∃ (m:Int×Int) (era:Int),ts=[mkT m,.int era]/\m.2<=era/\Q (.int (wrt m era)) S
theorem BE {S:Sto}{Q:T->Sto->Prop}{m:Int×Int}{era:Int}(h0:m.2<=era) (h:Q (.int (wrt m era)) S):el ([mkT m,.int era]++[]) S Q:=⟨m,era,rfl,h0,h⟩
theorem o6:FnScope vv9 vv9 (aj fG):=by nofun
theorem zQ {f:Addr}{fd:FuncData}(F:Fun K "worth_at" "worth_at" fG f fd):FnOk P w K mg base CX0 1 f fd vv9 (lSp K el):=by
 refine aW F o6 (λts S Q h=>?_) λcdv A outer s H E hr=>?_
 ·obtain ⟨m,era,rfl,_⟩:=h;rfl
 have nd:=o6.nd
 refine ⟨_,((ao (aE (aC EX (az rfl (ac 0) ai (λ_ _=>rfl)) (aC iF (ac 1) (az rfl (ac 0) ai (λ_ _=>rfl))))))),λts S Q h=>?_⟩
 obtain ⟨m,era,rfl,h0,hq⟩:=h
 ac_nf
 unfold mkT
 bv_omega
 exact .mk hq
def jK:WSp:=λts S Q=>∃ (m:Int×Int) (era n:Int),ts=[mkT m,.int era,.int n]/\m.2<=era/\Q (mkT (wrt m era+n,era)) S
theorem Ef {S:Sto}{Q:T->Sto->Prop}{m:Int×Int}{era n:Int}(h0:m.2<=era) (h:Q (mkT (wrt m era+n,era)) S):jK ([mkT m,.int era,.int n]++[]) S Q:=⟨m,era,n,rfl,h0,h⟩
theorem oN:FnScope gJ gJ (aj fj):=by nofun
theorem BK {f f1:Addr}{fd fd1:FuncData}(F:Fun K "used_mark" "used_mark" fj f fd) (G_worth_at:FnOk P w K mg base CX0 1 f1 fd1 vv9 (lSp K el)) (D_worth_at:Df K mg "worth_at" f1 fd1 vv9):FnOk P w K mg base CX0 2 f fd gJ (lSp K jK):=by
 refine aW F oN (λts S Q h=>?_) λcdv A outer s H E hr=>?_
 ·obtain ⟨m,era,n,rfl,_⟩:=h;rfl
 have nd:=oN.nd
 refine ⟨_,((ao (aE (bz (af (aC (aT false) (ax G_worth_at D_worth_at hr.m (by rfl) (af (ac 0) (af (ac 1) ag (ae rfl)) (ae rfl))) (ac 2)) (af (ac 1) ag (ae rfl)) (ae rfl)))))),λts S Q h=>?_⟩
 obtain ⟨m,era,n,rfl,h0,hq⟩:=h
 ac_nf
 bv_omega
 exact .mk hq
def sv:WSp:=λts S Q=>∃ (l:List (Int×Int)) (era:Int),ts=[.lst (l.map mkT),.int era]/\l.length<=1000/\(∀ m∈l,m.2<=era)/\(l=[]->Q .non S)/\(l≠[]->∀ i,i∈l.map (wrt · era)->(∀ j∈l.map (wrt · era),j<=i)->Q (.int i) S)
theorem oi:FnScope ["marks","era"] ["marks","era"] (aj eZ):=by nofun
theorem zR {f f1:Addr}{fd fd1:FuncData}(F:Fun K "greatest_at" "greatest_at" eZ f fd) (T:Txt K mg C Z) (G_worth_at:FnOk P w K mg base CX0 1 f1 fd1 vv9 (lSp K el)) (D_worth_at:Df K mg "worth_at" f1 fd1 vv9):FnOk P w K mg base CX0 2 f fd ["marks","era"] (lSp K sv):=by
 refine aW F oi (λts S Q h=>?_) λcdv A outer s H E hr=>?_
 ·obtain ⟨l,era,rfl,_⟩:=h;rfl
 have nd:=oi.nd
 refine ⟨_,((ao (aE (Gc (DH rfl rfl) (by rfl) T.max PyProof.Rows.boot_max (af (c8 false vv9 1 [1] rfl (bV rfl (ac 0)) (λ_ _ _ _=>(aS (i:=0) (show List.Nodup (vv9:List Str) from by decide +kernel) rfl (Or.inl rfl))) (λ_ _ _ _=>cZ) (λ_ _ _ _=>(ax G_worth_at D_worth_at hr.m (by rfl) (af (ac 0) (af (ac 1) ag (ae rfl)) (ae rfl))))) ag (ae rfl)) uP)))),λts S Q h=>?_⟩
 obtain ⟨l,era,rfl,hl,h0,hq0,hq1⟩:=h
 ac_nf
 bv_omega
 refine d0 mkT (λm=>some (.int (wrt m era))) [some (.int era)] trivial (by rw [sizeLine_eq];omega) (λm hm u acc N hacc hN=>?_) ?_
 ·have:=h0 m hm
  bv_omega
  exact ⟨hacc,hN _⟩
 rw [show (l.filterMap λm=>some (T2.T.int (wrt m era)))=(l.map (wrt · era)).map T2.T.int by rw [Wm.jC,List.map_map];rfl]
 bv_omega
 refine DM rfl (λh=>?_) λh m h1 h2=>?_
 ·exact .mk (hq0 (List.map_eq_nil_iff.mp h))
 ·exact .mk (hq1 (λe=>h (by rw [e];rfl)) m h1 h2)
abbrev Ms:=List (Str×Int×Int)
structure Wo (C:Addr) (S:Sto) (p d:Addr) (n:Int) (ms:Ms):Prop where
 ins:S p=some (.ins C [("marks",.ref d),("now",.int n)])
 dct:S d=some (.dK (kt mkT ms))
theorem Wo.ne {S:Sto}{p d:Addr}{n:Int}{ms:Ms}(h:Wo C S p d n ms):p≠d:=λe=>by
 have:=h.ins
 rw [e,h.dct] at this;cases this
def mT (C:Addr):WSp:=λts S Q=>∃ p,ts=[.ref p]/\S p=some (.ins C [])/\∀ d,S d=none->Q .non (put (put S d (.dK [])) p (.ins C [("marks",.ref d),("now",.int 0)]))
theorem oO:FnScope aZ aZ (aj cT):=by nofun
theorem sx {f:Addr}{fd:FuncData}(F:FunD K "__init__" "Wood.__init__" cT f fd) (T:Txt K mg C Z):FnOk P w K mg base CX0 1 f fd aZ (lSp K (mT C)):=by
 refine bM F oO (λts S Q h=>?_) λcdv A outer s H E hr=>?_
 ·obtain ⟨p,rfl,_⟩:=h;rfl
 have nd:=oO.nd
 refine ⟨_,((am (tj rfl T.gm (ac 0) jT)
   (ao (tj rfl T.gn (ac 0) ai)))),λts S Q h=>?_⟩
 obtain ⟨p,rfl,hp,hq⟩:=h
 ac_nf
 bv_omega
 intro d hd
 have hne:p≠d:=λe=>by rw [e,hd] at hp;cases hp
 bv_omega
 refine tZ au rfl (Nat.le_of_ble_eq_true rfl) ?_
 rw [bD]
 exact .mk (hq d hd)
def ix (C:Addr):WSp:=λts S Q=>∃ p d n ms z m,ts=[.ref p,.str z]/\Wo C S p d n ms/\look ms z=some m/\Q (mkT m) S
theorem mU {S:Sto}{Q:T->Sto->Prop}{p d:Addr}{n:Int}{ms:Ms}{z:Str}{m:Int×Int}(h1:Wo C S p d n ms) (h2:look ms z=some m) (h:Q (mkT m) S):ix C ([.ref p,.str z]++[]) S Q:=⟨p,d,n,ms,z,m,rfl,h1,h2,h⟩
theorem iZ:FnScope vv1 vv1 (aj cA):=by nofun
theorem sy {f:Addr}{fd:FuncData}(F:FunD K "mark_of" "Wood.mark_of" cA f fd) (T:Txt K mg C Z):FnOk P w K mg base CX0 1 f fd vv1 (lSp K (ix C)):=by
 refine bM F iZ (λts S Q h=>?_) λcdv A outer s H E hr=>?_
 ·obtain ⟨p,d,n,ms,z,m,rfl,_⟩:=h;rfl
 have nd:=iZ.nd
 refine ⟨_,((am (aQ (aK (jq w rfl) (ac 1) (bA rfl T.gm (ac 0)) (by with_unfolding_all rfl))
    (ao jv)
    a8)
   (ao (aE (iI w rfl (bA rfl T.gm (ac 0)) (ac 1) (λ_ _=>rfl)))))),λts S Q h=>?_⟩
 obtain ⟨p,d,n,ms,z,m,rfl,⟨hw,hd⟩,hm,hq⟩:=h
 have hv:aR (kt mkT ms) (Sum.inr z)=some (mkT m):=by rw [bW,hm];rfl
 ac_nf
 bv_omega
 refine dN hd rfl ?_
 rw [hv]
 subst_eqs
 bv_omega
 refine ki hd rfl hv ?_
 exact .mk hq
def nz (C:Addr):WSp:=λts S Q=>∃ p d n ms z c,ts=[.ref p,.str z,.int c]/\Wo C S p d n ms/\ms.length<=100/\Wm.Wd z=true/\look ms z=none/\Q .non (put S d (.dK (kt mkT (ms++[(z,c,n)]))))
theorem ja:FnScope vv7 vv7 (aj cD):=by nofun
theorem ub {f f1:Addr}{fd fd1:FuncData}(F:FunD K "put" "Wood.put" cD f fd) (T:Txt K mg C Z) (G_is_word:FnOk P w K mg base CX0 3 f1 fd1 ["thing"] (lSp K jr)) (D_is_word:Df K mg "is_word" f1 fd1 ["thing"]):FnOk P w K mg base CX0 4 f fd vv7 (lSp K (nz C)):=by
 refine bM F ja (λts S Q h=>?_) λcdv A outer s H E hr=>?_
 ·obtain ⟨p,d,n,ms,z,m,rfl,_⟩:=h;rfl
 have nd:=ja.nd
 refine ⟨_,((am (aQ (dE (bN (ax G_is_word D_is_word hr.m (by rfl) (af (ac 1) ag (ae rfl)))))
    (ao jv)
    a8)
   (am (aQ (aK (nt w rfl) (ac 1) (bA rfl T.gm (ac 0)) (by with_unfolding_all rfl))
    (ao jv)
    a8)
   (ao (df (λh g=>c7 h g) (bz (af (ac 2) (af (bA rfl T.gn (ac 0)) ag (ae rfl)) (ae rfl))) (da (bA rfl T.gm (ac 0)) (ac 1) (ig (iA hr)) (λh1 h2 h3=>c6 h1 h2 h3))))))),λts S Q h=>?_⟩
 obtain ⟨p,d,n,ms,z,c,rfl,⟨hw,hd⟩,hl,hz,hm,hq⟩:=h
 have hv:aR (kt mkT ms) (Sum.inr z)=none:=by rw [bW,hm];rfl
 have hzl:=Wm.eF hz
 ac_nf
 bv_omega
 refine ⟨_,rfl,.inl ⟨z,rfl,by omega,?_⟩⟩
 rw [hz]
 bv_omega
 refine dN hd rfl ?_
 rw [hv]
 subst_eqs
 bv_omega
 refine gj hd rfl (by rw [iw,sizeLine_eq];omega) ?_
 rw [show (T2.T.tup [.int c,.int n])=mkT (c,n) from rfl,iq,ir _ (b7.mp hm)]
 exact .mk hq
def nA (C:Addr):WSp:=λts S Q=>∃ p d n ms z c m,ts=[.ref p,.str z,.int c]/\Wo C S p d n ms/\ms.length<=100/\look ms z=some m/\m.2<=n/\Q .non (put S d (.dK (kt mkT (pu ms z (wrt m n+c,n)))))
theorem jb:FnScope vv6 vv6 (aj bU):=by nofun
theorem uc {f f1 f2:Addr}{fd fd1 fd2:FuncData}(F:FunD K "use" "Wood.use" bU f fd) (T:Txt K mg C Z) (G_used_mark:FnOk P w K mg base CX0 2 f1 fd1 gJ (lSp K jK)) (D_used_mark:Df K mg "used_mark" f1 fd1 gJ)
  (G_Wood_mark_of:FnOk P w K mg base CX0 1 f2 fd2 vv1 (lSp K (ix C))) (M_Wood_mark_of:Meth K C "mark_of" f2) (B_Wood_mark_of:ay K fd2 vv1 []):FnOk P w K mg base CX0 3 f fd vv6 (lSp K (nA C)):=by
 refine bM F jb (λts S Q h=>?_) λcdv A outer s H E hr=>?_
 ·obtain ⟨p,d,n,ms,z,c,m,rfl,_⟩:=h;rfl
 have nd:=jb.nd
 refine ⟨_,((ao (df (λh g=>c7 h g) (ax G_used_mark D_used_mark hr.m (by rfl) (af (a6 (T.gf M_Wood_mark_of) G_Wood_mark_of B_Wood_mark_of hr.m (ac 0) (af (ac 1) ag (ae rfl))) (af (bA rfl T.gn (ac 0)) (af (ac 2) ag (ae rfl)) (ae rfl)) (ae rfl))) (da (bA rfl T.gm (ac 0)) (ac 1) (ig (iA hr)) (λh1 h2 h3=>c6 h1 h2 h3))))),λts S Q h=>?_⟩
 obtain ⟨p,d,n,ms,z,c,m,rfl,⟨hw,hd⟩,hl,hm,hn,hq⟩:=h
 ac_nf
 bv_omega
 refine mU ⟨hw,hd⟩ hm ?_
 bv_omega
 refine gj hd rfl (by rw [iw,sizeLine_eq];omega) ?_
 rw [iq]
 exact .mk hq
def lF (C:Addr):WSp:=λts S Q=>∃ p d n ms z m,ts=[.ref p,.str z]/\Wo C S p d n ms/\look ms z=some m/\Q .non (put S d (.dK (kt mkT (dr ms z))))
theorem i6:FnScope vv1 vv1 (aj cB):=by nofun
theorem p7 {f f2:Addr}{fd fd2:FuncData}(F:FunD K "strike" "Wood.strike" cB f fd) (T:Txt K mg C Z)
  (G_Wood_mark_of:FnOk P w K mg base CX0 1 f2 fd2 vv1 (lSp K (ix C))) (M_Wood_mark_of:Meth K C "mark_of" f2) (B_Wood_mark_of:ay K fd2 vv1 []):FnOk P w K mg base CX0 2 f fd vv1 (lSp K (lF C)):=by
 refine bM F i6 (λts S Q h=>?_) λcdv A outer s H E hr=>?_
 ·obtain ⟨p,d,n,ms,z,m,rfl,_⟩:=h;rfl
 have nd:=i6.nd
 refine ⟨_,((am (bx (a6 (T.gf M_Wood_mark_of) G_Wood_mark_of B_Wood_mark_of hr.m (ac 0) (af (ac 1) ag (ae rfl))))
   (ao (bx (bK rfl PySem.F.plainAttrs_dict PySem.F.slot_dict_pop PySem.F.type_dict_pop tY (bA rfl T.gm (ac 0)) (af (ac 1) ag (ae rfl)) (λh1 h2 h3=>bI PySem.F.plainAttrs_dict PySem.F.slot_dict_pop PySem.F.type_dict_pop h2 h1 h3)))))),λts S Q h=>?_⟩
 obtain ⟨p,d,n,ms,z,m,rfl,⟨hw,hd⟩,hm,hq⟩:=h
 have hv:aR (kt mkT ms) (Sum.inr z)=some (mkT m):=by rw [bW,hm];rfl
 ac_nf
 bv_omega
 refine mU ⟨hw,hd⟩ hm ?_
 bv_omega
 refine t4 hd rfl hv ?_
 rw [si]
 exact .mk hq
def ud (C:Addr):WSp:=λts S Q=>∃ p d n ms c,ts=[.ref p,.int c]/\Wo C S p d n ms/\Q .non (put S p (.ins C [("marks",.ref d),("now",.int (n+c))]))
theorem oP:FnScope iT iT (aj cU):=by nofun
theorem sA {f:Addr}{fd:FuncData}(F:FunD K "fade" "Wood.fade" cU f fd) (T:Txt K mg C Z):FnOk P w K mg base CX0 1 f fd iT (lSp K (ud C)):=by
 refine bM F oP (λts S Q h=>?_) λcdv A outer s H E hr=>?_
 ·obtain ⟨p,d,n,ms,c,rfl,_⟩:=h;rfl
 have nd:=oP.nd
 refine ⟨_,((ao (yi rfl T.gn (ac 0) (ac 1)))),λts S Q h=>?_⟩
 obtain ⟨p,d,n,ms,c,rfl,⟨hw,hd⟩,hq⟩:=h
 ac_nf
 bv_omega
 exact .mk hq
theorem gW {S:Sto}{a:Addr}{o:O}(h:S a=some o):put S a o=S:=by
 funext b
 by_cases e:b=a
 ·subst e;rw [au,h]
 ·rw [ak e]
theorem kU {α:Type}{grd:Sto->Prop}{g:WG}{tt:WT}{te:WE}{Q:List T2.T->Sto->Prop}(f:α->T2.T) (φ:α->Option T2.T) (cs:StT){ls:List α}{S:Sto}(hg:grd S) (hz:ls.length<=sizeLine)
  (step:∀ a∈ls,∀ (u v:Option T2.T) (acc:List T2.T) (N:List T2.T->StT->Sto->Prop),acc.length<sizeLine->(∀ u' v',N (acc++(φ a).toList) (u'::v'::cs) S) ->
   g (f a) (u::v::cs) S λσ2 S2=>tt σ2 S2 λb S3=>if b=true then te σ2 S3 λy S4=>acc.length<sizeLine/\N (acc++[y]) σ2 S4 else N acc σ2 S3)
  (done:Q (ls.filterMap φ) S):dg grd g tt te Q (ls.map f) [] (none::none::cs) S:=by
 refine fP (λitems acc σ' S'=>∃ pre suf u v,ls=pre++suf/\items=suf.map f/\acc=pre.filterMap φ/\σ'=u::v::cs/\S'=S) ⟨[],ls,none,none,rfl,rfl,rfl,rfl,rfl⟩ ?_ ?_
 ·rintro t ts acc σ' S' N ⟨pre,suf,u,v,e,e2,rfl,rfl,rfl⟩ hN
  cases suf with
  |nil=>cases e2
  |cons a r =>
   simp only [List.map_cons,List.cons.injEq] at e2
   obtain ⟨rfl,rfl⟩:=e2
   refine ⟨hg,step a (by rw [e];simp) u v _ N ?_ λu' v'=>hN _ _ _ ⟨pre++[a],r,u',v',by rw [e];simp,rfl,?_,rfl,rfl⟩⟩
   ·have h1:=List.length_filterMap_le φ pre
    have h2:ls.length=pre.length+(r.length+1):=by rw [e];simp
    omega
   ·rw [List.filterMap_append];cases h:φ a<;>simp [h]
 ·rintro acc σ' S' ⟨pre,suf,u,v,e,e2,rfl,rfl,rfl⟩
  have:suf=[]:=by cases suf with|nil=>rfl|cons _ _=>cases e2
  subst this
  rw [List.append_nil] at e
  subst e
  exact ⟨hg,done⟩
def bw (ms:Ms) (b:Str):Ms:=ms.filter λa=>PySem.Txt.startswith a.1 b
def rtd (ms:Ms) (n:Int) (b:Str):List Rt:=(bw ms b).map λa=>(a.1,wrt a.2 n)
theorem ue {ms:Ms}{n:Int}{b:Str}(h:(ms.map (·.1)).Nodup):(rtd ms n b).Nodup:=by
 refine lx ?_
 unfold rtd bw
 rw [List.map_map]
 exact (List.Sublist.map _ (List.filter_sublist)).nodup h
theorem jF (ms:Ms) (n:Int) (b:Str):(rtd ms n b).length<=ms.length:=by
 unfold rtd bw
 rw [List.length_map];exact List.length_filter_le _ _
def jG (C:Addr):WSp:=λts S Q=>∃ p d n ms b,ts=[.ref p,.str b]/\Wo C S p d n ms/\ms.length<=100/\(∀ a∈ms,a.2.2<=n)/\Q (.lst ((rtd ms n b).map rt)) S
theorem oA:FnScope vv3 vv3 (aj cR):=by nofun
theorem qO {f f1:Addr}{fd fd1:FuncData}(F:FunD K "begun" "Wood.begun" cR f fd) (T:Txt K mg C Z) (G_worth_at:FnOk P w K mg base CX0 1 f1 fd1 vv9 (lSp K el)) (D_worth_at:Df K mg "worth_at" f1 fd1 vv9):FnOk P w K mg base CX0 2 f fd vv3 (lSp K (jG C)):=by
 refine bM F oA (λts S Q h=>?_) λcdv A outer s H E hr=>?_
 ·obtain ⟨p,d,n,ms,b,rfl,_⟩:=h;rfl
 have nd:=oA.nd
 refine ⟨_,((ao (aE (F' w rfl (c8 false vv21 2 [0,1] rfl (l9 w rfl rfl (bA rfl T.gm (ac 0))) (λ_ _ _ _=>(h7 (λh=>g5 (n:=2) rfl rfl h) (cG (aS (i:=0) (show List.Nodup (vv21:List Str) from by decide +kernel) rfl (Or.inl rfl)) (cG (aS (i:=1) (show List.Nodup (vv21:List Str) from by decide +kernel) rfl (Or.inl rfl)) g7 (λh1 h2=>cE h1 h2)) (λh1 h2=>cE h1 h2)))) (λ_ _ _ _=>(g8 (bN (bK rfl PySem.F.plainAttrs_str PySem.F.slot_str_startswith PySem.F.type_str_startswith qw (ac 0) (af (ac 3) ag (ae rfl)) (λh1 h2 h3=>bI PySem.F.plainAttrs_str PySem.F.slot_str_startswith PySem.F.type_str_startswith h2 h1 h3))))) (λ_ _ _ _=>(bz (af (ac 0) (af (ax G_worth_at D_worth_at hr.m (by rfl) (af (ac 1) (af (bA rfl T.gn (ac 2)) ag (ae rfl)) (ae rfl))) ag (ae rfl)) (ae rfl))))))))),λts S Q h=>?_⟩
 obtain ⟨p,d,n,ms,b,rfl,W,hl,hn,hq⟩:=h
 have hw:=W.ins
 have hd:=W.dct
 have hpd:=W.ne
 ac_nf
 bv_omega
 intro od kvs
 rw [show (kt mkT ms).map gA=ms.map (λa=>T2.T.tup [.str a.1,mkT a.2]) by unfold kt;rw [List.map_map];rfl]
 refine kU (λa:Str×Int×Int=>T2.T.tup [.str a.1,mkT a.2]) (λa=>if PySem.Txt.startswith a.1 b=true then some (rt (a.1,wrt a.2 n)) else none) [some (.ref p),some (.str b)] au (by rw [sizeLine_eq];omega) (λa ha u v acc N hacc hN=>?_) ?_
 ·have hn1:=hn a ha
  bv_omega
  refine ifB (λhb=>?_) λhb=>?_
  ·bv_omega
   rw [if_pos hb] at hN
   exact ⟨hacc,hN _ _⟩
  ·rw [hb] at hN
   have:=hN (some (.str a.1)) (some (mkT a.2))
   rw [if_neg (by decide),Option.toList_none,List.append_nil] at this
   exact this
 rw [show (ms.filterMap λa=>if PySem.Txt.startswith a.1 b=true then some (rt (a.1,wrt a.2 n)) else none)=(rtd ms n b).map rt by
  unfold rtd bw
  clear hd hl hn hq W
  induction ms with
  |nil=>rfl
  |cons a l ih =>
   rw [List.filterMap_cons,List.filter_cons]
   by_cases e:PySem.Txt.startswith a.1 b=true
   ·rw [if_pos e,if_pos e];simp only [List.map_cons,ih]
   ·rw [if_neg e,if_neg e];exact ih]
 bv_omega
 refine nS au ?_
 rw [bD,gW hd]
 exact .mk hq
def kn (C:Addr):WSp:=λts S Q=>∃ p d n ms b,ts=[.ref p,.str b]/\Wo C S p d n ms/\ms.length<=100/\(∀ a∈ms,a.2.2<=n)/\(bw ms b=[]->Q .non S)/\(bw ms b≠[]->∀ i,i∈(bw ms b).map (λa=>wrt a.2 n)->(∀ j∈(bw ms b).map (λa=>wrt a.2 n),j<=i)->Q (.int i) S)
theorem oj:FnScope ["self","beginning","marks"] vv3 (aj cQ):=by nofun
theorem uf {f f1:Addr}{fd fd1:FuncData}(F:FunD K "top_of" "Wood.top_of" cQ f fd) (T:Txt K mg C Z) (G_greatest_at:FnOk P w K mg base CX0 2 f1 fd1 ["marks","era"] (lSp K sv)) (D_greatest_at:Df K mg "greatest_at" f1 fd1 ["marks","era"]):FnOk P w K mg base CX0 3 f fd vv3 (lSp K (kn C)):=by
 refine bM F oj (λts S Q h=>?_) λcdv A outer s H E hr=>?_
 ·obtain ⟨p,d,n,ms,b,rfl,_⟩:=h;rfl
 have nd:=oj.nd
 refine ⟨_,((am (vv w rfl (gO false (i:=2) vv25 2 [1] rfl nd rfl (Or.inl rfl) (l9 w rfl rfl (bA rfl T.gm (ac 0))) (λ_ _ _ _=>(h7 (λh=>g5 (n:=2) rfl rfl h) (cG (aS (i:=0) (show List.Nodup (vv25:List Str) from by decide +kernel) rfl (Or.inl rfl)) (cG (aS (i:=1) (show List.Nodup (vv25:List Str) from by decide +kernel) rfl (Or.inl rfl)) g7 (λh1 h2=>cE h1 h2)) (λh1 h2=>cE h1 h2)))) (λ_ _ _ _=>(g8 (bN (bK rfl PySem.F.plainAttrs_str PySem.F.slot_str_startswith PySem.F.type_str_startswith qw (ac 0) (af (ac 2) ag (ae rfl)) (λh1 h2 h3=>bI PySem.F.plainAttrs_str PySem.F.slot_str_startswith PySem.F.type_str_startswith h2 h1 h3))))) (λ_ _ _ _=>(ac 1))))
   (ao (aE (ax G_greatest_at D_greatest_at hr.m (by rfl) (af (ac 2) (af (bA rfl T.gn (ac 0)) ag (ae rfl)) (ae rfl))))))),λts S Q h=>?_⟩
 obtain ⟨p,d,n,ms,b,rfl,⟨hw,hd⟩,hl,hn,hq0,hq1⟩:=h
 ac_nf
 bv_omega
 intro od kvs
 rw [show (kt mkT ms).map gA=ms.map (λa=>T2.T.tup [.str a.1,mkT a.2]) by unfold kt;rw [List.map_map];rfl]
 refine kU (λa:Str×Int×Int=>T2.T.tup [.str a.1,mkT a.2]) (λa=>if PySem.Txt.startswith a.1 b=true then some (mkT a.2) else none) [some (.str b)] au (by rw [sizeLine_eq];omega) (λa ha u v acc N hacc hN=>?_) ?_
 ·bv_omega
  refine ifB (λhb=>?_) λhb=>?_
  ·bv_omega
   rw [if_pos hb] at hN
   exact ⟨hacc,hN _ _⟩
  ·rw [hb] at hN
   have:=hN (some (.str a.1)) (some (mkT a.2))
   rw [if_neg (by decide),Option.toList_none,List.append_nil] at this
   exact this
 rw [show (ms.filterMap λa=>if PySem.Txt.startswith a.1 b=true then some (mkT a.2) else none)=((bw ms b).map (·.2)).map mkT by
  unfold bw
  clear hd hl hn hq0 hq1
  induction ms with
  |nil=>rfl
  |cons a l ih =>
   rw [List.filterMap_cons,List.filter_cons]
   by_cases e:PySem.Txt.startswith a.1 b=true
   ·rw [if_pos e,if_pos e];simp only [List.map_cons,ih]
   ·rw [if_neg e,if_neg e];exact ih]
 bv_omega
 refine nS au ?_
 rw [bD,gW hd]
 bv_omega
 have hsub:∀ a∈bw ms b,a∈ms:=λa ha=>(List.mem_filter.mp ha).1
 refine ⟨(bw ms b).map (·.2),n,rfl,?_,?_,?_,?_⟩
 ·rw [List.length_map]
  have:=List.length_filter_le (λa:Str×Int×Int=>PySem.Txt.startswith a.1 b) ms
  unfold bw;omega
 ·intro m hm
  obtain ⟨a,ha,rfl⟩:=List.mem_map.mp hm
  exact hn a (hsub a ha)
 ·intro e
  exact .mk (hq0 (List.map_eq_nil_iff.mp e))
 ·intro e i h1 h2
  rw [List.map_map] at h1 h2
  exact .mk (hq1 (λq=>e (by rw [q];rfl)) i h1 h2)
def nB (C:Addr):WSp:=λts S Q=>∃ p d n,ts=[.ref p]/\S p=some (.ins C [("marks",.ref d),("now",.int n)])/\Q (.int n) S
theorem o7:FnScope aZ aZ (aj cW):=by nofun
theorem ug {f:Addr}{fd:FuncData}(F:FunD K "era" "Wood.era" cW f fd) (T:Txt K mg C Z):FnOk P w K mg base CX0 1 f fd aZ (lSp K (nB C)):=by
 refine bM F o7 (λts S Q h=>?_) λcdv A outer s H E hr=>?_
 ·obtain ⟨p,d,n,rfl,_⟩:=h;rfl
 have nd:=o7.nd
 refine ⟨_,((ao (aE (bA rfl T.gn (ac 0))))),λts S Q h=>?_⟩
 obtain ⟨p,d,n,rfl,hw,hq⟩:=h
 ac_nf
 bv_omega
 exact .mk hq
def vC (C:Addr):WSp:=λts S Q=>∃ p d n ms z m,ts=[.ref p,.str z]/\Wo C S p d n ms/\look ms z=some m/\m.2<=n/\Q (.int (wrt m n)) S
theorem iY:FnScope vv1 vv1 (aj cz):=by nofun
theorem uh {f f1 f2:Addr}{fd fd1 fd2:FuncData}(F:FunD K "worth_of" "Wood.worth_of" cz f fd) (T:Txt K mg C Z) (G_worth_at:FnOk P w K mg base CX0 1 f1 fd1 vv9 (lSp K el)) (D_worth_at:Df K mg "worth_at" f1 fd1 vv9)
  (G_Wood_mark_of:FnOk P w K mg base CX0 1 f2 fd2 vv1 (lSp K (ix C))) (M_Wood_mark_of:Meth K C "mark_of" f2) (B_Wood_mark_of:ay K fd2 vv1 []):FnOk P w K mg base CX0 2 f fd vv1 (lSp K (vC C)):=by
 refine bM F iY (λts S Q h=>?_) λcdv A outer s H E hr=>?_
 ·obtain ⟨p,d,n,ms,z,m,rfl,_⟩:=h;rfl
 have nd:=iY.nd
 refine ⟨_,((ao (aE (ax G_worth_at D_worth_at hr.m (by rfl) (af (a6 (T.gf M_Wood_mark_of) G_Wood_mark_of B_Wood_mark_of hr.m (ac 0) (af (ac 1) ag (ae rfl))) (af (bA rfl T.gn (ac 0)) ag (ae rfl)) (ae rfl)))))),λts S Q h=>?_⟩
 obtain ⟨p,d,n,ms,z,m,rfl,⟨hw,hd⟩,hm,hn,hq⟩:=h
 ac_nf
 bv_omega
 refine mU ⟨hw,hd⟩ hm ?_
 bv_omega
 exact .mk hq
def nC (C:Addr):WSp:=λts S Q=>∃ p d n ms z,ts=[.ref p,.str z]/\Wo C S p d n ms/\Q (.bl (look ms z).isSome) S
theorem o8:FnScope vv1 vv1 (aj cX):=by nofun
theorem ui {f:Addr}{fd:FuncData}(F:FunD K "has" "Wood.has" cX f fd) (T:Txt K mg C Z):FnOk P w K mg base CX0 1 f fd vv1 (lSp K (nC C)):=by
 refine bM F o8 (λts S Q h=>?_) λcdv A outer s H E hr=>?_
 ·obtain ⟨p,d,n,ms,z,rfl,_⟩:=h;rfl
 have nd:=o8.nd
 refine ⟨_,((ao (aE (b9 (nt w rfl) (ac 1) (bA rfl T.gm (ac 0)) (by with_unfolding_all rfl))))),λts S Q h=>?_⟩
 obtain ⟨p,d,n,ms,z,rfl,⟨hw,hd⟩,hq⟩:=h
 ac_nf
 bv_omega
 refine dN hd rfl ?_
 rw [bW,Option.isSome_map,Bool.false_xor]
 exact .mk hq
def kyW (a:Rt):Ky:=.cons (.s a.1) (.cons (.i a.2) .nil)
def unW:T2.T->Ky
 |.tup [.str z,.int i]=>.cons (.s z) (.cons (.i i) .nil)
 |_=>.nil
def eU (l:List Rt):Prop:=(l.map (·.1)).Pairwise λx y=>Ky.lt (.s y) (.s x)=false
theorem zS (ms:Ms) (n:Int):rtd ms n ""=ms.map λa=>(a.1,wrt a.2 n):=by
 unfold rtd bw
 rw [List.filter_eq_self.mpr λa _=>?_]
 rw [Tm.i7]
 refine decide_eq_true ?_
 have e:=Tm.d6 a.1 0
 have:Tm.tl (PySem.Txt.slice a.1 none (some 0))=Tm.tl (Str.ofString ""):=by
  rw [show (some (0:Int))=some ((0:Nat):Int) from rfl,e];rfl
 cases h:PySem.Txt.slice a.1 none (some (((Str.ofString "").length:Nat):Int)) with
 |mk cps =>
  have h2:PySem.Txt.slice a.1 none (some 0)=⟨cps⟩:=h
  rw [h2] at this
  show (⟨cps⟩:Str)=⟨#[]⟩
  congr 1
  exact Array.toList_inj.mp this
def fQ (C:Addr):WSp:=λts S Q=>∃ p d n ms,ts=[.ref p]/\Wo C S p d n ms/\ms.length<=60/\(∀ a∈ms,a.2.2<=n)/\(ms.map (·.1)).Nodup/\(∀ a∈ms,Wm.Wd a.1=true)/\∀ l:List Rt,l.Perm (ms.map λa=>(a.1,wrt a.2 n))->eU l->Q (.lst (l.map rt)) S
theorem oB:FnScope aZ aZ (aj cS):=by nofun
theorem p8 {f f2:Addr}{fd fd2:FuncData}(F:FunD K "words" "Wood.words" cS f fd) (T:Txt K mg C Z)
  (G_Wood_begun:FnOk P w K mg base CX0 2 f2 fd2 vv3 (lSp K (jG C))) (M_Wood_begun:Meth K C "begun" f2) (B_Wood_begun:ay K fd2 vv3 []):FnOk P w K mg base CX0 4 f fd aZ (lSp K (fQ C)):=by
 refine bM F oB (λts S Q h=>?_) λcdv A outer s H E hr=>?_
 ·obtain ⟨p,d,n,ms,rfl,_⟩:=h;rfl
 have nd:=oB.nd
 refine ⟨_,((ao (aE (aF (DO false rfl hr.m) (by rfl) T.sorted PyProof.Rows.boot_sorted (af (a6 (T.gf M_Wood_begun) G_Wood_begun B_Wood_begun hr.m (ac 0) (af aM ag (ae rfl))) ag (ae rfl)))))),λts S Q h=>?_⟩
 obtain ⟨p,d,n,ms,rfl,W,hl,hn,hnd,hwd,hq⟩:=h
 have hw:=W.ins
 ac_nf
 bv_omega
 refine ⟨p,d,n,ms,_,rfl,W,by omega,hn,?_⟩
 rw [zS]
 bv_omega
 refine DP (ls:=ms.map λa=>(a.1,wrt a.2 n)) kyW unW (.cons (.s ⟨#[]⟩) (.cons (.i 0) .nil)) rfl (λa _=>rfl) (by rw [List.length_map];omega) rfl (by decide) (λa ha=>⟨?_,rfl⟩) λl' hp hs=>?_
 ·obtain ⟨x,hx,rfl⟩:=List.mem_map.mp ha
  have:=Wm.nj (hwd x hx)
  simp [kyW,S6.Ky.ok,S6.Ky.ok.isRow,this]
 ·refine .mk (hq l' hp ?_)
  have hnd2:(l'.map (·.1)).Nodup:=(hp.map _).nodup_iff.mpr (by rw [List.map_map];exact hnd)
  unfold eU
  unfold List.Nodup at hnd2
  rw [List.pairwise_map] at hnd2 ⊢
  refine (hs.and hnd2).imp fun {x y} q=>?_
  have q1:Ky.lt (kyW y) (kyW x)=false:=q.1
  unfold kyW Ky.lt at q1
  rw [if_neg (λe=>q.2 (Ky.s.inj e).symm)] at q1
  exact q1
def jU:WSp:=λts S Q=>∃ a:Rt,ts=[rt a]/\Q (tre (ky a)) S
theorem Ec {S:Sto}{Q:T->Sto->Prop}{a:Rt}(h:Q (tre (ky a)) S):jU ([rt a]++[]) S Q:=⟨a,rfl,h⟩
theorem o9:FnScope ["pair"] ["pair"] (aj fD):=by nofun
theorem BL {f:Addr}{fd:FuncData}(F:Fun K "rank_key" "rank_key" fD f fd):FnOk P w K mg base CX0 1 f fd ["pair"] (lSp K jU):=by
 refine aW F o9 (λts S Q h=>?_) λcdv A outer s H E hr=>?_
 ·obtain ⟨a,rfl,_⟩:=h;rfl
 have nd:=o9.nd
 refine ⟨_,((ao (aE (bz (af (iG (az rfl (ac 0) ai (λ_ _=>rfl))) (af (az rfl (ac 0) ai (λ_ _=>rfl)) ag (ae rfl)) (ae rfl)))))),λts S Q h=>?_⟩
 obtain ⟨a,rfl,hq⟩:=h
 rw [DE] at hq
 ac_nf
 unfold rt
 bv_omega
 exact .mk hq
def uj:WSp:=λts S Q=>∃ (x:T2.T) (l:List Rt) (m:Int),ts=[x,.int m]/\aH S x=some (l.map rt)/\l.length<64/\l.Nodup/\0<=m/\Q (.lst (((bst l).take m.toNat).map rt)) S
theorem pB:FnScope iU iU (aj fM):=by nofun
theorem BM {f f1:Addr}{fd fd1:FuncData}(F:Fun K "best_of" "best_of" fM f fd) (T:Txt K mg C Z) (G_rank_key:FnOk P w K mg base CX0 1 f1 fd1 ["pair"] (lSp K jU)) (D_rank_key:Df K mg "rank_key" f1 fd1 ["pair"]):FnOk P w K mg base CX0 4 f fd iU (lSp K uj):=by
 refine aW F pB (λts S Q h=>?_) λcdv A outer s H E hr=>?_
 ·obtain ⟨x,l,m,rfl,_⟩:=h;rfl
 have nd:=pB.nd
 refine ⟨_,((ao (aE (cH false rfl (Bd false rfl G_rank_key D_rank_key hr.m (by rfl) T.sorted (by rfl) (af (ac 0) ag (ae rfl))) cY (cj (ac 1)))))),λts S Q h=>?_⟩
 obtain ⟨x,l,m,rfl,hv,h64,hn,hm,hq⟩:=h
 ac_nf
 bv_omega
 refine Be kyT (ky ("",0)) hv h64 rfl (by decide) (λa ha=>⟨rfl,rfl,λS' Q' q=>⟨a,rfl,q⟩⟩) λl' p hs=>?_
 rw [yu hn p hs]
 bv_omega
 rw [rM hm]
 exact .mk hq
def iy (C:Addr):WSp:=λts S Q=>∃ p d n ms b m,ts=[.ref p,.str b,.int m]/\Wo C S p d n ms/\ms.length<=60/\(∀ a∈ms,a.2.2<=n)/\(ms.map (·.1)).Nodup/\0<=m/\Q (.lst (((bst (rtd ms n b)).take m.toNat).map rt)) S
theorem oQ:FnScope vv2 vv2 (aj cV):=by nofun
theorem sB {f f1 f2:Addr}{fd fd1 fd2:FuncData}(F:FunD K "told" "Wood.told" cV f fd) (T:Txt K mg C Z)
  (G_Wood_begun:FnOk P w K mg base CX0 2 f1 fd1 vv3 (lSp K (jG C))) (M_Wood_begun:Meth K C "begun" f1) (B_Wood_begun:ay K fd1 vv3 [])
  (G_best_of:FnOk P w K mg base CX0 4 f2 fd2 iU (lSp K uj)) (D_best_of:Df K mg "best_of" f2 fd2 iU):FnOk P w K mg base CX0 5 f fd vv2 (lSp K (iy C)):=by
 refine bM F oQ (λts S Q h=>?_) λcdv A outer s H E hr=>?_
 ·obtain ⟨p,d,n,ms,b,m,rfl,_⟩:=h;rfl
 have nd:=oQ.nd
 refine ⟨_,((ao (aE (ax G_best_of D_best_of hr.m (by rfl) (af (a6 (T.gf M_Wood_begun) G_Wood_begun B_Wood_begun hr.m (ac 0) (af (ac 1) ag (ae rfl))) (af (ac 2) ag (ae rfl)) (ae rfl)))))),λts S Q h=>?_⟩
 obtain ⟨p,d,n,ms,b,m,rfl,W,hl,hn,hnd,hm,hq⟩:=h
 have hw:=W.ins
 ac_nf
 bv_omega
 refine ⟨p,d,n,ms,b,rfl,W,by omega,hn,?_⟩
 bv_omega
 have hlen:=jF ms n b
 refine ⟨_,rtd ms n b,m,rfl,rfl,by omega,ue hnd,hm,?_⟩
 exact .mk hq
def jH (C XA:Addr):cx:=λts S R=>∃ p d n ms z,ts=[.ref p,.str z]/\Wo C S p d n ms/\look ms z=none/\z.length<=1000/\PyData.strOk z=true/\R XA S
theorem sC {f:Addr}{fd:FuncData}(F:FunD K "mark_of" "Wood.mark_of" cA f fd) (T:Txt K mg C Z):FnOk P w K mg base (CX1 P w) 1 f fd vv1 (bE K (jH C Z.A)):=by
 refine hE F iZ (λts S Q h=>?_) λcdv A outer s H E hr=>?_
 ·obtain ⟨p,d,n,ms,z,rfl,_⟩:=h;rfl
 have nd:=iZ.nd
 refine ⟨_,((bC (gB (aK (jq w rfl) (ac 1) (bA rfl T.gm (ac 0)) (by with_unfolding_all rfl)) (bC (ly T.x_Absent T.k_Absent rfl (by rfl) T.mg_Absent (af (nv rfl hr.gd hr.units (ac 1)) ag (ae rfl))))
    k7))),λts S Q h=>?_⟩
 obtain ⟨p,d,n,ms,z,rfl,⟨hw,hd⟩,hm,hz,hzo,hq⟩:=h
 have hv:aR (kt mkT ms) (Sum.inr z)=none:=by rw [bW,hm];rfl
 ac_nf
 bv_omega
 refine dN hd rfl ?_
 rw [hv]
 subst_eqs
 bv_omega
 refine ⟨⟨_,rfl,mi hz hzo⟩,λe=>?_⟩
 bv_omega
 exact ⟨Nat.le_of_ble_eq_true rfl,.mk hq⟩
def ul (C XN XT:Addr):cx:=λts S R=>∃ p d n ms t c,ts=[.ref p,t,.int c]/\Wo C S p d n ms/\(Bad t/\R XN S\/∃ z m,t=.str z/\z.length<=1000/\PyData.strOk z=true/\Wm.Wd z=true/\look ms z=some m/\R XT S)
theorem uo {f f1:Addr}{fd fd1:FuncData}(F:FunD K "put" "Wood.put" cD f fd) (T:Txt K mg C Z) (G_is_word:FnOk P w K mg base CX0 3 f1 fd1 ["thing"] (lSp K jr)) (D_is_word:Df K mg "is_word" f1 fd1 ["thing"]):FnOk P w K mg base (CX1 P w) 4 f fd vv7 (bE K (ul C Z.N Z.T)):=by
 refine hE F ja (λts S Q h=>?_) λcdv A outer s H E hr=>?_
 ·obtain ⟨p,d,n,ms,t,c,rfl,_⟩:=h;rfl
 have nd:=ja.nd
 refine ⟨_,((DX (bC (gB (dE (bN (ax G_is_word D_is_word hr.m (by rfl) (af (ac 1) ag (ae rfl))))) (bC (ly T.x_NoWord T.k_NoWord rfl (by rfl) T.mg_NoWord (af (nv rfl hr.gd hr.units (ac 1)) ag (ae rfl))))
    k7))
   (zJ (aQ (dE (bN (ax G_is_word D_is_word hr.m (by rfl) (af (ac 1) ag (ae rfl)))))
    (ao jv)
    a8)
   (bC (gB (aK (nt w rfl) (ac 1) (bA rfl T.gm (ac 0)) (by with_unfolding_all rfl)) (bC (ly T.x_Twice T.k_Twice rfl (by rfl) T.mg_Twice (af (nv rfl hr.gd hr.units (ac 1)) ag (ae rfl))))
    k7))))),λts S Q h=>?_⟩
 obtain ⟨p,d,n,ms,t,c,rfl,⟨hw,hd⟩,h⟩:=h
 ac_nf
 rcases h with ⟨hm,hq⟩|⟨z,m,rfl,hz,hzo,hm,hl,hq⟩
 ·refine Gv (wI ?_)
  bv_omega
  refine hm.isw ?_
  bv_omega
  refine ⟨hm.fr,λe=>?_⟩
  bv_omega
  exact ⟨Nat.le_of_ble_eq_true rfl,.mk hq⟩
 ·have hv:aR (kt mkT ms) (Sum.inr z)=some (mkT m):=by rw [bW,hl];rfl
  refine Gx (t7 ?_)
  bv_omega
  refine ⟨_,rfl,.inl ⟨z,rfl,hz,?_⟩⟩
  rw [hm]
  bv_omega
  refine dN hd rfl ?_
  rw [hv]
  subst_eqs
  bv_omega
  refine ⟨⟨_,rfl,mi hz hzo⟩,λe=>?_⟩
  bv_omega
  exact ⟨Nat.le_of_ble_eq_true rfl,.mk hq⟩
def uq (C XA:Addr):cx:=λts S R=>∃ p d n ms z c,ts=[.ref p,.str z,.int c]/\Wo C S p d n ms/\look ms z=none/\z.length<=1000/\PyData.strOk z=true/\R XA S
theorem ur {f f1 f2:Addr}{fd fd1 fd2:FuncData}(F:FunD K "use" "Wood.use" bU f fd) (T:Txt K mg C Z) (D_used_mark:Df K mg "used_mark" f1 fd1 gJ)
  (R_Wood_mark_of:FnOk P w K mg base (CX1 P w) 1 f2 fd2 vv1 (bE K (jH C Z.A))) (M_Wood_mark_of:Meth K C "mark_of" f2) (B_Wood_mark_of:ay K fd2 vv1 []):FnOk P w K mg base (CX1 P w) 3 f fd vv6 (bE K (uq C Z.A)):=by
 refine hE F jb (λts S Q h=>?_) λcdv A outer s H E hr=>?_
 ·obtain ⟨p,d,n,ms,z,c,rfl,_⟩:=h;rfl
 have nd:=jb.nd
 refine ⟨_,((bC (D8 (qK D_used_mark (by rfl) (qJ (fU (T.gf M_Wood_mark_of) R_Wood_mark_of B_Wood_mark_of hr.m (ac 0) (af (ac 1) ag (ae rfl)))))))),λts S Q h=>?_⟩
 obtain ⟨p,d,n,ms,z,c,rfl,W,hm,hz,hzo,hq⟩:=h
 have hw:=W.ins
 ac_nf
 bv_omega
 exact ⟨p,d,n,ms,z,rfl,W,hm,hz,hzo,.mk hq⟩
def ji (C XA:Addr):cx:=λts S R=>∃ p d n ms z,ts=[.ref p,.str z]/\Wo C S p d n ms/\look ms z=none/\z.length<=1000/\PyData.strOk z=true/\R XA S
theorem p9 {f f2:Addr}{fd fd2:FuncData}(F:FunD K "strike" "Wood.strike" cB f fd) (T:Txt K mg C Z)
  (R_Wood_mark_of:FnOk P w K mg base (CX1 P w) 1 f2 fd2 vv1 (bE K (jH C Z.A))) (M_Wood_mark_of:Meth K C "mark_of" f2) (B_Wood_mark_of:ay K fd2 vv1 []):FnOk P w K mg base (CX1 P w) 3 f fd vv1 (bE K (ji C Z.A)):=by
 refine hE F i6 (λts S Q h=>?_) λcdv A outer s H E hr=>?_
 ·obtain ⟨p,d,n,ms,z,rfl,_⟩:=h;rfl
 have nd:=i6.nd
 refine ⟨_,((bC (g9 (fU (T.gf M_Wood_mark_of) R_Wood_mark_of B_Wood_mark_of hr.m (ac 0) (af (ac 1) ag (ae rfl)))))),λts S Q h=>?_⟩
 obtain ⟨p,d,n,ms,z,rfl,W,hm,hz,hzo,hq⟩:=h
 have hw:=W.ins
 ac_nf
 bv_omega
 exact ⟨p,d,n,ms,z,rfl,W,hm,hz,hzo,.mk hq⟩
theorem ut {f f1 f2:Addr}{fd fd1 fd2:FuncData}(F:FunD K "worth_of" "Wood.worth_of" cz f fd) (T:Txt K mg C Z) (D_worth_at:Df K mg "worth_at" f1 fd1 vv9)
  (R_Wood_mark_of:FnOk P w K mg base (CX1 P w) 1 f2 fd2 vv1 (bE K (jH C Z.A))) (M_Wood_mark_of:Meth K C "mark_of" f2) (B_Wood_mark_of:ay K fd2 vv1 []):FnOk P w K mg base (CX1 P w) 3 f fd vv1 (bE K (ji C Z.A)):=by
 refine hE F iY (λts S Q h=>?_) λcdv A outer s H E hr=>?_
 ·obtain ⟨p,d,n,ms,z,rfl,_⟩:=h;rfl
 have nd:=iY.nd
 refine ⟨_,((bC (DU (qK D_worth_at (by rfl) (qJ (fU (T.gf M_Wood_mark_of) R_Wood_mark_of B_Wood_mark_of hr.m (ac 0) (af (ac 1) ag (ae rfl)))))))),λts S Q h=>?_⟩
 obtain ⟨p,d,n,ms,z,rfl,W,hm,hz,hzo,hq⟩:=h
 have hw:=W.ins
 ac_nf
 bv_omega
 exact ⟨p,d,n,ms,z,rfl,W,hm,hz,hzo,.mk hq⟩
structure Shw (D:List PyData):Prop where
 sh:PyData.showable (.list D)=true
 nd:PyData.hasDict (.list D)=false
 dp:PyData.depth (.list D)<=60
 sz:(PyData.shown (.list D)).length<=sizeLine
def One (e:PyData):Prop:=(PyData.shown e).length<=5000/\PyData.showable e=true/\PyData.hasDict e=false/\PyData.depth e<=5
theorem wO:∀ {D:List PyData},(∀ e∈D,One e)->((PyData.shownAll D).map (·.length)).sum<=5000 * D.length/\(PyData.shownAll D).length=D.length/\PyData.showableAll D=true/\PyData.hasDictAll D=false/\PyData.depthAll D<=5
 |[],_=>⟨Nat.le_refl _,rfl,rfl,rfl,by simp [PyData.depthAll]⟩
 |a::l,h=>by
  obtain ⟨r1,r2,r3,r4⟩:=h a List.mem_cons_self
  obtain ⟨i1,i2,i3,i4,i5⟩:=wO (D:=l) λb hb=>h b (List.mem_cons_of_mem _ hb)
  refine ⟨?_,?_,?_,?_,?_⟩
  ·simp only [List.map_cons,PyData.shownAll,List.sum_cons,List.length_cons]
   omega
  ·simp only [PyData.shownAll,List.length_cons,i2]
  ·simp only [PyData.showableAll,r2,i3,Bool.and_self]
  ·simp only [PyData.hasDictAll,r3,i4,Bool.or_self]
  ·simp only [PyData.depthAll,Nat.max_le];exact ⟨r4,i5⟩
theorem uu {D:List PyData}(hl:D.length<64) (h:∀ e∈D,One e):Shw D:=by
 obtain ⟨i1,i2,i3,i4,i5⟩:=wO h
 refine ⟨by simp only [PyData.showable];exact i3,by simp only [PyData.hasDict];exact i4,by simp only [PyData.depth];omega,?_⟩
 have e1:=listText_len_le (PyData.shownAll D)
 show (listText (PyData.shownAll D)).length<=sizeLine
 rw [sizeLine_eq]
 omega
theorem uv {z:Int}(h3:0<=z) (h4:z<=1000000000000):z.natAbs.log2<1920:=by
 by_cases hz:z.natAbs=0
 ·rw [hz];decide
 ·exact (Nat.log2_lt hz).mpr (Nat.lt_of_lt_of_le (show z.natAbs<2 ^ 40 by omega) (Nat.pow_le_pow_right (by decide) (by decide)))
theorem zT {a:Str}(h:Wm.Wd a=true):(reprText a).length<=300:=by
 have hl:=Wm.eF h
 have e2:=StrLaws.reprText_len a λc hc=>by
  rcases Wm.qD h c hc with e|e
  ·rw [e];decide
  ·simp only [Sc.isL,Bool.and_eq_true,decide_eq_true_eq] at e;omega
 omega
theorem uw {a:Rt}(h:Wm.Wd a.1=true) (h3:0<=a.2) (h4:a.2<=1000000000000):One (.tuple [.str a.1,.int a.2]):=by
 have hlog:=uv h3 h4
 refine ⟨?_,?_,by simp only [PyData.hasDict,PyData.hasDictAll,Bool.or_self],by simp [PyData.depth,PyData.depthAll]⟩
 ·have e1:=tupleText_len_le [reprText a.1,Str.ofString (toString a.2)]
  have e2:=zT h
  have e3:(Str.ofString (toString a.2)).length<=1921:=by rw [PySem.ofString_length];exact int_text_length_le (by decide) hlog
  simp only [List.map_cons,List.map_nil,List.sum_cons,List.sum_nil,List.length_cons,List.length_nil] at e1
  show (tupleText [reprText a.1,Str.ofString (toString a.2)]).length<=5000
  omega
 ·simp only [PyData.showable,PyData.showableAll,Bool.and_true,Bool.true_and,decide_eq_true_eq]
  exact hlog
def jj:WSp:=λts S Q=>∃ c t:Int,ts=[.int c,.int t]/\0<=c/\c<18446744073709551616/\0<=t/\Q (.int (c / 2 ^ t.toNat)) S
theorem zL {S:Sto}{Q:T->Sto->Prop}{c t:Int}(h1:0<=c) (h2:c<18446744073709551616) (h3:0<=t) (h:Q (.int (c / 2 ^ t.toNat)) S):jj ([.int c,.int t]++[]) S Q:=⟨c,t,rfl,h1,h2,h3,h⟩
theorem oE:FnScope ["_law_count_here","_law_times","_law_k"] kN (aj fg):=by nofun
theorem yG {f:Addr}{fd:FuncData}(F:Fun K "_law_halved" "_law_halved" fg f fd) (T:Txt K mg C Z):FnOk P w K mg base CX0 1 f fd kN (lSp K jj):=by
 refine aW F oE (λts S Q h=>?_) λcdv A outer s H E hr=>?_
 ·obtain ⟨c,t,rfl,_⟩:=h;rfl
 have nd:=oE.nd
 refine ⟨_,((am (dJ PassesOwn.never rfl (gN (by rfl) T.range (aF (E1 rfl) (by rfl) T.min PyProof.Rows.boot_min (af ai (af (ac 1) ag (ae rfl)) (ae rfl)))) (aS (i:=2) nd rfl (Or.inl rfl))
    (ao (aD (i:=0) nd rfl (Or.inl rfl) (aC m7 (ac 0) ai))))
   (ao (aE (ac 0))))),λts S Q h=>?_⟩
 obtain ⟨c,t,rfl,h1,h2,h3,hq⟩:=h
 ac_nf
 bv_omega
 refine pt (λk σ' S'=>(∃ u,σ'=[some (.int (c / 2 ^ k)),some (.int t),u])/\S'=S) ⟨⟨none,by simp⟩,rfl⟩ ?_ ?_
 ·rintro k σ' S' N hk ⟨⟨u,rfl⟩,rfl⟩ hN
  refine ⟨trivial,?_⟩
  bv_omega
  refine hN _ _ ⟨⟨some (.int (0+(k:Int))),?_⟩,rfl⟩
  rw [Int.pow_succ,<- Int.ediv_ediv_of_nonneg (Int.le_of_lt (Int.pow_pos (by decide)))]
 ·rintro σ' S' ⟨⟨u,rfl⟩,rfl⟩
  refine ⟨trivial,?_⟩
  bv_omega
  refine .mk ?_
  split
  ·exact hq
  ·have e1:c / 2 ^ (64:Int).toNat=0:=Int.ediv_eq_zero_of_lt h1 (by simpa using h2)
   have e2:c / 2 ^ t.toNat=0:=by
    refine Int.ediv_eq_zero_of_lt h1 ?_
    have h4:(2:Int) ^ 64<=2 ^ t.toNat:=by
     have:=Nat.pow_le_pow_right (n:=2) (by decide) (show 64<=t.toNat by omega)
     exact_mod_cast this
    have:(2:Int) ^ 64=18446744073709551616:=by decide
    omega
   rw [e1];rw [e2] at hq;exact hq
def vD:WSp:=λts S Q=>∃ p n o,∃ ws:List Str,ts=[.ref p,.lst (ws.map T2.T.str)]/\ws≠[]/\ws.length<=1000/\(∀ x∈ws,x.length<=24)/\S p=some o/\Fd n o/\n+5<1000000000/\∀ (b:Str) o',b.length<=24->Fd (n+5) o'->Q (.str b) (put S p o')
theorem BN {α:Type}{ls:List α}{lo hi:Option Int}:∀ x∈bY ls lo hi,x∈ls:=λx hx=>List.mem_of_mem_drop (List.mem_of_mem_take hx)
theorem BO {α:Type}{ls:List α}{lo hi:Option Int}:(bY ls lo hi).length<=ls.length:=by
 unfold bY
 rw [List.length_take,List.length_drop];omega
theorem n5:FnScope ["_law_feed_here","_law_words_here","_law_word_here","_law_parts","_law_tail","_law_text"] kL (aj eW):=by nofun
theorem Eh {f f1:Addr}{fd fd1:FuncData}(F:Fun K "_law_beginning" "_law_beginning" eW f fd) (T:Txt K mg C Z) (G__law_draw:FnOk P w K mg base CX0 1 f1 fd1 vv0 (lSp K db)) (D__law_draw:Df K mg "_law_draw" f1 fd1 vv0):FnOk P w K mg base CX0 2 f fd kL (lSp K vD):=by
 refine aW F n5 (λts S Q h=>?_) λcdv A outer s H E hr=>?_
 ·obtain ⟨p,n,o,ws,rfl,_⟩:=h;rfl
 have nd:=n5.nd
 refine ⟨_,((am (aD (i:=2) nd rfl (Or.inl rfl) (az rfl (ac 1) (ax G__law_draw D__law_draw hr.m (by rfl) (af (ac 0) (af (aF (a9 rfl) (by rfl) T.len PySem.boot_len (af (ac 1) ag (ae rfl))) ag (ae rfl)) (ae rfl))) (λ_ _=>rfl)))
   (am (aD (i:=3) nd rfl (Or.inl rfl) (bK rfl PySem.F.plainAttrs_str PySem.F.slot_str_split PySem.F.type_str_split (lW false) (ac 2) (af aM ag (ae rfl)) (λh1 h2 h3=>bI PySem.F.plainAttrs_str PySem.F.slot_str_split PySem.F.type_str_split h2 h1 h3)))
   (am (aD (i:=4) nd rfl (Or.inl rfl) (bK rfl PySem.F.plainAttrs_str PySem.F.slot_str_join PySem.F.type_str_join (jO rfl) aM (af (cH false rfl (ac 3) (cj (ax G__law_draw D__law_draw hr.m (by rfl) (af (ac 0) (af (aF (a9 rfl) (by rfl) T.len PySem.boot_len (af (ac 3) ag (ae rfl))) ag (ae rfl)) (ae rfl)))) cY) ag (ae rfl)) (λh1 h2 h3=>bI PySem.F.plainAttrs_str PySem.F.slot_str_join PySem.F.type_str_join h2 h1 h3)))
   (am (aD (i:=5) nd rfl (Or.inl rfl) (cH false rfl (az rfl (bn (af (ac 2) (af (ac 4) ag (ae rfl)) (ae rfl))) (ax G__law_draw D__law_draw hr.m (by rfl) (af (ac 0) (af ai ag (ae rfl)) (ae rfl))) (λ_ _=>rfl)) cY (cj (ax G__law_draw D__law_draw hr.m (by rfl) (af (ac 0) (af (aC (aT false) (aF (a9 rfl) (by rfl) T.len PySem.boot_len (af (ac 2) ag (ae rfl))) ai) ag (ae rfl)) (ae rfl))))))
   (ao (aE (cH false rfl (aC (aT false) (ac 5) (az rfl (bn (af aM (af aM (af aM (af aM (af aM (af aM ag (ae rfl)) (ae rfl)) (ae rfl)) (ae rfl)) (ae rfl)) (ae rfl))) (ax G__law_draw D__law_draw hr.m (by rfl) (af (ac 0) (af ai ag (ae rfl)) (ae rfl))) (λ_ _=>rfl))) cY (cj ai))))))))),λts S Q h=>?_⟩
 obtain ⟨p,n,o,ws,rfl,hne,hwl,hws,hp,hf,hn,hq⟩:=h
 have hpos:=List.length_pos_iff.mpr hne
 ac_nf
 bv_omega
 have hzl:=hws z hz
 have hsl:=PyProof.Rows.split_le z " "
 have hsn:0<(Txt.split z " ").length:=List.length_pos_iff.mpr (Tm.gS z)
 bv_omega
 have hcl:=BO (ls:=Txt.split z " ") (lo:=some r) (hi:=none)
 have hcm:∀ y∈bY (Txt.split z " ") (some r) none,y.length<=24:=λy hy=>Nat.le_trans (Tm.kZ (BN y hy)) hzl
 refine rK (Tm.jo _) (Tm.jS (b:=24) hcm ?_) ?_
 ·rw [Tm.d5]
  have:(bY (Txt.split z " ") (some r) none).length<=26:=by omega
  omega
 have htl:(Txt.join " " (bY (Txt.split z " ") (some r) none)).length<=650:=by
  have h1:=Tm.l6 " " (bY (Txt.split z " ") (some r) none) hcm
  rw [Tm.d5] at h1
  omega
 generalize Txt.join " " (bY (Txt.split z " ") (some r) none)=tl at htl ⊢
 bv_omega
 refine eO (λt=>∃ y:Str,t=.str y/\y.length<=650) hr0 ?_ ?_ ?_
 ·simpa using hr1
 ·intro t ht
  simp only [List.mem_cons,List.not_mem_nil,or_false] at ht
  rcases ht with rfl|rfl
  ·exact ⟨_,rfl,by omega⟩
  ·exact ⟨_,rfl,htl⟩
 rintro _ ⟨y,rfl,hyl⟩
 bv_omega
 rename_i r1 o1 h10 h11 f1
 have hsy:=PySem.Txt.slice_le y none (some r1)
 generalize PySem.Txt.slice y none (some r1)=ys at hsy ⊢
 refine eO (λt=>∃ y:Str,t=.str y/\y.length<=1) hr0 ?_ ?_ ?_
 ·simpa using hr1
 ·intro t ht
  simp only [List.mem_cons,List.not_mem_nil,or_false] at ht
  rcases ht with rfl|rfl|rfl|rfl|rfl|rfl<;>exact ⟨_,rfl,by decide +kernel⟩
 rintro _ ⟨x,rfl,hxl⟩
 bv_omega
 have h24:=Tm.xp (ys++x) (k:=24) (by decide)
 exact .mk (hq _ _ h24 (hfd.mono (by omega)))
theorem GF {x:T2.T}{r:List (Key×T2.T)}:aR ((.inr "marks",x)::r) (.inr "marks")=some x:=rfl
theorem GH {x y z:T2.T}{r:List (Key×T2.T)}:aR ((.inr "marks",x)::(.inr "era",y)::(.inr "hidden",z)::r) (.inr "hidden")=some z:=rfl
theorem GG {x y:T2.T}{r:List (Key×T2.T)}:aR ((.inr "marks",x)::(.inr "era",y)::r) (.inr "era")=some y:=rfl
structure Mk2 (n:Int) (ms:Ms):Prop where
 len:ms.length<=60
 old:∀ a∈ms,a.2.2<=n
 nd:(ms.map (·.1)).Nodup
 wd:∀ a∈ms,Wm.Wd a.1=true
 rng:∀ a∈ms,0<=a.2.1/\a.2.1<=1000000000000
def jI:WSp:=λts S Q=>∃ a b:Rt,ts=[rt a,rt b]/\Q (.bl (ah a b)) S
theorem sD {S:Sto}{Q:T->Sto->Prop}{a b:Rt}(h:Q (.bl (ah a b)) S):jI ([rt a,rt b]++[]) S Q:=⟨a,b,rfl,h⟩
theorem pb:FnScope eT eT (aj fF):=by nofun
theorem zU {f f1:Addr}{fd fd1:FuncData}(F:Fun K "ahead_of" "ahead_of" fF f fd) (T:Txt K mg C Z) (G_rank_key:FnOk P w K mg base CX0 1 f1 fd1 ["pair"] (lSp K jU)) (D_rank_key:Df K mg "rank_key" f1 fd1 ["pair"]):FnOk P w K mg base CX0 2 f fd eT (lSp K jI):=by
 refine aW F pb (λts S Q h=>?_) λcdv A outer s H E hr=>?_
 ·obtain ⟨a,b,rfl,_⟩:=h;rfl
 have nd:=pb.nd
 refine ⟨_,((ao (aE (b9 (FU rfl hr.units) (ax G_rank_key D_rank_key hr.m (by rfl) (af (ac 0) ag (ae rfl))) (ax G_rank_key D_rank_key hr.m (by rfl) (af (ac 1) ag (ae rfl))) (aJ _))))),λts S Q h=>?_⟩
 obtain ⟨a,b,rfl,hq⟩:=h
 ac_nf
 bv_omega
 refine DA (kh a) (kh b) (gi a b) (by simp [ky,Ky.dep]) ?_
 exact .mk hq
abbrev Gs:=List (Str×Addr×List Rt)
def rf (x:Addr×List Rt):T2.T:=.ref x.1
structure Gr (S0 S:Sto) (g:Addr) (gs:Gs):Prop where
 dct:S g=some (.dK (kt rf gs))
 lst:∀ x∈gs,S x.2.1=some (.lst (x.2.2.map rt))
 nda:(gs.map (·.2.1)).Nodup
 ndk:(gs.map (·.1)).Nodup
 old:∀ a o,S0 a=some o->S a=some o
 new:S0 g=none
 newL:∀ x∈gs,S0 x.2.1=none
def cont (gs:Gs):List (Str×List Rt):=gs.map λx=>(x.1,x.2.2)
def dk (c:List (Str×List Rt)) (k:Str) (a:Rt):List (Str×List Rt):=pu c k ((look c k).getD []++[a])
def groups (text:Str) (l:List Rt):List (Str×List Rt):=l.foldl (λc a=>if a.1=text then c else dk c (PySem.Txt.slice a.1 none (some ((text.length:Int)+1))) a) []
theorem jf (text:Str) (l:List Rt) (a:Rt):groups text (l++[a])=if a.1=text then groups text l else dk (groups text l) (PySem.Txt.slice a.1 none (some ((text.length:Int)+1))) a:=by
 unfold groups
 rw [List.foldl_append]
 rfl
theorem qa (k:Str):∀ gs:Gs,look (cont gs) k=(look gs k).map (·.2):=λgs=>by
 unfold cont
 exact qM (λx:Addr×List Rt=>x.2) k gs
theorem Gr.add {S0 S:Sto}{g p:Addr}{gs:Gs}{k:Str}{a:Rt}(h:Gr S0 S g gs) (hp:S p=none) (hk:look gs k=none):Gr S0 (put (put (put S p (.lst [])) g (.dK (kt rf (gs++[(k,p,[a])])))) p (.lst ([]++[rt a]))) g (gs++[(k,p,[a])])/\cont (gs++[(k,p,[a])])=dk (cont gs) k a:=by
 have hgp:g≠p:=λe=>by have:=h.dct;rw [e,hp] at this;cases this
 have hlp:∀ x∈gs,x.2.1≠p:=λx hx e=>by have:=h.lst x hx;rw [e,hp] at this;cases this
 have hlg:∀ x∈gs,x.2.1≠g:=λx hx e=>by have:=h.lst x hx;rw [e,h.dct] at this;cases this
 have hkm:=b7.mp hk
 refine ⟨⟨?_,λx hx=>?_,?_,?_,λb o hb=>?_,h.new,λx hx=>?_⟩,?_⟩
 ·rw [ak hgp];exact au
 ·rcases List.mem_append.mp hx with hx|hx
  ·rw [ak (hlp x hx),ak (hlg x hx),ak (hlp x hx)];exact h.lst x hx
  ·rw [List.mem_singleton.mp hx];exact au
 ·rw [List.map_append,List.nodup_append]
  refine ⟨h.nda,by simp,λx hx y hy e=>?_⟩
  obtain ⟨z,hz,rfl⟩:=List.mem_map.mp hx
  rw [List.map_singleton,List.mem_singleton] at hy
  exact hlp z hz (e.trans hy)
 ·rw [List.map_append,List.nodup_append]
  refine ⟨h.ndk,by simp,λx hx y hy e=>?_⟩
  rw [List.map_singleton,List.mem_singleton] at hy
  exact hkm (by have h2:=hx;rw [e,hy] at h2;exact h2)
 ·have h1:=h.old b o hb
  rw [ak (λe=>by rw [e,hp] at h1;cases h1),ak (λe=>by rw [e,h.new] at hb;cases hb),ak (λe=>by rw [e,hp] at h1;cases h1)];exact h1
 ·rcases List.mem_append.mp hx with hx|hx
  ·exact h.newL x hx
  ·rw [List.mem_singleton.mp hx]
   cases q:S0 p with
   |none=>rfl
   |some o=>rw [h.old p o q] at hp;cases hp
 ·unfold dk
  rw [qa,hk]
  show cont (gs++[(k,p,[a])])=pu (cont gs) k ([]++[a])
  rw [ir _ (by unfold cont;rw [List.map_map];exact hkm)]
  unfold cont
  rw [List.map_append]
  rfl
theorem Gr.more {S0 S:Sto}{g p:Addr}{gs:Gs}{k:Str}{a:Rt}{x:Addr×List Rt}(h:Gr S0 S g gs) (hp:S p=none) (hk:look gs k=some x):Gr S0 (put (put S p (.lst [])) x.1 (.lst (x.2.map rt++[rt a]))) g (gs.map λy=>if y.1=k then (y.1,y.2.1,y.2.2++[a]) else y)/\cont (gs.map λy=>if y.1=k then (y.1,y.2.1,y.2.2++[a]) else y)=dk (cont gs) k a:=by
 have hx:=d8 hk
 have hgp:g≠p:=λe=>by have:=h.dct;rw [e,hp] at this;cases this
 have hlp:∀ x∈gs,x.2.1≠p:=λx hx e=>by have:=h.lst x hx;rw [e,hp] at this;cases this
 have hgx:g≠x.1:=λe=>by have:=h.lst _ hx;dsimp only at this;rw [<- e,h.dct] at this;cases this
 have hu:∀ y∈gs,y.1=k->y=(k,x):=λy hy e=>by
  have:=sj h.ndk hy
  rw [e,hk] at this
  exact Prod.ext e (Option.some.inj this).symm
 have hua:∀ y∈gs,y.2.1=x.1->y=(k,x):=λy hy e=>by
  have hp:=List.pairwise_map.mp h.nda
  by_cases q:y=(k,x)
  ·exact q
  ·obtain ⟨i,hi,ei⟩:=List.mem_iff_getElem.mp hy
   obtain ⟨j,hj,ej⟩:=List.mem_iff_getElem.mp hx
   rcases Nat.lt_trichotomy i j with l|l|l
   ·have:=List.pairwise_iff_getElem.mp hp i j hi hj l
    rw [ei,ej] at this;exact absurd e this
   ·subst l;rw [ei] at ej;exact ej
   ·have:=List.pairwise_iff_getElem.mp hp j i hj hi l
    rw [ei,ej] at this;exact absurd e.symm this
 have ea:(gs.map λy=>if y.1=k then (y.1,y.2.1,y.2.2++[a]) else y).map (·.2.1)=gs.map (·.2.1):=by
  rw [List.map_map];refine List.map_congr_left λy _=>?_;simp only [Function.comp];split<;>rfl
 have ek:(gs.map λy=>if y.1=k then (y.1,y.2.1,y.2.2++[a]) else y).map (·.1)=gs.map (·.1):=by
  rw [List.map_map];refine List.map_congr_left λy _=>?_;simp only [Function.comp];split<;>rfl
 refine ⟨⟨?_,λy' hy'=>?_,by rw [ea];exact h.nda,by rw [ek];exact h.ndk,λb o hb=>?_,h.new,λy' hy'=>?_⟩,?_⟩
 ·rw [ak hgx,ak hgp,h.dct]
  congr 2
  unfold kt
  rw [List.map_map]
  refine List.map_congr_left λy _=>?_
  simp only [Function.comp]
  split<;>rfl
 ·obtain ⟨y,hy,rfl⟩:=List.mem_map.mp hy'
  by_cases q:y.1=k
  ·rw [if_pos q]
   have e:=hu y hy q
   subst e
   dsimp only
   rw [List.map_append]
   exact au
  ·rw [if_neg q,ak (λe=>q (by rw [hua y hy e])),ak (hlp y hy)]
   exact h.lst y hy
 ·have h1:=h.old b o hb
  rw [ak (λe=>by have:=h.newL _ hx;dsimp only at this;rw [<- e,hb] at this;cases this),ak (λe=>by rw [e,hp] at h1;cases h1)]
  exact h1
 ·obtain ⟨y,hy,rfl⟩:=List.mem_map.mp hy'
  by_cases q:y.1=k
  ·rw [if_pos q];exact h.newL y hy
  ·rw [if_neg q];exact h.newL y hy
 ·unfold dk
  rw [qa,hk]
  unfold pu
  rw [if_pos (by unfold cont;rw [List.any_map,List.any_eq_true];exact ⟨(k,x),hx,decide_eq_true rfl⟩)]
  unfold cont
  rw [List.map_map,List.map_map]
  refine List.map_congr_left λy hy=>?_
  simp only [Function.comp]
  by_cases q:y.1=k
  ·rw [if_pos q,if_pos q,hu y hy q]
   rfl
  ·rw [if_neg q,if_neg q]
theorem js {S S':Sto}{x:T2.T}{ts:List T2.T}(h:∀ a o,S a=some o->S' a=some o) (e:aH S x=some ts):aH S' x=some ts:=by
 cases x with
 |ref a =>
  delta aH at e ⊢
  dsimp only at e ⊢
  cases q:S a with
  |none=>rw [q] at e;cases e
  |some o=>rw [q] at e;rw [h a o q];exact e
 |_=>exact e
def lJ:WSp:=λts S Q=>∃ (text:Str) (x:T2.T) (l:List Rt),ts=[.str text,x]/\aH S x=some (l.map rt)/\l.length<=200/\text.length<=1000/\(∀ a∈l,a.1.length<=24)/\∀ S' g gs,Gr S S' g gs->cont gs=groups text l->Q (.ref g) S'
theorem n6:FnScope ["text","rated","groups","pair"] gK (aj eV):=by nofun
theorem yH {f:Addr}{fd:FuncData}(F:Fun K "longer_groups" "longer_groups" eV f fd) (T:Txt K mg C Z):FnOk P w K mg base CX0 1 f fd gK (lSp K lJ):=by
 refine aW F n6 (λts S Q h=>?_) λcdv A outer s H E hr=>?_
 ·obtain ⟨text,x,l,rfl,_⟩:=h;rfl
 have nd:=n6.nd
 refine ⟨_,((am (aD (i:=2) nd rfl (Or.inl rfl) jT)
   (am (dJ PassesOwn.never rfl (bV rfl (ac 1)) (aS (i:=3) nd rfl (Or.inl rfl))
    (ao (aQ (aK (dQ rfl hr.units) (az rfl (ac 3) ai (λ_ _=>rfl)) (ac 0) (aJ _))
    (ao (bx (bK rfl PySem.F.plainAttrs_list PySem.F.slot_list_append PySem.F.type_list_append zc (bK rfl PySem.F.plainAttrs_dict PySem.F.slot_dict_setdefault PySem.F.type_dict_setdefault zx (ac 2) (af (cH false rfl (az rfl (ac 3) ai (λ_ _=>rfl)) cY (cj (aC (aT false) (aF (a9 rfl) (by rfl) T.len PySem.boot_len (af (ac 0) ag (ae rfl))) ai))) (af (h6 ag) ag (ae rfl)) (ae rfl)) (λh1 h2 h3=>bI PySem.F.plainAttrs_dict PySem.F.slot_dict_setdefault PySem.F.type_dict_setdefault h2 h1 h3)) (af (ac 3) ag (ae rfl)) (λh1 h2 h3=>bI PySem.F.plainAttrs_list PySem.F.slot_list_append PySem.F.type_list_append h2 h1 h3))))
    a8)))
   (ao (aE (ac 2)))))),λts S Q h=>?_⟩
 obtain ⟨text,x,l,rfl,hv,h64,htl,hal,hq⟩:=h
 ac_nf
 bv_omega
 intro g hg
 have hG0:Gr S (put S g (.dK [])) g []:=⟨au,by simp,by simp,by simp,λa o ha=>(ak (λe=>by rw [e,hg] at ha;cases ha)).trans ha,hg,by simp⟩
 bv_omega
 refine ⟨_,js hG0.old hv,?_⟩
 dsimp only
 refine jy (λrest σ' S'=>∃ pre gs u,l=pre++rest/\σ'=[some (.str text),some x,some (.ref g),u]/\Gr S S' g gs/\cont gs=groups text pre/\gs.length<=pre.length/\∀ x∈gs,x.2.2.length<=pre.length) ⟨[],[],none,rfl,rfl,hG0,rfl,Nat.le_refl _,by simp⟩ ?_ ?_
 ·rintro a rest σ' S' N ⟨pre,gs,u,hl,rfl,hG,hc,hlen,hll⟩ hN
  have ha24:=hal a (by rw [hl];simp)
  have hpl:pre.length<=200:=by
   have:=congrArg List.length hl
   rw [List.length_append,List.length_cons] at this
   omega
  have hgd:=hG.dct
  have hgl:∀ y:Nat,(kt rf gs).length<sizeLine:=λ_=>by rw [iw,sizeLine_eq];omega
  refine ⟨jD (js hG.old hv),?_⟩
  bv_omega
  refine ifB (λhb=>?_) λhb=>?_
  ·have hne:a.1≠text:=λe=>by rw [e,decide_eq_true rfl] at hb;cases hb
   bv_omega
   intro p hp
   have hgp:g≠p:=λe=>by have:=hG.dct;rw [e,hp] at this;cases this
   bv_omega
   cases hk:look gs (PySem.Txt.slice a.1 none (some ((text.length:Int)+1))) with
   |none =>
    obtain ⟨r1,r2⟩:=hG.add (a:=a) hp hk
    refine yw (y:=T2.T.str (PySem.Txt.slice a.1 none (some ((text.length:Int)+1)))) (k:=.inr (PySem.Txt.slice a.1 none (some ((text.length:Int)+1)))) ((ak hgp).trans hG.dct) rfl (hgl 0) (by rw [bW,hk];rfl) ?_
    rw [show T2.T.ref p=rf (p,[a]) from rfl,iq,ir _ (b7.mp hk)]
    have hpp:put (put S' p (.lst [])) g (.dK (kt rf (gs++[(PySem.Txt.slice a.1 none (some ((text.length:Int)+1)),p,[a])]))) p=some (.lst []):=(ak (Ne.symm hgp)).trans au
    unfold rf at hpp ⊢
    bv_omega
    refine qz hpp (by simp [sizeLine_eq]) ?_
    exact hN _ _ ⟨pre++[a],_,_,by rw [hl,List.append_assoc];rfl,rfl,r1,by rw [r2,hc,jf,if_neg hne],by simp;omega,λz hz=>by
     rw [List.length_append,List.length_singleton]
     rcases List.mem_append.mp hz with hz|hz
     ·have:=hll z hz;omega
     ·rw [List.mem_singleton.mp hz];simp⟩
   |some y =>
    obtain ⟨r1,r2⟩:=hG.more (a:=a) hp hk
    have hy:=hG.lst _ (d8 hk)
    have hyp:y.1≠p:=λe=>by dsimp only at hy;rw [e,hp] at hy;cases hy
    refine yv (y:=T2.T.str (PySem.Txt.slice a.1 none (some ((text.length:Int)+1)))) (k:=.inr (PySem.Txt.slice a.1 none (some ((text.length:Int)+1)))) ((ak hgp).trans hG.dct) rfl (hgl 0) (t:=.ref y.1) (by rw [bW,hk];rfl) ?_
    have hyy:put S' p (.lst []) y.1=some (.lst (y.2.map rt)):=(ak hyp).trans hy
    bv_omega
    refine qz hyy (by have:=hll _ (d8 hk);dsimp only at this;rw [List.length_map,sizeLine_eq];omega) ?_
    exact hN _ _ ⟨pre++[a],_,_,by rw [hl,List.append_assoc];rfl,rfl,r1,by rw [r2,hc,jf,if_neg hne],by simp;omega,λz hz=>by
     obtain ⟨z,hz2,rfl⟩:=List.mem_map.mp hz
     have:=hll z hz2
     rw [List.length_append,List.length_singleton]
     by_cases q:z.1=PySem.Txt.slice a.1 none (some ((text.length:Int)+1))
     ·rw [if_pos q];dsimp only;rw [List.length_append,List.length_singleton];omega
     ·rw [if_neg q];omega⟩
  ·have he:a.1=text:=by
    by_cases e:a.1=text
    ·exact e
    ·rw [decide_eq_false e] at hb;cases hb
   bv_omega
   exact hN _ _ ⟨pre++[a],gs,_,by rw [hl,List.append_assoc];rfl,rfl,hG,by rw [hc,jf,if_pos he],by simp;omega,λz hz=>by rw [List.length_append,List.length_singleton];have:=hll z hz;omega⟩
 ·rintro σ' S' ⟨pre,gs,u,hl,rfl,hG,hc,hlen,hll⟩
  rw [List.append_nil] at hl
  subst hl
  refine ⟨jD (js hG.old hv),?_⟩
  bv_omega
  exact .mk (hq S' g gs hG hc)
abbrev Br:=Str×Bool×Int
def br (b:Br):T2.T:=.tup [.str b.1,.bl b.2.1,.int b.2.2]
def b6:List Rt->Int
 |[]=>0
 |a::l=>if ∀ b∈l,b.2<=a.2 then a.2 else b6 l
theorem mj:∀ {l:List Rt}{m:Int},m∈l.map (·.2)->(∀ j∈l.map (·.2),j<=m)->b6 l=m
 |[],m,h1,h2=>by cases h1
 |a::l,m,h1,h2=>by
  rw [b6]
  by_cases e:∀ b∈l,b.2<=a.2
  ·rw [if_pos e]
   have h3:=h2 a.2 (by simp)
   rcases List.mem_cons.mp h1 with h|h
   ·exact h.symm
   ·obtain ⟨b,hb,rfl⟩:=List.mem_map.mp h
    have:=e b hb
    omega
  ·rw [if_neg e]
   refine mj ?_ λj hj=>h2 j (List.mem_cons_of_mem _ hj)
   rcases List.mem_cons.mp h1 with h|h
   ·exact absurd (λb hb=>by have h:m=a.2:=h;rw [<- h];exact h2 b.2 (List.mem_cons_of_mem _ (List.mem_map_of_mem hb))) e
   ·exact h
def brs:Nat->Rt->Str->List Rt->List Br
 |0,_,_,_=>[]
 |n+1,last,text,l=>if ah last (text,b6 l)=true then [(text,true,b6 l)] else
   ((l.filter λa=>decide (a.1=text)&&ah last a).map λa=>(text,false,a.2))++(groups text l).flatMap λx=>brs n last x.1 x.2
def kyG (text:Str) (a:Rt):Str:=PySem.Txt.slice a.1 none (some ((text.length:Int)+1))
def inG (text k:Str) (a:Rt):Bool:=decide (a.1≠text)&&decide (kyG text a=k)
theorem gq (text:Str):∀ (n:Nat) (l:List Rt),l.length=n->∃ ks:List Str,ks.Nodup/\groups text l=ks.map (λk=>(k,l.filter (inG text k)))/\∀ k,k∈ks ↔ ∃ a∈l,a.1≠text/\kyG text a=k
 |0,l,h=>by
  obtain rfl:=List.length_eq_zero_iff.mp h
  exact ⟨[],.nil,rfl,by simp⟩
 |n+1,l,h=>by
  rcases List.eq_nil_or_concat l with rfl|⟨m,a,e⟩
  ·cases h
  rw [List.concat_eq_append] at e
  subst e
  obtain ⟨ks,hnd,hg,hk⟩:=gq text n m (by simpa using h)
  rw [jf]
  by_cases ea:a.1=text
  ·rw [if_pos ea]
   refine ⟨ks,hnd,?_,λk=>?_⟩
   ·rw [hg]
    refine List.map_congr_left λk _=>?_
    rw [List.filter_append,List.filter_cons,if_neg (by unfold inG;rw [decide_eq_false (by simpa using ea)];simp),List.filter_nil,List.append_nil]
   ·rw [hk]
    constructor
    ·rintro ⟨b,hb,h1⟩
     exact ⟨b,List.mem_append.mpr (.inl hb),h1⟩
    ·rintro ⟨b,hb,h1,h2⟩
     rcases List.mem_append.mp hb with hb|hb
     ·exact ⟨b,hb,h1,h2⟩
     ·rw [List.mem_singleton.mp hb] at h1;exact absurd ea h1
  ·rw [if_neg ea]
   change ∃ ks:List Str,ks.Nodup/\dk (groups text m) (kyG text a) a=_/\_
   have hkeys:(groups text m).map (·.1)=ks:=by rw [hg,List.map_map];exact List.map_id'' (λ_=>rfl) ks
   have hin:∀ k,inG text k a=decide (kyG text a=k):=λk=>by unfold inG;rw [decide_eq_true ea,Bool.true_and]
   have hfl:∀ k,(m++[a]).filter (inG text k)=m.filter (inG text k)++if kyG text a=k then [a] else []:=λk=>by
    rw [List.filter_append,List.filter_cons,hin,List.filter_nil]
    by_cases q:kyG text a=k
    ·rw [if_pos (decide_eq_true q),if_pos q]
    ·rw [if_neg (by simpa using q),if_neg q]
   by_cases hm:kyG text a∈ks
   ·refine ⟨ks,hnd,?_,λk=>?_⟩
    ·have hlk:look (groups text m) (kyG text a)=some (m.filter (inG text (kyG text a))):=by
      have:=sj (l:=groups text m) (by rw [hkeys];exact hnd) (a:=(kyG text a,m.filter (inG text (kyG text a)))) (by rw [hg];exact List.mem_map_of_mem hm)
      exact this
     unfold dk pu
     rw [hlk,if_pos (by rw [List.any_eq_true];exact ⟨_,d8 hlk,decide_eq_true rfl⟩),hg,List.map_map]
     refine List.map_congr_left λk _=>?_
     simp only [Function.comp,Option.getD_some]
     rw [hfl]
     by_cases q:k=kyG text a
     ·rw [if_pos q,q,if_pos rfl]
     ·rw [if_neg q,if_neg (λz=>q z.symm),List.append_nil]
    ·rw [hk]
     constructor
     ·rintro ⟨b,hb,h1⟩
      exact ⟨b,List.mem_append.mpr (.inl hb),h1⟩
     ·rintro ⟨b,hb,h1,h2⟩
      rcases List.mem_append.mp hb with hb|hb
      ·exact ⟨b,hb,h1,h2⟩
      ·rw [List.mem_singleton.mp hb] at h2
       rw [<- h2];exact (hk _).mp hm
   ·refine ⟨ks++[kyG text a],?_,?_,λk=>?_⟩
    ·rw [List.nodup_append]
     exact ⟨hnd,by simp,λx hx y hy e=>hm (by rw [List.mem_singleton] at hy;rw [<- hy,<- e];exact hx)⟩
    ·have hlk:look (groups text m) (kyG text a)=none:=b7.mpr (by rw [hkeys];exact hm)
     unfold dk
     rw [hlk,Option.getD_none,List.nil_append,ir _ (by rw [hkeys];exact hm),hg,List.map_append]
     congr 1
     ·refine List.map_congr_left λk hk'=>?_
      rw [hfl,if_neg (λz=>hm (by rw [z];exact hk')),List.append_nil]
     ·rw [List.map_singleton,hfl,if_pos rfl,List.filter_eq_nil_iff.mpr,List.nil_append]
      intro b hb
      unfold inG
      simp only [Bool.and_eq_true,decide_eq_true_eq,not_and]
      intro h1 h2
      exact hm ((hk _).mpr ⟨b,hb,h1,h2⟩)
    ·rw [List.mem_append,List.mem_singleton,hk]
     constructor
     ·rintro (⟨b,hb,h1⟩|h1)
      ·exact ⟨b,List.mem_append.mpr (.inl hb),h1⟩
      ·exact ⟨a,by simp,ea,h1.symm⟩
     ·rintro ⟨b,hb,h1,h2⟩
      rcases List.mem_append.mp hb with hb|hb
      ·exact .inl ⟨b,hb,h1,h2⟩
      ·rw [List.mem_singleton.mp hb] at h2;exact .inr h2.symm
theorem sE {α:Type}(f g:α->Nat):∀ ks:List α,(ks.map λk=>f k+g k).sum=(ks.map f).sum+(ks.map g).sum
 |[]=>rfl
 |k::ks=>by simp only [List.map_cons,List.sum_cons,sE f g ks];omega
theorem BP {ks:List Str}(h:ks.Nodup) (x:Str):(ks.map λk=>if x=k then 1 else 0).sum<=1:=by
 induction ks with
 |nil=>simp
 |cons k ks ih =>
  rw [List.nodup_cons] at h
  simp only [List.map_cons,List.sum_cons]
  by_cases e:x=k
  ·have:(ks.map λk=>if x=k then 1 else 0)=ks.map λ_=>0:=List.map_congr_left λy hy=>if_neg λz=>h.1 (by rw [<- e,z];exact hy)
   rw [if_pos e,this]
   have:∀ l:List Str,(l.map λ_=>0).sum=0:=λl=>by induction l with|nil=>rfl|cons _ _ ih=>simp [ih]
   rw [this];omega
  ·rw [if_neg e];have:=ih h.2;omega
theorem qb (text:Str){ks:List Str}(h:ks.Nodup):∀ l:List Rt,(ks.map λk=>(l.filter (inG text k)).length).sum+(l.filter λa=>decide (a.1=text)).length<=l.length
 |[]=>by
  have:∀ l:List Str,(l.map λ_=>0).sum=0:=λl=>by induction l with|nil=>rfl|cons _ _ ih=>simp [ih]
  simp [this]
 |a::l=>by
  have ih:=qb text h l
  have e:(ks.map λk=>((a::l).filter (inG text k)).length)=ks.map λk=>(if inG text k a=true then 1 else 0)+(l.filter (inG text k)).length:=List.map_congr_left λk _=>by
   rw [List.filter_cons]
   by_cases q:inG text k a=true
   ·rw [if_pos q,if_pos q,List.length_cons];omega
   ·rw [if_neg q,if_neg q];omega
  rw [e,sE,List.filter_cons,List.length_cons]
  by_cases q:a.1=text
  ·have e2:(ks.map λk=>if inG text k a=true then 1 else 0)=ks.map λ_=>0:=List.map_congr_left λk _=>by unfold inG;rw [decide_eq_false (by simpa using q),Bool.false_and,if_neg (by decide)]
   have:∀ l:List Str,(l.map λ_=>0).sum=0:=λl=>by induction l with|nil=>rfl|cons _ _ ih=>simp [ih]
   rw [e2,this,if_pos (decide_eq_true q),List.length_cons];omega
  ·have e2:(ks.map λk=>if inG text k a=true then 1 else 0)=ks.map λk=>if kyG text a=k then 1 else 0:=List.map_congr_left λk _=>by unfold inG;rw [decide_eq_true q,Bool.true_and];simp only [decide_eq_true_eq]
   rw [e2,if_neg (by simpa using q)]
   have:=BP h (kyG text a)
   omega
theorem qP {α β:Type}(f:α->List β) (g:α->Nat):∀ ks:List α,(∀ k∈ks,(f k).length<=g k)->(ks.flatMap f).length<=(ks.map g).sum
 |[],_=>Nat.le_refl _
 |k::ks,h=>by
  rw [List.flatMap_cons,List.length_append,List.map_cons,List.sum_cons]
  have:=h k List.mem_cons_self
  have:=qP f g ks λx hx=>h x (List.mem_cons_of_mem _ hx)
  omega
theorem jV {text:Str}{l:List Rt}{x:Str×List Rt}(h:x∈groups text l):x.2≠[]:=by
 obtain ⟨ks,hnd,hg,hk⟩:=gq text _ l rfl
 rw [hg] at h
 obtain ⟨k,hk2,rfl⟩:=List.mem_map.mp h
 obtain ⟨a,ha,h1,h2⟩:=(hk k).mp hk2
 intro z
 have:a∈l.filter (inG text k):=List.mem_filter.mpr ⟨ha,by unfold inG;rw [decide_eq_true h1,decide_eq_true h2];rfl⟩
 dsimp only at z
 rw [z] at this;cases this
theorem mm:∀ (n:Nat) (last:Rt) (text:Str) (l:List Rt),l≠[]->(brs n last text l).length<=l.length
 |0,_,_,_,_=>Nat.zero_le _
 |n+1,last,text,l,hne=>by
  rw [brs]
  split
  ·have:=List.length_pos_iff.mpr hne
   rw [List.length_singleton];omega
  ·obtain ⟨ks,hnd,hg,hk⟩:=gq text _ l rfl
   rw [List.length_append,List.length_map]
   have h1:=qP (λx:Str×List Rt=>brs n last x.1 x.2) (λx=>x.2.length) (groups text l) λx hx=>mm n last x.1 x.2 (jV hx)
   have h2:((groups text l).map λx=>x.2.length)=ks.map λk=>(l.filter (inG text k)).length:=by rw [hg,List.map_map];rfl
   rw [h2] at h1
   have h3:=qb text hnd l
   have h4:(l.filter λa=>decide (a.1=text)&&ah last a).length<=(l.filter λa=>decide (a.1=text)).length:=by
    rw [<- List.countP_eq_length_filter,<- List.countP_eq_length_filter]
    exact List.countP_mono_left λa _ h=>by rw [Bool.and_eq_true] at h;exact h.1
   omega
theorem dG {z t:Str}(h:PySem.Txt.startswith z t=true) (hn:z≠t):t.length<z.length:=by
 rw [Tm.c9,decide_eq_true_eq] at h
 have h1:=congrArg List.length h
 rw [List.length_take,Tm.len,Tm.len] at h1
 by_cases e:t.length<z.length
 ·exact e
 ·refine absurd (Tm.ext ?_) hn
  rw [<- h,List.take_of_length_le]
  rw [Tm.len,Tm.len];omega
theorem BQ {z t:Str}(h:t.length<z.length):(PySem.Txt.slice z none (some ((t.length:Int)+1))).length=t.length+1:=by
 have e:((t.length:Int)+1)=((t.length+1:Nat):Int):=by omega
 rw [e,<- Tm.len,Tm.d6,List.length_take,Tm.len];omega
theorem lK {z t k:Str}(h:t.length<z.length) (e:PySem.Txt.slice z none (some ((t.length:Int)+1))=k):PySem.Txt.startswith z k=true/\k.length=t.length+1:=by
 have hl:k.length=t.length+1:=by rw [<- e];exact BQ h
 refine ⟨?_,hl⟩
 rw [Tm.i7,decide_eq_true_eq,hl,<- e]
 rfl
theorem jW {text:Str}{l:List Rt}(hs:∀ a∈l,PySem.Txt.startswith a.1 text=true){x:Str×List Rt}(h:x∈groups text l):x.1.length=text.length+1/\(∀ a∈x.2,PySem.Txt.startswith a.1 x.1=true)/\(∀ a∈x.2,a∈l)/\x.2.length<=l.length:=by
 obtain ⟨ks,hnd,hg,hk⟩:=gq text _ l rfl
 rw [hg] at h
 obtain ⟨k,hk2,rfl⟩:=List.mem_map.mp h
 obtain ⟨a,ha,h1,h2⟩:=(hk k).mp hk2
 dsimp only
 refine ⟨(lK (dG (hs a ha) h1) h2).2,λb hb=>?_,λb hb=>(List.mem_filter.mp hb).1,List.length_filter_le _ _⟩
 obtain ⟨hb1,hb2⟩:=List.mem_filter.mp hb
 unfold inG at hb2
 simp only [Bool.and_eq_true,decide_eq_true_eq] at hb2
 exact (lK (dG (hs b hb1) hb2.1) hb2.2).1
theorem ko {α β:Type}(p:α->Bool) (f:α->β):∀ l:List α,(l.filterMap λa=>if p a=true then some (f a) else none)=(l.filter p).map f
 |[]=>rfl
 |a::l=>by
  have ih:=ko p f l
  rw [List.filterMap_cons,List.filter_cons]
  by_cases e:p a=true
  ·rw [if_pos e,if_pos e];simp only [List.map_cons,ih]
  ·rw [if_neg e,if_neg e];exact ih
def iV (tr:Bool) (n:Nat):WSp:=λts S Q=>∃ (last:Rt) (text:Str) (x:T2.T) (l:List Rt),ts=[rt last,.str text,x]/\aH S x=some (l.map rt)/\l≠[]/\l.length<=200/\(∀ a∈l,a.1.length<=24)/\(∀ a∈l,PySem.Txt.startswith a.1 text=true)/\25<=text.length+n/\newL tr ((brs n last text l).map br) S Q
theorem BR (l:List Rt):dL (l.filterMap λa=>some (T2.T.int a.2))=some (l.map (·.2)):=by
 rw [show (l.filterMap λa:Rt=>some (T2.T.int a.2))=(l.map (·.2)).map T2.T.int by rw [Wm.jC,List.map_map];rfl]
 exact Tm.lj _
theorem mo {tr:Bool}{S S':Sto}{Q:T2.T->Sto->Prop}{b:Addr}{ts:List T2.T}(hb:S b=none) (e:S' b=some (.lst ts)) (l:Le S S') (h:newL tr ts S Q):Fin Q (.ref b) S':=by
 cases tr with
 |false=>exact .frz e l hb h
 |true =>
  refine .le (S0:=T2.put S b (.lst ts)) (λa o ha=>?_) (h b hb)
  by_cases q:a=b
  ·rw [q] at ha ⊢;rw [au] at ha;rw [e];exact ha
  ·rw [ak q] at ha;exact l a o ha
theorem zV (gs:Gs):(kt rf gs).map gA=gs.map λx=>T2.T.tup [.str x.1,.ref x.2.1]:=by unfold kt;rw [List.map_map];rfl
theorem nZ:FnScope ["last","text","rated","top","branches","longer","group"] dY (aj dZ):=by nofun
theorem Ei {tr:Bool}{f f1 f2:Addr}{fd fd1 fd2:FuncData}{n:Nat}(F:Fun K "branches_behind" "branches_behind" dZ f fd) (T:Txt K mg C Z)
  (G_ahead_of:FnOk P w K mg base CX0 2 f1 fd1 eT (lSp K jI)) (D_ahead_of:Df K mg "ahead_of" f1 fd1 eT)
  (G_longer_groups:FnOk P w K mg base CX0 1 f2 fd2 gK (lSp K lJ)) (D_longer_groups:Df K mg "longer_groups" f2 fd2 gK)
  (G_branches_behind:FnOk P w K mg base CX0 (n+3) f fd dY (lSp K (iV false n))) (D_branches_behind:Df K mg "branches_behind" f fd dY) :
  FnOk P w K mg base CX0 (n+4) f fd dY (lSp K (iV tr (n+1))):=by
 refine aW F nZ (λts S Q h=>?_) λcdv A outer s H E hr=>?_
 ·obtain ⟨last,text,x,l,rfl,_⟩:=h;rfl
 have nd:=nZ.nd
 refine ⟨_,((am (aD (i:=3) nd rfl (Or.inl rfl) (aF (m9 rfl rfl) (by rfl) T.max PyProof.Rows.boot_max (af (c8 false ["pair"] 1 [] rfl (bV rfl (ac 2)) (λ_ _ _ _=>(aS (i:=0) (show List.Nodup (["pair"]:List Str) from by decide +kernel) rfl (Or.inl rfl))) (λ_ _ _ _=>cZ) (λ_ _ _ _=>(az rfl (ac 0) ai (λ_ _=>rfl)))) ag (ae rfl))))
   (am (aQ (bN (ax G_ahead_of D_ahead_of (hr.mono (by omega)) (by rfl) (af (ac 0) (af (bz (af (ac 1) (af (ac 3) ag (ae rfl)) (ae rfl))) ag (ae rfl)) (ae rfl))))
    (ao (aE (h6 (af (bz (af (ac 1) (af cg (af (ac 3) ag (ae rfl)) (ae rfl)) (ae rfl))) ag (ae rfl)))))
    a8)
   (am (gO true (i:=4) ["pair","text","last"] 1 [1,0] rfl nd rfl (Or.inl rfl) (bV rfl (ac 2)) (λ_ _ _ _=>(aS (i:=0) (show List.Nodup (["pair","text","last"]:List Str) from by decide +kernel) rfl (Or.inl rfl))) (λ_ _ _ _=>(g8 (du (iE (aK (bu rfl hr.units) (az rfl (ac 0) ai (λ_ _=>rfl)) (ac 1) (aJ _)) (jN (bN (ax G_ahead_of D_ahead_of (hr.mono (by omega)) (by rfl) (af (ac 2) (af (ac 0) ag (ae rfl)) (ae rfl))))))))) (λ_ _ _ _=>(bz (af (ac 1) (af cg (af (az rfl (ac 0) ai (λ_ _=>rfl)) ag (ae rfl)) (ae rfl)) (ae rfl)))))
   (am (vv w rfl (dJ PassesOwn.never rfl (l9 w rfl rfl (ax G_longer_groups D_longer_groups (hr.mono (by omega)) (by rfl) (af (ac 1) (af (ac 2) ag (ae rfl)) (ae rfl)))) (h7 (λh=>g5 (n:=2) rfl rfl h) (cG (aS (i:=5) nd rfl (Or.inl rfl)) (cG (aS (i:=6) nd rfl (Or.inl rfl)) g7 (λh1 h2=>cE h1 h2)) (λh1 h2=>cE h1 h2)))
    (ao (bx (bK rfl PySem.F.plainAttrs_list PySem.F.slot_list_extend PySem.F.type_list_extend zy (ac 4) (af (ax G_branches_behind D_branches_behind (hr.mono (by omega)) (by rfl) (af (ac 0) (af (ac 5) (af (ac 6) ag (ae rfl)) (ae rfl)) (ae rfl))) ag (ae rfl)) (λh1 h2 h3=>bI PySem.F.plainAttrs_list PySem.F.slot_list_extend PySem.F.type_list_extend h2 h1 h3))))))
   (ao (aE (ac 4)))))))),λts S Q h=>?_⟩
 obtain ⟨last,text,x,l,rfl,hv,hne,h200,h24,hst,hn,hq⟩:=h
 have htl:text.length<=24:=by
  cases l with
  |nil=>exact absurd rfl hne
  |cons a l =>
   have h1:=hst a List.mem_cons_self
   have h2:=h24 a List.mem_cons_self
   by_cases e:a.1=text
   ·rw [<- e];exact h2
   ·have:=dG h1 e;omega
 ac_nf
 bv_omega
 refine ⟨_,hv,?_⟩
 dsimp only
 refine d0 rt (λa:Rt=>some (.int a.2)) [] (jD hv) (by rw [sizeLine_eq];omega) (λa ha u acc N hacc hN=>?_) ?_
 ·bv_omega
  exact ⟨hacc,hN _⟩
 bv_omega
 refine mI (BR l) (by simpa using hne) λm hm1 hm2=>?_
 have hm:=mj hm1 hm2
 subst hm
 bv_omega
 refine sD (a:=last) (b:=(text,b6 l)) ?_
 rw [brs] at hq
 bv_omega
 refine ifB (λhb=>?_) λhb=>?_
 ·rw [if_pos hb] at hq
  bv_omega
  exact λp hp=>mo hp au (.put hp) hq
 rw [if_neg (by rw [hb];decide)] at hq
 bv_omega
 refine ⟨_,hv,?_⟩
 dsimp only
 refine d0 rt (λa:Rt=>if (decide (a.1=text)&&ah last a)=true then some (br (text,false,a.2)) else none) [some (.str text),some (rt last)] (jD hv) (by rw [sizeLine_eq];omega) (λa ha u acc N hacc hN=>?_) ?_
 ·have h0:=hN (some (rt a))
  bv_omega
  rw [Bool.false_xor]
  refine ifB (λhb=>?_) λhb=>?_
  ·rw [hb,Bool.true_and] at h0
   bv_omega
   refine sD (a:=last) (b:=a) ?_
   bv_omega
   refine ifB (λhb=>?_) λhb=>?_
   ·rw [if_pos hb] at h0
    bv_omega
    exact ⟨hacc,h0⟩
   ·rw [if_neg (by rw [hb];decide),Option.toList_none,List.append_nil] at h0
    exact h0
  ·rw [hb,Bool.false_and,if_neg (by decide),Option.toList_none,List.append_nil] at h0
   exact h0
 rw [ko]
 bv_omega
 intro b hb0
 bv_omega
 have htot:=mm (n+1) last text l hne
 rw [brs,if_neg (by rw [hb];decide)] at htot
 rw [show ((l.filter λa=>decide (a.1=text)&&ah last a).map λa=>br (text,false,a.2))=((l.filter λa=>decide (a.1=text)&&ah last a).map λa=>((text,false,a.2):Br)).map br by rw [List.map_map];rfl]
 generalize ((l.filter λa=>decide (a.1=text)&&ah last a).map λa=>((text,false,a.2):Br))=B0 at hq htot ⊢
 have hold:∀ a o,S a=some o->T2.put S b (.lst (B0.map br)) a=some o:=λa o ha=>(ak (λe=>by rw [e,hb0] at ha;cases ha)).trans ha
 refine ⟨text,x,l,rfl,js hold hv,h200,by omega,h24,λS' g gs hG hcont=>?_⟩
 obtain ⟨hgb,hSg⟩:=lf hG.new
 have hSb:S' b=some (.lst (B0.map br)):=hG.old b _ au
 rw [<- hcont] at hq htot
 have hmem:∀ y∈gs,(y.1,y.2.2)∈groups text l:=λy hy=>by rw [<- hcont];exact List.mem_map_of_mem (f:=λx:Str×Addr×List Rt=>(x.1,x.2.2)) hy
 refine wF hG.dct ?_
 intro od kvs
 dsimp only
 rw [zV]
 refine jy (λrest σ' S2=>∃ pre u v,gs=pre++rest/\S2=T2.put (T2.put S' g (.fK w od kvs (kt rf gs))) b (.lst ((B0++(cont pre).flatMap λx=>brs n last x.1 x.2).map br))/\σ'=[some (rt last),some (T2.T.str text),some x,some (T2.T.int (b6 l)),some (T2.T.ref b),u,v]) ⟨[],none,none,rfl,?_,rfl⟩ ?_ ?_
 ·show T2.put S' g (.fK w od kvs (kt rf gs))=T2.put (T2.put S' g (.fK w od kvs (kt rf gs))) b (.lst ((B0++[]).map br))
  rw [List.append_nil]
  exact (qA ((ak (Ne.symm hgb)).trans hSb)).symm
 ·rintro y rest σ' S2 N ⟨pre,u,v,hpre,rfl,rfl⟩ hN
  have hy:y∈gs:=by rw [hpre];simp
  have hyp:=hG.lst y hy
  have hyb:y.2.1≠b:=(lf (hG.newL y hy)).1
  have hyg:y.2.1≠g:=λe=>by rw [e,hG.dct] at hyp;cases hyp
  obtain ⟨q1,q2,q3,q4⟩:=jW hst (hmem y hy)
  refine ⟨(ak hgb).trans au,?_⟩
  bv_omega
  refine ⟨last,y.1,.ref y.2.1,y.2.2,rfl,eD ((ak hyb).trans ((ak hyg).trans hyp)),jV (hmem y hy),Nat.le_trans q4 h200,λa ha=>h24 a (q3 a ha),q2,by dsimp only at q1;omega,?_⟩
  bv_omega
  refine zA au ?_ ?_
  ·have h1:(B0++(cont gs).flatMap λx=>brs n last x.1 x.2).length=(B0++(cont pre).flatMap λx=>brs n last x.1 x.2).length+(brs n last y.1 y.2.2).length+((cont rest).flatMap λx=>brs n last x.1 x.2).length:=by
    rw [hpre]
    unfold cont
    simp only [List.map_append,List.map_cons,List.flatMap_append,List.flatMap_cons,List.length_append]
    omega
   rw [List.length_map,List.length_map,sizeLine_eq]
   omega
  ·rw [bD]
   refine hN _ _ ⟨pre++[y],_,_,by rw [hpre,List.append_assoc];rfl,?_,rfl⟩
   congr 2
   unfold cont
   simp only [List.map_append,List.map_cons,List.map_nil,List.flatMap_append,List.flatMap_cons,List.flatMap_nil,List.append_nil,List.append_assoc]
 ·rintro σ' S2 ⟨pre,u,v,hpre,rfl,rfl⟩
  rw [List.append_nil] at hpre
  subst hpre
  refine ⟨(ak hgb).trans au,?_⟩
  refine nS ((ak hgb).trans au) ?_
  bv_omega
  refine mo hb0 ((ak (Ne.symm hgb)).trans au) (λa o ha=>?_) hq
  have h1:a≠b:=λe=>by rw [e,hb0] at ha;cases ha
  have h2:a≠g:=λe=>by rw [e,hSg] at ha;cases ha
  rw [ak h2,ak h1,ak h2]
  exact hG.old a o (hold a o ha)
theorem vE {f f1 f2:Addr}{fd fd1 fd2:FuncData}(F:Fun K "branches_behind" "branches_behind" dZ f fd) (T:Txt K mg C Z)
  (G_ahead_of:FnOk P w K mg base CX0 2 f1 fd1 eT (lSp K jI)) (D_ahead_of:Df K mg "ahead_of" f1 fd1 eT)
  (G_longer_groups:FnOk P w K mg base CX0 1 f2 fd2 gK (lSp K lJ)) (D_longer_groups:Df K mg "longer_groups" f2 fd2 gK)
  (D:Df K mg "branches_behind" f fd dY):∀ n,FnOk P w K mg base CX0 (n+3) f fd dY (lSp K (iV false n))
 |0=>by
  have no:∀ ts S Q,¬ iV false 0 ts S Q:=by
   rintro ts S Q ⟨last,text,x,l,_,_,hne,_,h24,hst,hn,_⟩
   cases l with
   |nil=>exact hne rfl
   |cons a l =>
    have h1:=hst a List.mem_cons_self
    have h2:=h24 a List.mem_cons_self
    by_cases e:a.1=text
    ·rw [e] at h2;omega
    ·have:=dG h1 e;omega
  exact ⟨λvs H Q E h=>by obtain ⟨_,_,_,_,_,h,_⟩:=h;exact (no _ _ _ h).elim,λA o s H args us vs Q E _ _ _ _ h=>by obtain ⟨_,_,_,_,_,h,_⟩:=h;exact (no _ _ _ h).elim⟩
 |n+1=>Ei F T G_ahead_of D_ahead_of G_longer_groups D_longer_groups (vE F T G_ahead_of D_ahead_of G_longer_groups D_longer_groups D n) D
def b5 (l:List Rt) (b:Str) (m:Nat):List Br:=match ((bst l).take m).getLast? with
 |none=>[]
 |some last=>brs 25 last b l
def vF (tr:Bool) (C:Addr):WSp:=λts S Q=>∃ p d n ms b m,ts=[.ref p,.str b,.int m]/\Wo C S p d n ms/\ms.length<=60/\(∀ a∈ms,a.2.2<=n)/\(ms.map (·.1)).Nodup/\(∀ a∈ms,Wm.Wd a.1=true)/\0<=m/\newL tr ((b5 (rtd ms n b) b m.toNat).map br) S Q
theorem zW {tr:Bool}{S:Sto}{Q:T2.T->Sto->Prop}{ts:List T2.T}(h:newL tr ts S Q):newL tr ts S (Fin Q):=by
 cases tr with
 |false=>exact .mk h
 |true=>exact λp hp=>.mk (h p hp)
theorem sF {l:List Rt}{a:Rt}(h:l.getLast?=some a):atI (l.map rt) (-1)=some (rt a):=by
 rw [lX]
 have hne:l≠[]:=λe=>by rw [e] at h;cases h
 have hl:=List.length_pos_iff.mpr hne
 unfold atI ixN
 rw [if_neg (by decide),if_pos (by omega),Option.bind_some]
 rw [List.getLast?_eq_getElem?] at h
 rw [show (-1+(l.length:Int)).toNat=l.length - 1 by omega,h]
 rfl
theorem oh:FnScope ["self","beginning","many","told"] vv2 (aj cP):=by nofun
theorem Ej {tr:Bool}{f f1 f2 f3:Addr}{fd fd1 fd2 fd3:FuncData}(F:FunD K "cut_off" "Wood.cut_off" cP f fd) (T:Txt K mg C Z)
  (G_Wood_begun:FnOk P w K mg base CX0 2 f1 fd1 vv3 (lSp K (jG C))) (M_Wood_begun:Meth K C "begun" f1) (B_Wood_begun:ay K fd1 vv3 [])
  (G_Wood_told:FnOk P w K mg base CX0 5 f2 fd2 vv2 (lSp K (iy C))) (M_Wood_told:Meth K C "told" f2) (B_Wood_told:ay K fd2 vv2 [])
  (G_branches_behind:FnOk P w K mg base CX0 28 f3 fd3 dY (lSp K (iV tr 25))) (D_branches_behind:Df K mg "branches_behind" f3 fd3 dY):FnOk P w K mg base CX0 29 f fd vv2 (lSp K (vF tr C)):=by
 refine bM F oh (λts S Q h=>?_) λcdv A outer s H E hr=>?_
 ·obtain ⟨p,d,n,ms,b,m,rfl,_⟩:=h;rfl
 have nd:=oh.nd
 refine ⟨_,((am (aD (i:=3) nd rfl (Or.inl rfl) (a6 (T.gf M_Wood_told) G_Wood_told B_Wood_told hr.m (ac 0) (af (ac 1) (af (ac 2) ag (ae rfl)) (ae rfl))))
   (am (aQ (dE (zB rfl (ac 3)))
    (ao (aE (h6 ag)))
    a8)
   (ao (aE (ax G_branches_behind D_branches_behind hr.m (by rfl) (af (az rfl (ac 3) (iG ai) (λ_ _=>rfl)) (af (ac 1) (af (a6 (T.gf M_Wood_begun) G_Wood_begun B_Wood_begun hr.m (ac 0) (af (ac 1) ag (ae rfl))) ag (ae rfl)) (ae rfl)) (ae rfl)))))))),λts S Q h=>?_⟩
 obtain ⟨p,d,n,ms,b,m,rfl,W,hl,hn,hnd,hwd,hm,hq⟩:=h
 have hw:=W.ins
 ac_nf
 bv_omega
 refine ⟨p,d,n,ms,b,m,rfl,W,hl,hn,hnd,hm,?_⟩
 bv_omega
 unfold b5 at hq
 cases hlast:((bst (rtd ms n b)).take m.toNat).getLast? with
 |none =>
  rw [hlast] at hq
  have he:(bst (rtd ms n b)).take m.toNat=[]:=by
   cases q:(bst (rtd ms n b)).take m.toNat with
   |nil=>rfl
   |cons a l=>rw [q,List.getLast?_cons] at hlast;cases hlast
  have hq:newL tr [] S Q:=hq
  rw [if_pos (by rw [he];rfl)]
  bv_omega
  exact λp hp=>mo hp au (.put hp) hq
 |some last =>
  rw [hlast] at hq
  have hne:(bst (rtd ms n b)).take m.toNat≠[]:=λe=>by rw [e] at hlast;cases hlast
  have he:(((bst (rtd ms n b)).take m.toNat).map rt).isEmpty=false:=by
   cases q:(bst (rtd ms n b)).take m.toNat with
   |nil=>exact absurd q hne
   |cons a l=>rfl
  rw [if_neg (by rw [he];decide)]
  bv_omega
  refine eN (sF hlast) ?_
  bv_omega
  refine ⟨p,d,n,ms,b,rfl,W,by omega,hn,?_⟩
  bv_omega
  have hlen:=jF ms n b
  refine ⟨last,b,_,rtd ms n b,rfl,rfl,?_,by omega,?_,?_,by omega,zW hq⟩
  ·intro e
   rw [e] at hne
   exact hne (by rw [show bst []=[] from rfl,List.take_nil])
  ·intro a ha
   unfold rtd bw at ha
   obtain ⟨x,hx,rfl⟩:=List.mem_map.mp ha
   exact (Wm.eF (hwd x (List.mem_filter.mp hx).1)).2
  ·intro a ha
   unfold rtd bw at ha
   obtain ⟨x,hx,rfl⟩:=List.mem_map.mp ha
   exact (List.mem_filter.mp hx).2
theorem mt:∀ {l:List Rt},l≠[]->b6 l∈l.map (·.2)/\∀ j∈l.map (·.2),j<=b6 l
 |[],h=>absurd rfl h
 |a::l,_=>by
  rw [b6]
  by_cases e:∀ b∈l,b.2<=a.2
  ·rw [if_pos e]
   refine ⟨by simp,λj hj=>?_⟩
   rcases List.mem_cons.mp hj with h|h
   ·rw [h];exact Int.le_refl _
   ·obtain ⟨b,hb,rfl⟩:=List.mem_map.mp h
    exact e b hb
  ·rw [if_neg e]
   have hne:l≠[]:=λh=>e (by rw [h];simp)
   obtain ⟨h1,h2⟩:=mt hne
   refine ⟨List.mem_cons_of_mem _ h1,λj hj=>?_⟩
   rcases List.mem_cons.mp hj with h|h
   ·rw [h]
    have:∃ b∈l,a.2<b.2:=by
     refine Classical.byContradiction λq=>e λb hb=>?_
     refine Int.not_lt.mp λz=>q ⟨b,hb,z⟩
    obtain ⟨b,hb,hlt⟩:=this
    have:=h2 b.2 (List.mem_map_of_mem hb)
    show a.2<=_
    omega
   ·exact h2 j h
theorem uA:∀ (l:List Nat) (x:Nat) (r:List Nat),l<l++x::r
 |[],x,r=>List.nil_lt_cons x r
 |a::l,x,r=>List.cons_lt_cons_iff.mpr (.inr ⟨rfl,uA l x r⟩)
theorem GJ {z t:Str}(h:PySem.Txt.startswith z t=true):z=t\/ltS t z=true:=by
 by_cases e:z=t
 ·exact .inl e
 ·right
  have hl:=dG h e
  rw [Tm.c9,decide_eq_true_eq] at h
  unfold ltS
  rw [decide_eq_true_eq]
  have h2:=List.take_append_drop (Tm.tl t).length (Tm.tl z)
  rw [h] at h2
  show Tm.tl t<Tm.tl z
  rw [<- h2]
  cases q:(Tm.tl z).drop (Tm.tl t).length with
  |nil =>
   have:=congrArg List.length q
   rw [List.length_drop,Tm.len,Tm.len,List.length_nil] at this
   omega
  |cons x r=>exact uA _ x r
theorem xG {last a:Rt}{text:Str}{top:Int}(h:ah last (text,top)=true) (hs:PySem.Txt.startswith a.1 text=true) (ht:a.2<=top):ah last a=true:=by
 by_cases e:a=(text,top)
 ·rw [e];exact h
 ·refine qF h ?_
  rw [FY]
  simp only [Bool.or_eq_true,Bool.and_eq_true,decide_eq_true_eq]
  by_cases q:a.2=top
  ·right
   refine ⟨q.symm,?_⟩
   rcases GJ hs with z|z
   ·exact absurd (Prod.ext z q) e
   ·exact z
  ·left;omega
def wdR (ds:List Rt) (x:Br):List Rt:=ds.filter λa=>if x.2.1=true then PySem.Txt.startswith a.1 x.1 else decide (a.1=x.1)
theorem sG {ds:List Rt}{text:Str}{x:Str×List Rt}(h:x∈groups text (ds.filter λa=>PySem.Txt.startswith a.1 text)):x.2=ds.filter λa=>PySem.Txt.startswith a.1 x.1:=by
 have hst:=λa (ha:a∈ds.filter λa=>PySem.Txt.startswith a.1 text)=>(List.mem_filter.mp ha).2
 have hk1:=(jW hst h).1
 obtain ⟨ks,hnd,hg,hk⟩:=gq text _ (ds.filter λa=>PySem.Txt.startswith a.1 text) rfl
 rw [hg] at h
 obtain ⟨k,hk2,rfl⟩:=List.mem_map.mp h
 obtain ⟨a0,ha0,n0,e0⟩:=(hk k).mp hk2
 dsimp only at hk1 ⊢
 rw [List.filter_filter]
 refine List.filter_congr λa ha=>?_
 rw [Bool.eq_iff_iff]
 unfold inG
 simp only [Bool.and_eq_true,decide_eq_true_eq]
 constructor
 ·rintro ⟨⟨h1,h2⟩,h3⟩
  exact (lK (dG h3 h1) h2).1
 ·intro h1
  have hka:(Tm.tl a.1).take k.length=Tm.tl k:=by
   have:=h1
   rw [Tm.c9,decide_eq_true_eq,Tm.len] at this
   exact this
  have hkt:(Tm.tl k).take text.length=Tm.tl text:=by
   have h2:=hst a0 ha0
   rw [Tm.c9,decide_eq_true_eq,Tm.len] at h2
   rw [<- e0]
   unfold kyG
   rw [show ((text.length:Int)+1)=((text.length+1:Nat):Int) by omega,Tm.d6,List.take_take,Nat.min_eq_left (by omega)]
   exact h2
  have h3:PySem.Txt.startswith a.1 text=true:=by
   rw [Tm.c9,decide_eq_true_eq,Tm.len,<- hkt,<- hka,List.take_take,Nat.min_eq_left (by omega)]
  have h4:a.1≠text:=λe=>by
   have q:=congrArg List.length hka
   rw [List.length_take,Tm.len,Tm.len,e] at q
   omega
  refine ⟨⟨h4,?_⟩,h3⟩
  refine Tm.ext ?_
  unfold kyG
  rw [show ((text.length:Int)+1)=((text.length+1:Nat):Int) by omega,Tm.d6,<- hk1]
  exact hka
theorem d9 (x:Rt) (p:Rt->Bool) (l:List Rt):(l.filter p).count x=if p x=true then l.count x else 0:=by
 by_cases e:p x=true
 ·rw [if_pos e,List.count_filter e]
 ·rw [if_neg e]
  exact List.count_eq_zero.mpr λh=>e (List.mem_filter.mp h).2
theorem BS {ks:List Str}(h:ks.Nodup){x:Str}(hx:x∈ks) (n:Nat):(ks.map λk=>if x=k then n else 0).sum=n:=by
 induction ks with
 |nil=>cases hx
 |cons k ks ih =>
  rw [List.nodup_cons] at h
  simp only [List.map_cons,List.sum_cons]
  have z:∀ l:List Str,(l.map λ_=>0).sum=0:=λl=>by induction l with|nil=>rfl|cons _ _ ih=>simp [ih]
  by_cases e:x=k
  ·have:(ks.map λk=>if x=k then n else 0)=ks.map λ_=>0:=List.map_congr_left λy hy=>if_neg λq=>h.1 (by rw [<- e,q];exact hy)
   rw [if_pos e,this,z];omega
  ·rw [if_neg e,ih h.2 ((List.mem_cons.mp hx).resolve_left e)];omega
theorem lL {ks:List Str}(f:Str->Nat) (h:∀ k∈ks,f k=0):(ks.map f).sum=0:=by
 induction ks with
 |nil=>rfl
 |cons k ks ih=>rw [List.map_cons,List.sum_cons,h k List.mem_cons_self,ih λy hy=>h y (List.mem_cons_of_mem _ hy)]
theorem pC (x:Rt) (f:Str->List Rt):∀ ks:List Str,(ks.flatMap f).count x=(ks.map λk=>(f k).count x).sum
 |[]=>rfl
 |k::ks=>by rw [List.flatMap_cons,List.count_append,List.map_cons,List.sum_cons,pC x f ks]
theorem Ek (text:Str) (l:List Rt) (q:Rt->Bool){ks:List Str}(hnd:ks.Nodup) (hk:∀ k,k∈ks ↔ ∃ a∈l,a.1≠text/\kyG text a=k) :
  ((l.filter λa=>decide (a.1=text)&&q a)++ks.flatMap λk=>(l.filter (inG text k)).filter q).Perm (l.filter q):=by
 rw [List.perm_iff_count]
 intro x
 rw [List.count_append,pC,d9,d9]
 have e1:(ks.map λk=>((l.filter (inG text k)).filter q).count x)=ks.map λk=>if q x=true then (if inG text k x=true then l.count x else 0) else 0:=List.map_congr_left λk _=>by rw [d9,d9]
 rw [e1]
 by_cases hq:q x=true
 ·simp only [hq,Bool.and_true,if_true]
  by_cases ht:x.1=text
  ·rw [if_pos (decide_eq_true ht),lL _ λk _=>if_neg (by unfold inG;rw [decide_eq_false (by simpa using ht),Bool.false_and];decide),Nat.add_zero]
  ·rw [if_neg (by simpa using ht),Nat.zero_add]
   by_cases hm:x∈l
   ·have e2:(ks.map λk=>if inG text k x=true then l.count x else 0)=ks.map λk=>if kyG text x=k then l.count x else 0:=List.map_congr_left λk _=>by
     unfold inG
     rw [decide_eq_true ht,Bool.true_and]
     simp only [decide_eq_true_eq]
    rw [e2]
    exact BS hnd ((hk _).mpr ⟨x,hm,ht,rfl⟩) _
   ·rw [List.count_eq_zero.mpr hm]
    exact lL _ λk _=>by split<;>rfl
 ·simp only [hq,Bool.and_false,Bool.false_eq_true,if_false]
  rw [lL _ λ_ _=>rfl]
structure Okb (ds:List Rt) (last:Rt) (text:Str) (bs:List Br):Prop where
 ok:∀ x∈bs,PySem.Txt.startswith x.1 text=true/\ah last (x.1,x.2.2)=true/\x.2.2∈(wdR ds x).map (·.2)/\∀ j∈(wdR ds x).map (·.2),j<=x.2.2
 all:(bs.flatMap (wdR ds)).Perm ((ds.filter λa=>PySem.Txt.startswith a.1 text).filter (ah last))
theorem mv (t:Str):PySem.Txt.startswith t t=true:=by rw [Tm.c9,decide_eq_true_eq,List.take_length]
theorem zX {a b c:Str}(h1:PySem.Txt.startswith a b=true) (h2:PySem.Txt.startswith b c=true):PySem.Txt.startswith a c=true:=by
 rw [Tm.c9,decide_eq_true_eq] at h1 h2 ⊢
 have hl:=congrArg List.length h2
 have hl1:=congrArg List.length h1
 rw [List.length_take] at hl hl1
 have h3:((Tm.tl a).take (Tm.tl b).length).take (Tm.tl c).length=Tm.tl c:=by rw [h1];exact h2
 rw [List.take_take,Nat.min_eq_left (by omega)] at h3
 exact h3
theorem qQ {α β:Type}{f g:α->List β}:∀ {l:List α},(∀ a∈l,f a=g a)->l.flatMap f=l.flatMap g
 |[],_=>rfl
 |a::l,h=>by rw [List.flatMap_cons,List.flatMap_cons,h a List.mem_cons_self,qQ λx hx=>h x (List.mem_cons_of_mem _ hx)]
theorem uB {ds:List Rt}(hn:(ds.map (·.1)).Nodup){a:Rt}(ha:a∈ds):(ds.filter λb=>decide (b.1=a.1))=[a]:=by
 induction ds with
 |nil=>cases ha
 |cons b l ih =>
  rw [List.map_cons,List.nodup_cons] at hn
  rw [List.filter_cons]
  rcases List.mem_cons.mp ha with e|h
  ·subst e
   rw [if_pos (decide_eq_true rfl)]
   rw [List.filter_eq_nil_iff.mpr λc hc=>by
    rw [decide_eq_true_eq]
    exact λq=>hn.1 (by rw [<- q];exact List.mem_map_of_mem hc)]
  ·rw [if_neg (by rw [decide_eq_true_eq];exact λq=>hn.1 (by rw [q];exact List.mem_map_of_mem h))]
   exact ih hn.2 h
theorem mV {ds:List Rt}(hn:(ds.map (·.1)).Nodup) (h24:∀ a∈ds,a.1.length<=24) (last:Rt):∀ (n:Nat) (text:Str),25<=text.length+n->(ds.filter λa=>PySem.Txt.startswith a.1 text)≠[]->Okb ds last text (brs n last text (ds.filter λa=>PySem.Txt.startswith a.1 text))
 |0,text,hf,hne=>by
  obtain ⟨a,ha⟩:=List.exists_mem_of_ne_nil _ hne
  obtain ⟨h1,h2⟩:=List.mem_filter.mp ha
  have:=h24 a h1
  by_cases e:a.1=text
  ·rw [e] at this;omega
  ·have:=dG h2 e;omega
 |n+1,text,hf,hne=>by
  generalize hl:(ds.filter λa=>PySem.Txt.startswith a.1 text)=l at hne ⊢
  have hst:∀ a∈l,PySem.Txt.startswith a.1 text=true:=λa ha=>by rw [<- hl] at ha;exact (List.mem_filter.mp ha).2
  have hds:∀ a∈l,a∈ds:=λa ha=>by rw [<- hl] at ha;exact (List.mem_filter.mp ha).1
  rw [brs]
  by_cases hb:ah last (text,b6 l)=true
  ·rw [if_pos hb]
   obtain ⟨t1,t2⟩:=mt hne
   have hw:wdR ds (text,true,b6 l)=l:=by
    unfold wdR
    simp only [if_true]
    exact hl
   refine ⟨λx hx=>?_,?_⟩
   ·rw [List.mem_singleton.mp hx]
    exact ⟨mv text,hb,by rw [hw];exact t1,by rw [hw];exact t2⟩
   ·rw [hl,List.flatMap_cons,List.flatMap_nil,List.append_nil,hw,List.filter_eq_self.mpr λa ha=>xG hb (hst a ha) (t2 _ (List.mem_map_of_mem ha))]
  ·rw [if_neg hb]
   obtain ⟨ks,hnd,hg,hk⟩:=gq text _ l rfl
   have hgr:∀ x∈groups text l,Okb ds last x.1 (brs n last x.1 x.2):=λx hx=>by
    have h1:=(jW hst hx).1
    have h2:=jV hx
    rw [<- hl] at hx
    have h3:=sG hx
    rw [h3] at h2 ⊢
    exact mV hn h24 last n x.1 (by omega) h2
   refine ⟨λx hx=>?_,?_⟩
   ·rcases List.mem_append.mp hx with hx|hx
    ·obtain ⟨a,ha,rfl⟩:=List.mem_map.mp hx
     obtain ⟨h1,h2⟩:=List.mem_filter.mp ha
     simp only [Bool.and_eq_true,decide_eq_true_eq] at h2
     have hw:wdR ds (text,false,a.2)=[a]:=by
      unfold wdR
      simp only [Bool.false_eq_true,if_false]
      rw [<- h2.1]
      exact uB hn (hds a h1)
     refine ⟨mv text,?_,by rw [hw];simp,by rw [hw];simp⟩
     dsimp only
     rw [<- h2.1];exact h2.2
    ·obtain ⟨y,hy,hx⟩:=List.mem_flatMap.mp hx
     obtain ⟨q1,q2,q3,q4⟩:=(hgr y hy).ok x hx
     refine ⟨zX q1 ?_,q2,q3,q4⟩
     obtain ⟨g1,g2,g3,_⟩:=jW hst hy
     obtain ⟨a,ha⟩:=List.exists_mem_of_ne_nil _ (jV hy)
     have r1:=g2 a ha
     have r2:=hst a (g3 a ha)
     rw [Tm.c9,decide_eq_true_eq,Tm.len] at r1 r2 ⊢
     rw [<- r1,List.take_take,Nat.min_eq_left (by omega)]
     exact r2
   ·rw [hl,List.flatMap_append]
    refine List.Perm.trans ?_ (Ek text l (ah last) hnd hk)
    refine List.Perm.append ?_ ?_
    ·rw [List.flatMap_map]
     rw [show ((l.filter λa=>decide (a.1=text)&&ah last a).flatMap λa=>wdR ds (text,false,a.2))=(l.filter λa=>decide (a.1=text)&&ah last a).flatMap λa=>[a] from qQ λa ha=>by
      obtain ⟨h1,h2⟩:=List.mem_filter.mp ha
      simp only [Bool.and_eq_true,decide_eq_true_eq] at h2
      unfold wdR
      simp only [Bool.false_eq_true,if_false]
      rw [<- h2.1]
      exact uB hn (hds a h1)]
     rw [List.flatMap_singleton']
    ·rw [List.flatMap_assoc]
     have e:∀ gs:List (Str×List Rt),(∀ x∈gs,x∈groups text l)->(gs.flatMap λx=>(brs n last x.1 x.2).flatMap (wdR ds)).Perm (gs.flatMap λx=>x.2.filter (ah last)):=by
      intro gs
      induction gs with
      |nil=>intro _;exact .refl _
      |cons y gs ih =>
       intro hin
       rw [List.flatMap_cons,List.flatMap_cons]
       refine List.Perm.append ?_ (ih λx hx=>hin x (List.mem_cons_of_mem _ hx))
       have hy:=hin y List.mem_cons_self
       have q:=(hgr y hy).all
       have hy2:=hy
       rw [<- hl] at hy2
       rw [<- sG hy2] at q
       exact q
     refine (e _ λx hx=>hx).trans ?_
     rw [hg,List.flatMap_map]
theorem Fd.lst {n:Int}{o:O}(h:Fd n o):∃ us,o=.lst us:=by
 obtain ⟨c,i,x,k,e,_⟩:=h
 exact ⟨_,e⟩
theorem ce {S:Sto}{a b:Addr}{o u:O}(h1:S a=some o) (h2:S b=some u) (h:o≠u):a≠b:=λe=>by rw [e,h2] at h1;exact h (Option.some.inj h1).symm
theorem vG {S:Sto}{a b:Addr}{o:O}(h1:S a=some o) (h2:S b=none):a≠b:=λe=>by rw [e,h2] at h1;cases h1
theorem jg {m:Int×Int}{n:Int}(h:0<=m.1):0<=wrt m n:=Int.ediv_nonneg h (Int.le_of_lt (Int.pow_pos (by decide)))
theorem jX {m:Int×Int}{n:Int}(h:0<=m.1):wrt m n<=m.1:=Int.ediv_le_self _ h
structure Wk (ws:List Str) (k:Nat) (n:Int) (ms:Ms):Prop where
 len:ms.length<=k
 key:∀ a∈ms,a.1∈ws
 nd:(ms.map (·.1)).Nodup
 old:∀ a∈ms,a.2.2<=n
 rng:∀ a∈ms,0<=a.2.1/\a.2.1<=1000000000+1000000 * (k:Int)
section
variable {ws:List Str}{k:Nat}{n c:Int}{ms:Ms}{z:Str}
theorem Wk.nil:Wk ws 0 n []:=⟨Nat.le_refl _,by simp,by simp,by simp,by simp⟩
theorem Wk.up (h:Wk ws k n ms):Wk ws (k+1) n ms:=⟨by have:=h.len;omega,h.key,h.nd,h.old,λa ha=>by have:=h.rng a ha;omega⟩
theorem Wk.put (h:Wk ws k n ms) (hz:z∈ws) (hm:look ms z=none) (h0:0<=c) (h1:c<=1000000000):Wk ws (k+1) n (ms++[(z,c,n)]):=by
 refine ⟨by have:=h.len;simp;omega,λa ha=>?_,?_,λa ha=>?_,λa ha=>?_⟩
 ·rcases List.mem_append.mp ha with ha|ha
  ·exact h.key a ha
  ·rw [List.mem_singleton.mp ha];exact hz
 ·rw [List.map_append,List.map_singleton,List.nodup_append]
  refine ⟨h.nd,by simp,λx hx y hy e=>?_⟩
  rw [List.mem_singleton] at hy
  exact b7.mp hm (by rw [e,hy] at hx;exact hx)
 ·rcases List.mem_append.mp ha with ha|ha
  ·exact h.old a ha
  ·rw [List.mem_singleton.mp ha];exact Int.le_refl _
 ·rcases List.mem_append.mp ha with ha|ha
  ·have:=h.rng a ha;omega
  ·rw [List.mem_singleton.mp ha];dsimp only;omega
theorem Wk.fade (h:Wk ws k n ms) (h0:0<=c):Wk ws (k+1) (n+c) ms:=⟨h.up.len,h.key,h.nd,λa ha=>by have:=h.old a ha;omega,h.up.rng⟩
theorem Wk.strike (h:Wk ws k n ms):Wk ws (k+1) n (dr ms z):=by
 have hs:∀ a∈dr ms z,a∈ms:=λa ha=>(List.mem_filter.mp ha).1
 refine ⟨?_,λa ha=>h.key a (hs a ha),?_,λa ha=>h.old a (hs a ha),λa ha=>h.up.rng a (hs a ha)⟩
 ·have:=h.len
  have h2:=List.length_filter_le (λa:Str×Int×Int=>decide (a.1≠z)) ms
  unfold dr
  omega
 ·rw [By];exact List.filter_sublist.nodup h.nd
theorem Wk.use {m:Int×Int}(h:Wk ws k n ms) (hm:look ms z=some m) (h0:0<=c) (h1:c<=1000000):Wk ws (k+1) n (pu ms z (wrt m n+c,n)):=by
 have hmm:=d8 hm
 have hk:z∈ms.map (·.1):=List.mem_map.mpr ⟨_,hmm,rfl⟩
 have hr:0<=m.1/\m.1<=1000000000+1000000 * (k:Int):=h.rng _ hmm
 have w0:=jg (m:=m) (n:=n) hr.1
 have w1:=jX (m:=m) (n:=n) hr.1
 refine ⟨?_,λa ha=>?_,by rw [sm _ hk];exact h.nd,λa ha=>?_,λa ha=>?_⟩
 ·have e:=congrArg List.length (sm (wrt m n+c,n) hk)
  rw [List.length_map,List.length_map] at e
  have:=h.len
  omega
 ·rcases mP ha with ha|rfl
  ·exact h.key a ha
  ·exact h.key (z,m) hmm
 ·rcases mP ha with ha|rfl
  ·exact h.old a ha
  ·exact Int.le_refl _
 ·rcases mP ha with ha|rfl
  ·have:=h.rng a ha;omega
  ·dsimp only;omega
theorem Wk.mk2 (h:Wk ws k n ms) (hk:k<=60) (hw:∀ x∈ws,Wm.Wd x=true):Mk2 n ms:=⟨by have:=h.len;omega,h.old,h.nd,λa ha=>hw _ (h.key a ha),λa ha=>by have:=h.rng a ha;omega⟩
end
structure Bo (C:Addr) (S:Sto) (ws:List Str) (k:Nat) (p d q e:Addr) (n:Int) (ms:Ms):Prop where
 wo:Wo C S p d n ms
 md:S q=some (.dK [(.inr "marks",.ref e),(.inr "era",.int n)])
 me:S e=some (.dK (kt mkT ms))
 dq:d≠q
 de:d≠e
 qe:q≠e
 ok:Wk ws k n ms
section
variable {C:Addr}{S S':Sto}{ws:List Str}{k:Nat}{p d q e a:Addr}{n:Int}{ms:Ms}{o:O}{us:List T2.T}
theorem Bo.pq (b:Bo C S ws k p d q e n ms):p≠q:=ce b.wo.ins b.md (by simp)
theorem Bo.pe (b:Bo C S ws k p d q e n ms):p≠e:=ce b.wo.ins b.me (by simp)
theorem Bo.fr (b:Bo C S ws k p d q e n ms) (h1:S' p=S p) (h2:S' d=S d) (h3:S' q=S q) (h4:S' e=S e):Bo C S' ws k p d q e n ms :=
 ⟨⟨h1.trans b.wo.ins,h2.trans b.wo.dct⟩,h3.trans b.md,h4.trans b.me,b.dq,b.de,b.qe,b.ok⟩
theorem Bo.lst (b:Bo C S ws k p d q e n ms) (h:S a=some (.lst us)):Bo C (T2.put S a o) ws k p d q e n ms :=
 b.fr (ak (ce b.wo.ins h (by simp))) (ak (ce b.wo.dct h (by simp))) (ak (ce b.md h (by simp))) (ak (ce b.me h (by simp)))
end
theorem vH:∀ {l m:List Rt},eU l->eU m->(l.map (·.1)).Nodup->l.Perm m->l=m
 |[],m,_,_,_,p=>(List.nil_perm.mp p).symm
 |a::l,[],_,_,_,p=>absurd p.length_eq (by simp)
 |a::l,b::m,h1,h2,hn,p=>by
  unfold eU at h1 h2
  rw [List.map_cons,List.pairwise_cons] at h1 h2
  rw [List.map_cons,List.nodup_cons] at hn
  by_cases e:a=b
  ·subst e
   rw [vH (l:=l) (m:=m) h1.2 h2.2 hn.2 (List.Perm.cons_inv p)]
  ·have ha:a∈m:=by
    rcases List.mem_cons.mp (p.mem_iff.mp List.mem_cons_self) with h|h
    ·exact absurd h e
    ·exact h
   have hb:b∈l:=by
    rcases List.mem_cons.mp (p.mem_iff.mpr List.mem_cons_self) with h|h
    ·exact absurd h.symm e
    ·exact h
   have q1:=h1.1 b.1 (List.mem_map_of_mem hb)
   have q2:=h2.1 a.1 (List.mem_map_of_mem ha)
   rcases Ky.tri (show Ky.shp (.s a.1) (.s b.1)=true from rfl) with q|q|q
   ·rw [q] at q2;cases q2
   ·have:=Ky.s.inj q
    exact absurd (by rw [this];exact List.mem_map_of_mem hb) hn.1
   ·rw [q] at q1;cases q1
theorem BT {ms:Ms}{n:Int}{b:Str}:rtd ms n b=(ms.map λa=>(a.1,wrt a.2 n)).filter λa:Rt=>PySem.Txt.startswith a.1 b:=by
 unfold rtd bw
 rw [List.filter_map]
 rfl
structure At (S:Sto) (l:List (Addr×O)):Prop where
 nd:(l.map (·.1)).Nodup
 is:∀ x∈l,S x.1=some x.2
section
variable {S S' S0:Sto}{l l' l0 l1 l2 l3:List (Addr×O)}{a:Addr}{o o':O}
theorem At.get (h:At S l) (i:Nat) (e:l[i]?=some (a,o)):S a=some o:=h.is _ (List.mem_of_getElem? e)
theorem BU {i:Nat}(e:l[i]?=some (a,o)):(l.set i (a,o')).map (·.1)=l.map (·.1):=by
 rw [List.map_set]
 refine List.ext_getElem? λj=>?_
 rw [List.getElem?_set]
 by_cases h:i=j
 ·subst h;rw [if_pos rfl,if_pos (by rw [List.length_map];exact (List.getElem?_eq_some_iff.mp e).1),List.getElem?_map,e];rfl
 ·rw [if_neg h]
theorem At.put (h:At S l) (i:Nat) (e:l[i]?=some (a,o)):At (T2.put S a o') (l.set i (a,o')):=by
 obtain ⟨hi,e2⟩:=List.getElem?_eq_some_iff.mp e
 refine ⟨BU e ▸ h.nd,λx hx=>?_⟩
 obtain ⟨j,hj,ej⟩:=List.mem_iff_getElem.mp hx
 rw [List.length_set] at hj
 rw [List.getElem_set] at ej
 split at ej
 ·subst ej;exact au
 ·rename_i hij
  have hne:x.1≠a:=λq=>by
   have h1:=(List.getElem_inj (i:=i) (j:=j) (h₀:=by rw [List.length_map];exact hi) (h₁:=by rw [List.length_map];exact hj) h.nd).mp (by rw [List.getElem_map,List.getElem_map,e2,ej,q])
   exact hij h1
  rw [ak hne]
  exact h.is x (by rw [<- ej];exact List.getElem_mem hj)
theorem At.left (h:At S (l1++l2)):At S l1:=⟨by have n:=h.nd;rw [List.map_append] at n;exact (List.nodup_append.mp n).1,λx hx=>h.is x (List.mem_append_left _ hx)⟩
structure Up (S0:Sto) (l0:List (Addr×O)) (S:Sto) (l:List (Addr×O)):Prop where
 at_:At S l
 ks:l.map (·.1)=l0.map (·.1)
 fr:∀ a,a∉l0.map (·.1)->S a=S0 a
theorem At.up {l1':List (Addr×O)}(h:At S (l1++l2)) (u:Up S l1 S' l1'):At S' (l1'++l2):=by
 have n:=h.nd
 rw [List.map_append] at n
 refine ⟨by rw [List.map_append,u.ks];exact n,λx hx=>?_⟩
 rcases List.mem_append.mp hx with hx|hx
 ·exact u.at_.is x hx
 ·rw [u.fr x.1 λq=>(List.nodup_append.mp n).2.2 _ q _ (List.mem_map_of_mem hx) rfl]
  exact h.is x (List.mem_append_right _ hx)
end
section
variable {C:Addr}{S S':Sto}{l l':List (Addr×O)}{a b y p d v h:Addr}{o u:O}
theorem At.ne (h:At S l) (i j:Nat) (hij:i≠j) (ei:l[i]?=some (a,o)) (ej:l[j]?=some (b,u)):a≠b:=λq=>by
 obtain ⟨hi,e2⟩:=List.getElem?_eq_some_iff.mp ei
 obtain ⟨hj,e3⟩:=List.getElem?_eq_some_iff.mp ej
 exact hij ((List.getElem_inj (i:=i) (j:=j) (h₀:=by rw [List.length_map];exact hi) (h₁:=by rw [List.length_map];exact hj) h.nd).mp (by rw [List.getElem_map,List.getElem_map,e2,e3];exact q))
theorem At.pick (h:At S l) (is:List Nat) (hn:is.Nodup) (e:is.map (l[·]?)=l'.map some):At S l':=by
 induction is generalizing l' with
 |nil=>cases l' with
  |nil=>exact ⟨List.nodup_nil,λx hx=>nomatch hx⟩
  |cons _ _=>cases e
 |cons i is ih =>
  cases l' with
  |nil=>cases e
  |cons x r =>
   rw [List.map_cons,List.map_cons,List.cons.injEq] at e
   have q:=ih (List.nodup_cons.mp hn).2 e.2
   refine ⟨List.nodup_cons.mpr ⟨λhm=>?_,q.nd⟩,λz hz=>?_⟩
   ·obtain ⟨z,hz,hzx⟩:=List.mem_map.mp hm
    have hz2:some z∈is.map (l[·]?):=by rw [e.2];exact List.mem_map_of_mem hz
    obtain ⟨j,hj,ej⟩:=List.mem_map.mp hz2
    exact h.ne i j (λq=>(List.nodup_cons.mp hn).1 (by rw [q];exact hj)) (a:=x.1) (o:=x.2) (b:=z.1) (u:=z.2) e.1 ej hzx.symm
   ·rcases List.mem_cons.mp hz with rfl|hz
    ·exact h.is _ (List.mem_of_getElem? e.1)
    ·exact q.is z hz
theorem At.cons (h:At S l) (ha:S a=none):At (T2.put S a o) ((a,o)::l):=by
 refine ⟨List.nodup_cons.mpr ⟨λhm=>?_,h.nd⟩,λx hx=>?_⟩
 ·obtain ⟨x,hx,e⟩:=List.mem_map.mp hm
  exact vG (h.is x hx) ha e
 ·rcases List.mem_cons.mp hx with rfl|hx
  ·exact au
  ·exact (ak (vG (h.is x hx) ha)).trans (h.is x hx)
theorem At.wood (hA:At S l) (h1:S p=none) (h2:T2.put S p (.ins C []) d=none):At (T2.put (T2.put (T2.put S p (.ins C [])) d (.dK [])) p o) ((d,.dK [])::(p,o)::l):=((hA.cons h1).cons h2).put 1 rfl
end
def at0 (l:List T2.T) (i:Int):Int:=match atI l i with
 |some (.int z)=>z
 |_=>0
theorem jY {l:List T2.T}{i z:Int}(h:atI l i=some (.int z)):at0 l i=z:=by unfold at0;rw [h]
def cn (f:Fe):Int×Fe :=
 let a:=dw f 5
 let b:=dw a.2 30
 let c:=dw b.2 3
 let d:=dw c.2 3
 (at0 [.int a.1,.int b.1,.int (10 ^ 9 - c.1)] d.1,d.2)
def wd (ws:List Str) (f:Fe) (n:Int) (ms:Ms):Fe×Int×Ms :=
 let a:=dw f ws.length
 let z:=(atI ws a.1).getD ""
 let b:=dw a.2 8
 if b.1=0\/look ms z=none then
  let c:=dw b.2 3
  let d:=dw c.2 3
  if look ms z=none/\0<b.1 then ((cn d.2).2,n,ms++[(z,(cn d.2).1,n)])
  else (d.2,n+at0 [.int 1,.int (1+c.1),.int (10 ^ 6)] d.1,ms)
 else if b.1=1 then (b.2,n,dr ms z)
 else
  let c:=dw b.2 4
  let d:=dw c.2 3
  (d.2,n,pu ms z (wrt ((look ms z).getD (0,0)) n+at0 [.int 1,.int (1+c.1),.int (10 ^ 6)] d.1,n))
theorem vI {x y z:T2.T}:di [((Sum.inr ("marks":Str):Key),x),(Sum.inr ("era":Str),y)] (Sum.inr ("era":Str)) z=[(Sum.inr ("marks":Str),x),(Sum.inr ("era":Str),z)]:=rfl
theorem tms {r:Int}(h0:0<=r) (h1:r<10):∀ t∈[T2.T.int 1,T2.T.int (1+r),T2.T.int (10 ^ (6:Int).toNat)],∃ z:Int,t=.int z/\1<=z/\z<=1000000:=λt ht=>by
 simp only [List.mem_cons,List.not_mem_nil,or_false] at ht
 rcases ht with rfl|rfl|rfl
 ·exact ⟨_,rfl,by omega,by omega⟩
 ·exact ⟨_,rfl,by omega,by omega⟩
 ·exact ⟨_,rfl,by decide,by decide⟩
def vJ (S S':Sto) (fe p d q e:Addr):Prop:=∀ a,a≠fe->a≠p->a≠d->a≠q->a≠e->S' a=S a
def qR:WSp:=λts S Q=>∃ p n f,ts=[.ref p]/\S p=some (fo f)/\Fk n f/\n+4<1000000000/\∀ z f',cn f=(z,f')->0<=z->z<=1000000000->Fk (n+4) f'->Q (.int z) (put S p (fo f'))
theorem oR:FnScope iS iS (aj fu):=by nofun
theorem zY {f f1:Addr}{fd fd1:FuncData}(F:Fun K "_law_count" "_law_count" fu f fd) (T:Txt K mg C Z) (G__law_draw:FnOk P w K mg base CX0 1 f1 fd1 vv0 (lSp K fV)) (D__law_draw:Df K mg "_law_draw" f1 fd1 vv0):FnOk P w K mg base CX0 2 f fd iS (lSp K qR):=by
 refine aW F oR (λts S Q h=>?_) λcdv A outer s H E hr=>?_
 ·obtain ⟨p,n,f,rfl,_⟩:=h;rfl
 have nd:=oR.nd
 refine ⟨_,((ao (aE (az rfl (bn (af (ax G__law_draw D__law_draw hr.m (by rfl) (af (ac 0) (af ai ag (ae rfl)) (ae rfl))) (af (ax G__law_draw D__law_draw hr.m (by rfl) (af (ac 0) (af ai ag (ae rfl)) (ae rfl))) (af (aC iF (aC j7 ai ai) (ax G__law_draw D__law_draw hr.m (by rfl) (af (ac 0) (af ai ag (ae rfl)) (ae rfl)))) ag (ae rfl)) (ae rfl)) (ae rfl))) (ax G__law_draw D__law_draw hr.m (by rfl) (af (ac 0) (af ai ag (ae rfl)) (ae rfl))) (λ_ _=>rfl))))),λts S Q h=>?_⟩
 obtain ⟨p,n,f,rfl,hp,hf,hn,hq⟩:=h
 ac_nf
 bv_omega
 rename_i r1 f1 e1 a1 b1 c1 r2 f2 e2 a2 b2 c2 r3 f3 e3 a3 b3 c3
 obtain ⟨t,et,ht⟩:=dF (ls:=[T2.T.int r1,T2.T.int r2,T2.T.int (10 ^ (9:Int).toNat - r3)]) hr0 (by simpa using hr1)
 have hz:∃ z:Int,t=.int z/\0<=z/\z<=1000000000:=by
  simp only [List.mem_cons,List.not_mem_nil,or_false,Int.reduceToNat,Int.reducePow] at ht
  rcases ht with rfl|rfl|rfl<;>exact ⟨_,rfl,by omega,by omega⟩
 obtain ⟨z,rfl,z0,z1⟩:=hz
 refine eN et ?_
 refine .mk (hq z f' ?_ z0 z1 (hfd.mono (by omega)))
 unfold cn
 dsimp only
 rw [e1];dsimp only;rw [e2];dsimp only;rw [e3];dsimp only;rw [hdw];dsimp only
 exact Prod.ext (jY et) rfl
def mw (C:Addr):WSp:=λts S Q=>∃ fe p q d e n0 f ws k n ms,ts=[.ref fe,.ref p,.ref q,.lst (ws.map T2.T.str)]/\S fe=some (fo f)/\Fk n0 f/\n0+20<1000000000/\ws≠[]/\ws.length<=20/\(∀ x∈ws,Wm.Wd x=true)/\Bo C S ws k p d q e n ms/\k<=40 /\
 ∀ S' f' n' ms',wd ws f n ms=(f',n',ms')->vJ S S' fe p d q e->S' fe=some (fo f')->Fk (n0+20) f'->Bo C S' ws (k+1) p d q e n' ms'->Q .non S'
theorem n9:FnScope ["_law_feed_here","_law_wood","_law_model","_law_words_here","_law_word_here","_law_kind","_law_marks","_law_era","_law_times","_law_count_here"] vv4 (aj eX):=by nofun
theorem qS {f f1 f2 f3 f4 f5 f6 f7:Addr}{fd fd1 fd2 fd3 fd4 fd5 fd6 fd7:FuncData}(F:Fun K "_law_wood_deed" "_law_wood_deed" eX f fd) (T:Txt K mg C Z)
  (G__law_draw:FnOk P w K mg base CX0 1 f1 fd1 vv0 (lSp K fV)) (D__law_draw:Df K mg "_law_draw" f1 fd1 vv0)
  (G__law_count:FnOk P w K mg base CX0 2 f2 fd2 iS (lSp K qR)) (D__law_count:Df K mg "_law_count" f2 fd2 iS)
  (G__law_halved:FnOk P w K mg base CX0 1 f3 fd3 kN (lSp K jj)) (D__law_halved:Df K mg "_law_halved" f3 fd3 kN)
  (G_Wood_put:FnOk P w K mg base CX0 4 f4 fd4 vv7 (lSp K (nz C))) (M_Wood_put:Meth K C "put" f4) (B_Wood_put:ay K fd4 vv7 [])
  (G_Wood_use:FnOk P w K mg base CX0 3 f5 fd5 vv6 (lSp K (nA C))) (M_Wood_use:Meth K C "use" f5) (B_Wood_use:ay K fd5 vv6 [])
  (G_Wood_strike:FnOk P w K mg base CX0 2 f6 fd6 vv1 (lSp K (lF C))) (M_Wood_strike:Meth K C "strike" f6) (B_Wood_strike:ay K fd6 vv1 [])
  (G_Wood_fade:FnOk P w K mg base CX0 1 f7 fd7 iT (lSp K (ud C))) (M_Wood_fade:Meth K C "fade" f7) (B_Wood_fade:ay K fd7 iT []) :
  FnOk P w K mg base CX0 5 f fd vv4 (lSp K (mw C)):=by
 refine aW F n9 (λts S Q h=>?_) λcdv A outer s H E hr=>?_
 ·obtain ⟨fe,p,q,d,e,n0,f,ws,k,n,ms,rfl,_⟩:=h;rfl
 have nd:=n9.nd
 refine ⟨_,((am (aD (i:=4) nd rfl (Or.inl rfl) (az rfl (ac 3) (ax G__law_draw D__law_draw hr.m (by rfl) (af (ac 0) (af (aF (a9 rfl) (by rfl) T.len PySem.boot_len (af (ac 3) ag (ae rfl))) ag (ae rfl)) (ae rfl))) (λ_ _=>rfl)))
   (am (aD (i:=5) nd rfl (Or.inl rfl) (ax G__law_draw D__law_draw hr.m (by rfl) (af (ac 0) (af ai ag (ae rfl)) (ae rfl))))
   (am (aD (i:=6) nd rfl (Or.inl rfl) (iI w rfl (ac 2) aM (λ_ _=>rfl)))
   (am (aD (i:=7) nd rfl (Or.inl rfl) (iI w rfl (ac 2) aM (λ_ _=>rfl)))
   (ao (aQ (du (gG (aK (bu rfl hr.units) (ac 5) ai (aJ _)) (iD (aK (jq w rfl) (ac 4) (ac 6) (by with_unfolding_all rfl)))))
    (am (aD (i:=8) nd rfl (Or.inl rfl) (az rfl (bn (af ai (af (aC (aT false) ai (ax G__law_draw D__law_draw hr.m (by rfl) (af (ac 0) (af ai ag (ae rfl)) (ae rfl)))) (af (aC j7 ai ai) ag (ae rfl)) (ae rfl)) (ae rfl))) (ax G__law_draw D__law_draw hr.m (by rfl) (af (ac 0) (af ai ag (ae rfl)) (ae rfl))) (λ_ _=>rfl)))
   (ao (aQ (du (iE (aK (jq w rfl) (ac 4) (ac 6) (by with_unfolding_all rfl)) (jN (aK kF (ac 5) ai (aJ _)))))
    (am (aD (i:=9) nd rfl (Or.inl rfl) (ax G__law_count D__law_count hr.m (by rfl) (af (ac 0) ag (ae rfl))))
   (am (bx (a6 (T.gf M_Wood_put) G_Wood_put B_Wood_put hr.m (ac 1) (af (ac 4) (af (ac 9) ag (ae rfl)) (ae rfl))))
   (ao (df (λh g=>c7 h g) (bz (af (ac 9) (af (ac 7) ag (ae rfl)) (ae rfl))) (da (ac 6) (ac 4) (ig (iA hr)) (λh1 h2 h3=>c6 h1 h2 h3))))))
    (am (bx (a6 (T.gf M_Wood_fade) G_Wood_fade B_Wood_fade hr.m (ac 1) (af (ac 8) ag (ae rfl))))
   (ao (df (λh g=>c7 h g) (aC (aT false) (ac 7) (ac 8)) (da (ac 2) aM (ig (iA hr)) (λh1 h2 h3=>c6 h1 h2 h3))))))))
    (ao (aQ (aK (bu rfl hr.units) (ac 5) ai (aJ _))
    (am (bx (a6 (T.gf M_Wood_strike) G_Wood_strike B_Wood_strike hr.m (ac 1) (af (ac 4) ag (ae rfl))))
   (ao (bx (bK rfl PySem.F.plainAttrs_dict PySem.F.slot_dict_pop PySem.F.type_dict_pop tY (ac 6) (af (ac 4) ag (ae rfl)) (λh1 h2 h3=>bI PySem.F.plainAttrs_dict PySem.F.slot_dict_pop PySem.F.type_dict_pop h2 h1 h3)))))
    (am (aD (i:=8) nd rfl (Or.inl rfl) (az rfl (bn (af ai (af (aC (aT false) ai (ax G__law_draw D__law_draw hr.m (by rfl) (af (ac 0) (af ai ag (ae rfl)) (ae rfl)))) (af (aC j7 ai ai) ag (ae rfl)) (ae rfl)) (ae rfl))) (ax G__law_draw D__law_draw hr.m (by rfl) (af (ac 0) (af ai ag (ae rfl)) (ae rfl))) (λ_ _=>rfl)))
   (am (bx (a6 (T.gf M_Wood_use) G_Wood_use B_Wood_use hr.m (ac 1) (af (ac 4) (af (ac 8) ag (ae rfl)) (ae rfl))))
   (ao (df (λh g=>c7 h g) (bz (af (aC (aT false) (ax G__law_halved D__law_halved hr.m (by rfl) (af (az rfl (iI w rfl (ac 6) (ac 4) (λ_ _=>rfl)) ai (λ_ _=>rfl)) (af (aC iF (ac 7) (az rfl (iI w rfl (ac 6) (ac 4) (λ_ _=>rfl)) ai (λ_ _=>rfl))) ag (ae rfl)) (ae rfl))) (ac 8)) (af (ac 7) ag (ae rfl)) (ae rfl))) (da (ac 6) (ac 4) (ig (iA hr)) (λh1 h2 h3=>c6 h1 h2 h3))))))))))))))),λts S Q h=>?_⟩
 obtain ⟨fe,p,q,d,e,n0,f,ws,k,n,ms,rfl,hf0,hFd,hn0,hne,hwl,hwd,B,hk,hq⟩:=h
 have hpos:=List.length_pos_iff.mpr hne
 have hfl:∃ us,fo f=.lst us:=⟨_,rfl⟩
 obtain ⟨us,hus⟩:=hfl
 have B1:∀ o':O,Bo C (T2.put S fe o') ws k p d q e n ms:=λo'=>B.lst (hf0.trans (congrArg some hus))
 have pd:=B.wo.ne
 have pq:=B.pq
 have pe:=B.pe
 have dq:=B.dq
 have de:=B.de
 have qe:=B.qe
 have fp:fe≠p:=ce hf0 B.wo.ins (by rw [hus];simp)
 have fd':fe≠d:=ce hf0 B.wo.dct (by rw [hus];simp)
 have fq:fe≠q:=ce hf0 B.md (by rw [hus];simp)
 have fe':fe≠e:=ce hf0 B.me (by rw [hus];simp)
 have hlen:=B.ok.len
 have mdS:=B.md
 have meS:=B.me
 ac_nf
 bv_omega
 rename_i r1 f1 e1 a1 b1 c1
 have e2:=hdw
 have hpS:=B.wo.ins
 refine ifB (λhb=>?_) λhb=>?_
 ·have hr0':r=0:=by simpa using hb
  subst hr0'
  bv_omega
  rename_i r3 f3 e3 a3 b3 c3
  obtain ⟨t,et,ht⟩:=dF (ls:=[T2.T.int 1,T2.T.int (1+r3),T2.T.int (10 ^ (6:Int).toNat)]) hr0 (by simpa using hr1)
  obtain ⟨t,rfl,ht0,ht1⟩:=tms (by omega) (by omega) t ht
  refine eN et ?_
  bv_omega
  refine dN (B1 _).me rfl ?_
  rw [bW,Option.isSome_map]
  have key:∀ f',Fk (n0+6) f'->wd ws f n ms=(f',n+t,ms)->T2.Fin Q T2.T.non (put (put (put S fe (fo f')) p (.ins C [("marks",.ref d),("now",.int (n+t))])) q (.dK [(.inr "marks",.ref e),(.inr "era",.int (n+t))])):=λf' hfd hw =>
   .mk (hq _ f' (n+t) ms hw (λa h1 h2 h3 h4 h5=>by rw [ak h4,ak h2,ak h1]) (by rw [ak fq,ak fp];exact au) (hfd.mono (by omega))
    ⟨⟨by rw [ak pq];exact au,by rw [ak dq,ak (Ne.symm pd)];exact (B1 _).wo.dct⟩,au,by rw [ak (Ne.symm qe),ak (Ne.symm pe)];exact (B1 _).me,dq,de,qe,B.ok.fade (by omega)⟩)
  cases hlk:look ms z with
  |none =>
   subst_eqs
   bv_omega
   rw [decide_eq_false (by omega)]
   bv_omega
   refine ⟨p,d,n,ms,t,rfl,(B1 _).wo,?_⟩
   bv_omega
   refine gj ((ak (Ne.symm pq)).trans (B1 _).md) rfl (by simp only [List.length_cons,List.length_nil];rw [sizeLine_eq];decide) ?_
   rw [vI]
   exact key _ (hfd.mono (by omega)) (by unfold wd;dsimp only;rw [e1];dsimp only;rw [ez,Option.getD_some,e2];dsimp only;rw [if_pos (.inl rfl),e3];dsimp only;rw [hdw];dsimp only;rw [if_neg (λq=>absurd q.2 (by decide)),show at0 [T2.T.int 1,T2.T.int (1+r3),T2.T.int (10 ^ 6)] r=t from jY et])
  |some m =>
   subst_eqs
   bv_omega
   refine ⟨p,d,n,ms,t,rfl,(B1 _).wo,?_⟩
   bv_omega
   refine gj ((ak (Ne.symm pq)).trans (B1 _).md) rfl (by simp only [List.length_cons,List.length_nil];rw [sizeLine_eq];decide) ?_
   rw [vI]
   exact key _ (hfd.mono (by omega)) (by unfold wd;dsimp only;rw [e1];dsimp only;rw [ez,Option.getD_some,e2];dsimp only;rw [if_pos (.inl rfl),e3];dsimp only;rw [hdw];dsimp only;rw [if_neg (λq=>absurd q.2 (by decide)),show at0 [T2.T.int 1,T2.T.int (1+r3),T2.T.int (10 ^ 6)] r=t from jY et])
 ·have hrn:r≠0:=by simpa using hb
  bv_omega
  refine dN (B1 _).me rfl ?_
  rw [bW,Option.isSome_map]
  cases hlk:look ms z with
  |none =>
   subst_eqs
   have r2:0<r:=by omega
   bv_omega
   rename_i r3 f3 e3 a3 b3 c3
   obtain ⟨t,et,ht⟩:=dF (ls:=[T2.T.int 1,T2.T.int (1+r3),T2.T.int (10 ^ (6:Int).toNat)]) hr0 (by simpa using hr1)
   obtain ⟨t,rfl,ht0,ht1⟩:=tms (by omega) (by omega) t ht
   refine eN et ?_
   bv_omega
   refine dN (B1 _).me rfl ?_
   rw [bW,Option.isSome_map,hlk]
   subst_eqs
   bv_omega
   rw [decide_eq_true (by omega)]
   bv_omega
   refine ⟨fe,_,_,rfl,au,hfd,by omega,λc f9 hcn hc0 hc1 hfd2=>?_⟩
   rw [bD]
   bv_omega
   refine ⟨p,d,n,ms,z,c,rfl,(B1 _).wo,by omega,hwd z hz,hlk,?_⟩
   bv_omega
   refine gj ((ak (Ne.symm de)).trans (B1 _).me) rfl (by rw [iw,sizeLine_eq];omega) ?_
   rw [show (T2.T.tup [.int c,.int n])=mkT (c,n) from rfl,iq,ir _ (b7.mp hlk)]
   exact .mk (hq _ f9 n _ (by unfold wd;dsimp only;rw [e1];dsimp only;rw [ez,Option.getD_some,e2];dsimp only;rw [if_pos (.inr hlk),e3];dsimp only;rw [hdw];dsimp only;rw [if_pos ⟨hlk,r2⟩,hcn]) (λa h1 h2 h3 h4 h5=>by rw [ak h5,ak h3,ak h1]) (by rw [ak fe',ak fd'];exact au) (hfd2.mono (by omega))
     ⟨⟨by rw [ak pe,ak pd];exact (B1 _).wo.ins,by rw [ak de];exact au⟩,by rw [ak qe,ak (Ne.symm dq)];exact (B1 _).md,au,dq,de,qe,B.ok.put hz hlk hc0 hc1⟩)
  |some m =>
   have hmm:=d8 hlk
   have hold:m.2<=n:=B.ok.old _ hmm
   have hrg:0<=m.1/\m.1<=1000000000+1000000 * (k:Int):=B.ok.rng _ hmm
   have hv:aR (kt mkT ms) (Sum.inr z)=some (mkT m):=by rw [bW,hlk];rfl
   subst_eqs
   bv_omega
   rw [Bool.false_xor]
   refine ifB (λhb=>?_) λhb=>?_
   ·have hr1e:r=1:=of_decide_eq_true hb
    bv_omega
    refine ⟨p,d,n,ms,z,m,rfl,(B1 _).wo,hlk,?_⟩
    bv_omega
    refine vw ((ak (Ne.symm de)).trans (B1 _).me) ?_
    bv_omega
    refine t4 ((ak (Ne.symm de)).trans (B1 _).me) rfl hv ?_
    rw [si]
    exact .mk (hq _ _ n _ (by unfold wd;dsimp only;rw [e1];dsimp only;rw [ez,Option.getD_some,e2];dsimp only;rw [if_neg (λq=>by rcases q with q|q;exact hrn q;rw [hlk] at q;cases q),if_pos hr1e]) (λa h1 h2 h3 h4 h5=>by rw [ak h5,ak h3,ak h1]) (by rw [ak fe',ak fd'];exact au) (hfd.mono (by omega))
     ⟨⟨by rw [ak pe,ak pd];exact (B1 _).wo.ins,by rw [ak de];exact au⟩,by rw [ak qe,ak (Ne.symm dq)];exact (B1 _).md,au,dq,de,qe,B.ok.strike⟩)
   ·have hr1e:r≠1:=of_decide_eq_false hb
    bv_omega
    rename_i r3 f3 e3 a3 b3 c3
    obtain ⟨t,et,ht⟩:=dF (ls:=[T2.T.int 1,T2.T.int (1+r3),T2.T.int (10 ^ (6:Int).toNat)]) hr0 (by simpa using hr1)
    obtain ⟨t,rfl,ht0,ht1⟩:=tms (by omega) (by omega) t ht
    refine eN et ?_
    bv_omega
    refine ⟨p,d,n,ms,z,t,m,rfl,(B1 _).wo,by omega,hlk,hold,?_⟩
    bv_omega
    refine ki ((ak (Ne.symm de)).trans (B1 _).me) rfl hv ?_
    unfold mkT at hv ⊢
    bv_omega
    refine ki ((ak (Ne.symm de)).trans (B1 _).me) rfl hv ?_
    bv_omega
    refine gj ((ak (Ne.symm de)).trans (B1 _).me) rfl (by rw [iw,sizeLine_eq];omega) ?_
    rw [show T2.T.tup [T2.T.int (m.1 / 2 ^ (n - m.2).toNat+t),T2.T.int n]=mkT (wrt m n+t,n) from rfl,iq]
    exact .mk (hq _ _ n _ (by unfold wd;dsimp only;rw [e1];dsimp only;rw [ez,Option.getD_some,e2];dsimp only;rw [if_neg (λq=>by rcases q with q|q;exact hrn q;rw [hlk] at q;cases q),if_neg hr1e,e3];dsimp only;rw [hdw];dsimp only;rw [hlk,Option.getD_some,show at0 [T2.T.int 1,T2.T.int (1+r3),T2.T.int (10 ^ 6)] r=t from jY et]) (λa h1 h2 h3 h4 h5=>by rw [ak h5,ak h3,ak h1]) (by rw [ak fe',ak fd'];exact au) (hfd.mono (by omega))
     ⟨⟨by rw [ak pe,ak pd];exact (B1 _).wo.ins,by rw [ak de];exact au⟩,by rw [ak qe,ak (Ne.symm dq)];exact (B1 _).md,au,dq,de,qe,B.ok.use hlk (by omega) ht1⟩)
def rfd (w:Int) (t:T2.T) (n:Int) (ms:Ms):T2.T×Ms:=match t with
 |.str z =>
  if w=0 then
   if Wm.Wd z=true then
    match look ms z with
    |none=>(.tup [],ms++[(z,1,n)])
    |some _=>(.tup [.bl false,.bl true,.bl false,.bl false],ms)
   else (.tup [.bl true,.bl false,.bl false,.bl false],ms)
  else match look ms z with
   |none=>(.tup [.bl false,.bl false,.bl true,.bl false],ms)
   |some m=>(.tup [],if w=1 then pu ms z (wrt m n+1,n) else if w=2 then dr ms z else ms)
 |_=>(.tup [.bl true,.bl false,.bl false,.bl false],ms)
section
variable {w n:Int}{z:Str}{t:T2.T}{ms:Ms}{ws:List Str}{k:Nat}
theorem iW (h:Bad t):rfd 0 t n ms=(.tup [.bl true,.bl false,.bl false,.bl false],ms):=by
 rcases h with ⟨z,rfl,_,_,h⟩|⟨h,_⟩
 ·unfold rfd;dsimp only;rw [if_pos rfl,if_neg (by rw [h];decide)]
 ·rcases h with rfl|⟨b,rfl⟩|⟨i,rfl⟩|⟨l,rfl⟩|⟨l,rfl⟩<;>rfl
theorem nX (h:Wm.Wd z=true) (hm:look ms z=none):rfd 0 (.str z) n ms=(.tup [],ms++[(z,1,n)]):=by unfold rfd;dsimp only;rw [if_pos rfl,if_pos h,hm]
theorem nY {m:Int×Int}(h:Wm.Wd z=true) (hm:look ms z=some m):rfd 0 (.str z) n ms=(.tup [.bl false,.bl true,.bl false,.bl false],ms):=by unfold rfd;dsimp only;rw [if_pos rfl,if_pos h,hm]
theorem kO (h:w≠0) (hm:look ms z=none):rfd w (.str z) n ms=(.tup [.bl false,.bl false,.bl true,.bl false],ms):=by unfold rfd;dsimp only;rw [if_neg h,hm]
theorem wP {m:Int×Int}(hm:look ms z=some m):rfd 1 (.str z) n ms=(.tup [],pu ms z (wrt m n+1,n)):=by unfold rfd;dsimp only;rw [if_neg (by decide),hm];dsimp only;rw [if_pos rfl]
theorem wQ {m:Int×Int}(hm:look ms z=some m):rfd 2 (.str z) n ms=(.tup [],dr ms z):=by unfold rfd;dsimp only;rw [if_neg (by decide),hm];dsimp only;rw [if_neg (by decide),if_pos rfl]
theorem wR {m:Int×Int}(hm:look ms z=some m):rfd 3 (.str z) n ms=(.tup [],ms):=by unfold rfd;dsimp only;rw [if_neg (by decide),hm];dsimp only;rw [if_neg (by decide),if_neg (by decide)]
theorem w4 (h0:0<=w) (h4:w<=3):w=0\/w=1\/w=2\/w=3:=by omega
def Tg (w:Int) (t:T2.T):Prop:=(∃ z:Str,t=.str z/\z.length<=1000/\PyData.strOk z=true)\/w=0/\Bad t
theorem vK (h:Wk ws k n ms) (h0:0<=w) (h4:w<=3) (ht:Tg w t) (hz:∀ z,t=.str z->Wm.Wd z=true->z∈ws):Wk ws (k+1) n (rfd w t n ms).2:=by
 rcases ht with ⟨z,rfl,hzl,hzo⟩|⟨rfl,hb⟩
 ·rcases w4 h0 h4 with rfl|rfl|rfl|rfl
  ·by_cases hw:Wm.Wd z=true
   ·cases hm:look ms z with
    |none=>rw [nX hw hm];exact h.put (hz z rfl hw) hm (by decide) (by decide)
    |some m=>rw [nY hw hm];exact h.up
   ·rw [iW (.inl ⟨z,rfl,hzl,hzo,by simpa using hw⟩)];exact h.up
  ·cases hm:look ms z with
   |none=>rw [kO (by decide) hm];exact h.up
   |some m=>rw [wP hm];exact h.use hm (by decide) (by decide)
  ·cases hm:look ms z with
   |none=>rw [kO (by decide) hm];exact h.up
   |some m=>rw [wQ hm];exact h.strike
  ·cases hm:look ms z with
   |none=>rw [kO (by decide) hm];exact h.up
   |some m=>rw [wR hm];exact h.up
 ·rw [iW hb];exact h.up
theorem uC (ht:Tg w t):∃ bs:List Bool,(rfd w t n ms).1=.tup (bs.map T2.T.bl)/\bs.length<=4:=by
 rcases ht with ⟨z,rfl,hzl,hzo⟩|⟨rfl,hb⟩
 ·by_cases h0:w=0
  ·subst h0
   by_cases hw:Wm.Wd z=true
   ·cases hm:look ms z with
    |none=>rw [nX hw hm];exact ⟨[],rfl,by decide⟩
    |some m=>rw [nY hw hm];exact ⟨[false,true,false,false],rfl,by decide⟩
   ·rw [iW (.inl ⟨z,rfl,hzl,hzo,by simpa using hw⟩)];exact ⟨[true,false,false,false],rfl,by decide⟩
  ·unfold rfd;dsimp only;rw [if_neg h0]
   cases hm:look ms z with
   |none=>exact ⟨[false,false,true,false],rfl,by decide⟩
   |some m=>exact ⟨[],rfl,by decide⟩
 ·rw [iW hb];exact ⟨[true,false,false,false],rfl,by decide⟩
end
theorem iJ {i:Nat}{D:EndsT}{σ:StT}{S:Sto}(h:D.nx (σ.set i none) S):(asE i D).nx σ S:=h
def nD (C:Addr):WSp:=λts S Q=>∃ p d n ms w t,ts=[.int w,.ref p,t]/\Wo C S p d n ms/\ms.length<=100/\(∀ a∈ms,a.2.2<=n)/\0<=w/\w<=3/\Tg w t/\Q (rfd w t n ms).1 (put S d (.dK (kt mkT (rfd w t n ms).2)))
theorem ol:FnScope ["_law_way","_law_wood","_law_word_here","_law_kinds","e","_law_others"] kJ (aj e7):=by nofun
theorem pD {f f1 f2 f3 f4:Addr}{fd fd1 fd2 fd3 fd4:FuncData}{tk:Tok}(F:Fun K "_law_refused" "_law_refused" e7 f fd) (T:Txt K mg C Z)
  (G_Wood_put:FnOk P w K mg base CX0 4 f1 fd1 vv7 (lSp K (nz C))) (R_Wood_put:FnOk P w K mg base (CX1 P w) 4 f1 fd1 vv7 (bE K (ul C Z.N Z.T))) (M_Wood_put:Meth K C "put" f1) (B_Wood_put:ay K fd1 vv7 [])
  (G_Wood_use:FnOk P w K mg base CX0 3 f2 fd2 vv6 (lSp K (nA C))) (R_Wood_use:FnOk P w K mg base (CX1 P w) 3 f2 fd2 vv6 (bE K (uq C Z.A))) (M_Wood_use:Meth K C "use" f2) (B_Wood_use:ay K fd2 vv6 []) (B0_Wood_use:ay K fd2 vv6 [.int 1 tk])
  (G_Wood_strike:FnOk P w K mg base CX0 2 f3 fd3 vv1 (lSp K (lF C))) (R_Wood_strike:FnOk P w K mg base (CX1 P w) 3 f3 fd3 vv1 (bE K (ji C Z.A))) (M_Wood_strike:Meth K C "strike" f3) (B_Wood_strike:ay K fd3 vv1 [])
  (G_Wood_worth_of:FnOk P w K mg base CX0 2 f4 fd4 vv1 (lSp K (vC C))) (R_Wood_worth_of:FnOk P w K mg base (CX1 P w) 3 f4 fd4 vv1 (bE K (ji C Z.A))) (M_Wood_worth_of:Meth K C "worth_of" f4) (B_Wood_worth_of:ay K fd4 vv1 []) :
  FnOk P w K mg base CX0 5 f fd kJ (lSp K (nD C)):=by
 refine aW F ol (λts S Q h=>?_) λcdv A outer s H E hr=>?_
 ·obtain ⟨p,d,n,ms,w,t,rfl,_⟩:=h;rfl
 have nd:=ol.nd
 refine ⟨_,((am (aD (i:=3) nd rfl (Or.inl rfl) (bz ag))
   (am (D0 ⟨rfl,rfl⟩ (ao (aQ (aK (bu rfl hr.units) (ac 0) ai (aJ _))
    (ao (bx (a6 (T.gf M_Wood_put) G_Wood_put B_Wood_put hr.m (ac 1) (af (ac 2) (af ai ag (ae rfl)) (ae rfl)))))
    (ao (aQ (aK (bu rfl hr.units) (ac 0) ai (aJ _))
    (ao (bx (Bv (T.gf M_Wood_use) G_Wood_use B0_Wood_use hr.m (ac 1) (af (ac 2) ag (ae rfl)))))
    (ao (aQ (aK (bu rfl hr.units) (ac 0) ai (aJ _))
    (ao (bx (a6 (T.gf M_Wood_strike) G_Wood_strike B_Wood_strike hr.m (ac 1) (af (ac 2) ag (ae rfl)))))
    (ao (bx (a6 (T.gf M_Wood_worth_of) G_Wood_worth_of B_Wood_worth_of hr.m (ac 1) (af (ac 2) ag (ae rfl)))))))))))
    (bC (gB (aK (bu rfl hr.units) (ac 0) ai (aJ _)) (bC (g9 (fU (T.gf M_Wood_put) R_Wood_put B_Wood_put hr.m (ac 1) (af (ac 2) (af ai ag (ae rfl)) (ae rfl)))))
    (bC (gB (aK (bu rfl hr.units) (ac 0) ai (aJ _)) (bC (g9 (zK (T.gf M_Wood_use) R_Wood_use B0_Wood_use hr.m (ac 1) (af (ac 2) ag (ae rfl)))))
    (bC (gB (aK (bu rfl hr.units) (ac 0) ai (aJ _)) (bC (g9 (fU (T.gf M_Wood_strike) R_Wood_strike B_Wood_strike hr.m (ac 1) (af (ac 2) ag (ae rfl)))))
    (bC (g9 (fU (T.gf M_Wood_worth_of) R_Wood_worth_of B_Wood_worth_of hr.m (ac 1) (af (ac 2) ag (ae rfl)))))))))))
    (GA (i:=4) rfl nd rfl rfl (by rfl) T.mg_AheadError (λ_=>(am (aD (i:=5) nd rfl (Or.inl rfl) (aF (D9 rfl T.gx) (by rfl) T.isinstance PyProof.Rows.boot_isinstance (af (ac 4) (af (bz (af (dj (by rfl) T.mg_Beside) (af (dj (by rfl) T.mg_NoChoice) (af (dj (by rfl) T.mg_NoRow) (af (dj (by rfl) T.mg_NoSign) (af (dj (by rfl) T.mg_NoText) ag (ae rfl)) (ae rfl)) (ae rfl)) (ae rfl)) (ae rfl))) ag (ae rfl)) (ae rfl))))
   (ao (aD (i:=3) nd rfl (Or.inl rfl) (bz (af (aF (nu rfl T.gx) (by rfl) T.isinstance PyProof.Rows.boot_isinstance (af (ac 4) (af (dj (by rfl) T.mg_NoWord) ag (ae rfl)) (ae rfl))) (af (aF (nu rfl T.gx) (by rfl) T.isinstance PyProof.Rows.boot_isinstance (af (ac 4) (af (dj (by rfl) T.mg_Twice) ag (ae rfl)) (ae rfl))) (af (aF (nu rfl T.gx) (by rfl) T.isinstance PyProof.Rows.boot_isinstance (af (ac 4) (af (dj (by rfl) T.mg_Absent) ag (ae rfl)) (ae rfl))) (af (ac 5) ag (ae rfl)) (ae rfl)) (ae rfl)) (ae rfl))))))) (DZ DV)))
   (ao (aE (ac 3)))))),λts S Q h=>?_⟩
 obtain ⟨p,d,n,ms,w,t,rfl,W,hl,old,h0,h4,ht,hq⟩:=h
 have hp:=W.ins
 have same:put S d (.dK (kt mkT ms))=S:=gW W.dct
 ac_nf
 bv_omega
 have hs:(∃ z,t=.str z/\z.length<=1000/\PyData.strOk z=true/\(w=0->Wm.Wd z=true))\/w=0/\Bad t:=by
  rcases ht with ⟨z,rfl,a,b⟩|h
  ·by_cases hw:w=0/\¬ Wm.Wd z=true
   ·exact .inr ⟨hw.1,.inl ⟨z,rfl,a,b,by simpa using hw.2⟩⟩
   ·exact .inl ⟨z,rfl,a,b,λq=>by by_cases h:Wm.Wd z=true;exact h;exact absurd ⟨q,h⟩ hw⟩
  ·exact .inr h
 rcases hs with ⟨z,rfl,hzl,hzo,hwd⟩|⟨rfl,hB⟩
 rotate_left
 ·rw [iW hB] at hq
  dsimp only at hq
  rw [same] at hq
  refine mM ?_
  bv_omega
  rw [Bool.false_xor,decide_eq_true rfl]
  bv_omega
  refine ⟨p,d,n,ms,t,1,rfl,W,.inl ⟨hB,?_⟩⟩
  refine ik T.e_NoWord λa ha=>?_
  and_intros
  bv_omega
  refine io (ys:=[Z.B1,Z.B2,Z.B3,Z.B4,Z.B5]) au (.inl rfl) T.on ?_
  bv_omega
  refine bJ au (.inl rfl) rfl T.knn ?_
  bv_omega
  refine bJ au (.inl rfl) rfl T.knt ?_
  bv_omega
  refine bJ au (.inl rfl) rfl T.kna ?_
  bv_omega
  refine iJ ?_
  and_intros
  bv_omega
  exact .le (.put ha) hq
 cases hm:look ms z with
 |none =>
  by_cases hw0:w=0
  ·subst hw0
   rw [nX (hwd rfl) hm] at hq
   dsimp only at hq
   refine t8 ?_
   bv_omega
   rw [Bool.false_xor,decide_eq_true rfl]
   bv_omega
   refine ⟨p,d,n,ms,z,1,rfl,W,hl,hwd rfl,hm,?_⟩
   bv_omega
   exact .mk hq
  ·rw [kO hw0 hm] at hq
   dsimp only at hq
   rw [same] at hq
   refine mM ?_
   bv_omega
   rw [Bool.false_xor,decide_eq_false hw0]
   bv_omega
   refine ifB (λhb=>?_) λhb=>?_
   ·bv_omega
    refine ⟨p,d,n,ms,z,1,rfl,W,hm,hzl,hzo,?_⟩
    refine ik T.e_Absent λa ha=>?_
    and_intros
    bv_omega
    refine io (ys:=[Z.B1,Z.B2,Z.B3,Z.B4,Z.B5]) au (.inr (.inr rfl)) T.oa ?_
    bv_omega
    refine bJ au (.inr (.inr rfl)) rfl T.kan ?_
    bv_omega
    refine bJ au (.inr (.inr rfl)) rfl T.kat ?_
    bv_omega
    refine bJ au (.inr (.inr rfl)) rfl T.kaa ?_
    bv_omega
    refine iJ ?_
    and_intros
    bv_omega
    exact .le (.put ha) hq
   ·bv_omega
    refine ifB (λhb=>?_) λhb=>?_
    ·bv_omega
     refine ⟨p,d,n,ms,z,rfl,W,hm,hzl,hzo,?_⟩
     refine ik T.e_Absent λa ha=>?_
     and_intros
     bv_omega
     refine io (ys:=[Z.B1,Z.B2,Z.B3,Z.B4,Z.B5]) au (.inr (.inr rfl)) T.oa ?_
     bv_omega
     refine bJ au (.inr (.inr rfl)) rfl T.kan ?_
     bv_omega
     refine bJ au (.inr (.inr rfl)) rfl T.kat ?_
     bv_omega
     refine bJ au (.inr (.inr rfl)) rfl T.kaa ?_
     bv_omega
     refine iJ ?_
     and_intros
     bv_omega
     exact .le (.put ha) hq
    ·bv_omega
     refine ⟨p,d,n,ms,z,rfl,W,hm,hzl,hzo,?_⟩
     refine ik T.e_Absent λa ha=>?_
     and_intros
     bv_omega
     refine io (ys:=[Z.B1,Z.B2,Z.B3,Z.B4,Z.B5]) au (.inr (.inr rfl)) T.oa ?_
     bv_omega
     refine bJ au (.inr (.inr rfl)) rfl T.kan ?_
     bv_omega
     refine bJ au (.inr (.inr rfl)) rfl T.kat ?_
     bv_omega
     refine bJ au (.inr (.inr rfl)) rfl T.kaa ?_
     bv_omega
     refine iJ ?_
     and_intros
     bv_omega
     exact .le (.put ha) hq
 |some m =>
  have om:m.2<=n:=old _ (d8 hm)
  by_cases hw0:w=0
  ·subst hw0
   rw [nY (hwd rfl) hm] at hq
   dsimp only at hq
   rw [same] at hq
   refine mM ?_
   bv_omega
   rw [Bool.false_xor,decide_eq_true rfl]
   bv_omega
   refine ⟨p,d,n,ms,_,1,rfl,W,.inr ⟨z,m,rfl,hzl,hzo,hwd rfl,hm,?_⟩⟩
   refine ik T.e_Twice λa ha=>?_
   and_intros
   bv_omega
   refine io (ys:=[Z.B1,Z.B2,Z.B3,Z.B4,Z.B5]) au (.inr (.inl rfl)) T.ot ?_
   bv_omega
   refine bJ au (.inr (.inl rfl)) rfl T.ktn ?_
   bv_omega
   refine bJ au (.inr (.inl rfl)) rfl T.ktt ?_
   bv_omega
   refine bJ au (.inr (.inl rfl)) rfl T.kta ?_
   bv_omega
   refine iJ ?_
   and_intros
   bv_omega
   exact .le (.put ha) hq
  ·refine t8 ?_
   bv_omega
   rw [Bool.false_xor,decide_eq_false hw0]
   bv_omega
   refine ifB (λhb=>?_) λhb=>?_
   ·obtain rfl:w=1:=by simpa using hb
    rw [wP hm] at hq
    bv_omega
    refine ⟨p,d,n,ms,z,1,m,rfl,W,hl,hm,om,?_⟩
    bv_omega
    exact .mk hq
   ·have hw1:w≠1:=by simpa using hb
    bv_omega
    refine ifB (λhb=>?_) λhb=>?_
    ·obtain rfl:w=2:=by simpa using hb
     rw [wQ hm] at hq
     bv_omega
     refine ⟨p,d,n,ms,z,m,rfl,W,hm,?_⟩
     bv_omega
     exact .mk hq
    ·have hw2:w≠2:=by simpa using hb
     obtain rfl:w=3:=by omega
     rw [wR hm] at hq
     dsimp only at hq
     rw [same] at hq
     bv_omega
     refine ⟨p,d,n,ms,z,m,rfl,W,hm,om,?_⟩
     bv_omega
     exact .mk hq
def lz (x:Br) (z:Str):Bool:=if x.2.1=true then PySem.Txt.startswith z x.1 else decide (z=x.1)
theorem pE {l:List Rt}{last:Rt}(hn:l.Nodup){m:Nat}(h:((bst l).take m).getLast?=some last):(∀ x∈(bst l).take m,ah last x=false)/\∀ y∈(bst l).drop m,ah last y=true:=by
 have hs:=py hn
 rw [<- List.take_append_drop m (bst l),List.pairwise_append] at hs
 obtain ⟨s1,s2,s3⟩:=hs
 obtain ⟨ys,hy⟩:=List.getLast?_eq_some_iff.mp h
 refine ⟨λx hx=>?_,λy hy2=>s3 last (by rw [hy];simp) y hy2⟩
 rw [hy] at s1 hx
 rw [List.pairwise_append] at s1
 rcases List.mem_append.mp hx with q|q
 ·exact rQ (s1.2.2 x q last (by simp))
 ·rw [List.mem_singleton.mp q];exact DG last
theorem zZ {ds:List Rt}(hn:(ds.map (·.1)).Nodup) (h24:∀ a∈ds,a.1.length<=24){b:Str}{m:Nat}(h:(ds.filter λa=>PySem.Txt.startswith a.1 b).length<=m):b5 (ds.filter λa=>PySem.Txt.startswith a.1 b) b m=[]:=by
 unfold b5
 cases q:((bst (ds.filter λa=>PySem.Txt.startswith a.1 b)).take m).getLast? with
 |none=>rfl
 |some last =>
  dsimp only
  have hnl:(ds.filter λa=>PySem.Txt.startswith a.1 b).Nodup:=lx ((List.Sublist.map _ List.filter_sublist).nodup hn)
  obtain ⟨h1,_⟩:=pE hnl q
  have hlen:(bst (ds.filter λa=>PySem.Txt.startswith a.1 b)).length<=m:=by rw [(d7 _).length_eq];exact h
  rw [List.take_of_length_le hlen] at h1 q
  have hne:(ds.filter λa=>PySem.Txt.startswith a.1 b)≠[]:=λe=>by
   rw [e] at q;cases q
  have ok:=mV hn h24 last 25 b (by omega) hne
  have e0:(ds.filter λa=>PySem.Txt.startswith a.1 b).filter (ah last)=[]:=List.filter_eq_nil_iff.mpr λx hx=>by rw [h1 x ((d7 _).mem_iff.mpr hx)];decide
  have hall:=ok.all
  rw [e0] at hall
  have hnil:=List.perm_nil.mp hall
  cases q2:brs 25 last b (ds.filter λa=>PySem.Txt.startswith a.1 b) with
  |nil=>rfl
  |cons x bs =>
   rw [q2,List.flatMap_cons] at hnil
   have:=(ok.ok x (by rw [q2];simp)).2.2.1
   rw [(List.append_eq_nil_iff.mp hnil).1] at this
   cases this
theorem qT:∀ l:List Int,aY (l.map T2.T.int)=some (l.map PyData.int)/\PyData.canLayAll0 (l.map PyData.int)=true/\PyData.depthAll (l.map PyData.int)<=60
 |[]=>⟨rfl,rfl,by simp [PyData.depthAll]⟩
 |a::l=>by
  have ih:=qT l
  refine ⟨?_,?_,?_⟩
  ·simp only [List.map_cons,aY,ih.1,bq]
  ·simp only [List.map_cons,PyData.canLayAll0,PyData.canLay0,ih.2.1,Bool.and_self]
  ·have:=ih.2.2
   simp only [List.map_cons,PyData.depthAll,PyData.depth]
   omega
theorem z4 {S:Sto}{Q:T2.T->Sto->Prop}{n:Bool}{l:List Int}(h:Q (.bl (n ^^ l.isEmpty)) S):gEq n (.lst (l.map T2.T.int)) (.lst []) S Q:=by
 have hl:=qT l
 refine ⟨.list (l.map .int),.list [],by simp only [a7,bq,hl.1,Option.map_some],rfl,by simp only [PyData.canLay0];exact hl.2.1,rfl,?_,?_⟩
 ·have:=hl.2.2
  simp only [PyData.depth,PyData.depthAll];omega
 ·have:PyData.eqv (.list (l.map .int)) (.list [])=l.isEmpty:=by cases l<;>simp [PyData.eqv,PyData.eqvAll]
  rw [this];exact h
def rk2 (a:Str×Int):S6.Ky:=.cons (.i (0 - a.2)) (.cons (.s a.1) .nil)
theorem sH (a:Str×Int):tre (rk2 a)=.tup [.int (0 - a.2),.str a.1]:=by simp [rk2,tre,gH]
theorem eG (a:Str×Int):rk2 a=ky a:=by unfold rk2 ky;rw [Int.zero_sub]
def dB (ms:Ms) (n:Int):List Rt:=ms.map λa=>(a.1,wrt a.2 n)
theorem gr {ms:Ms}{n:Int}{b:Str}:rtd ms n b=(dB ms n).filter λa:Rt=>PySem.Txt.startswith a.1 b:=BT
theorem sI (l:List Rt):(bst l).length=l.length:=(d7 l).length_eq
theorem uD (ds:List Rt) (x:Br):wdR ds x=ds.filter λa=>lz x a.1:=rfl
theorem sJ {ds:List Rt}(hn:ds.Nodup){a:Rt}(ha:a∈ds):ds.count a=1:=Nat.le_antisymm (List.nodup_iff_count.mp hn a) (List.count_pos_iff.mpr ha)
theorem uE {ds:List Rt}(hn:ds.Nodup){a:Rt}(ha:a∈ds):∀ bs:List Br,(bs.flatMap (wdR ds)).count a=(bs.filter λx=>lz x a.1).length
 |[]=>rfl
 |x::bs=>by
  rw [List.flatMap_cons,List.count_append,uE hn ha bs,uD,d9,sJ hn ha,List.filter_cons]
  by_cases h:lz x a.1=true
  ·rw [if_pos h,if_pos h,List.length_cons];omega
  ·rw [if_neg h,if_neg h];omega
theorem El {ds:List Rt}(hn:ds.Nodup){last:Rt}{b:Str}{bs:List Br}(ok:Okb ds last b bs){a:Rt}(ha:a∈ds) (hs:PySem.Txt.startswith a.1 b=true):(bs.filter λx=>lz x a.1).length=if ah last a=true then 1 else 0:=by
 rw [<- uE hn ha bs,ok.all.count_eq,d9,d9,sJ hn ha,if_pos hs]
theorem BV {l:List Rt}{last:Rt}(hn:l.Nodup){m:Nat}(h:((bst l).take m).getLast?=some last){a:Rt}(ha:a∈l):(a∈(bst l).take m) ↔ ah last a=false:=by
 obtain ⟨h1,h2⟩:=pE hn h
 refine ⟨h1 a,λq=>?_⟩
 have:=(d7 l).mem_iff.mpr ha
 rw [<- List.take_append_drop m (bst l)] at this
 rcases List.mem_append.mp this with z|z
 ·exact z
 ·rw [h2 a z] at q;cases q
theorem uF (a:Rt):∀ l:List Rt,((l.map λa=>PyData.tuple [.str a.1,.int a.2]).any λy=>PyData.eqv y (.tuple [.str a.1,.int a.2]))=decide (a∈l)
 |[]=>by simp
 |b::l=>by
  have e:PyData.eqv (.tuple [.str b.1,.int b.2]) (.tuple [.str a.1,.int a.2])=decide (b=a):=by
   have:=tV [b] [a]
   simp only [List.map_cons,List.map_nil,PyData.eqvAll,Bool.and_true] at this
   rw [this]
   simp
  rw [List.map_cons,List.any_cons,e,uF a l]
  by_cases h:b=a
  ·subst h;simp
  ·simp [h,Ne.symm h]
theorem Em {x:Br}{z:Str}(h:lz x z=true):x.1.length<=z.length:=by
 unfold lz at h
 split at h
 ·by_cases e:z=x.1
  ·rw [e];exact Nat.le_refl _
  ·exact Nat.le_of_lt (dG h e)
 ·rw [of_decide_eq_true h];exact Nat.le_refl _
def mW:WSp:=λts S Q=>∃ z x,ts=[.str z,br x]/\z.length<=24/\x.1.length<=24/\Q (.bl (lz x z)) S
theorem uG {S:Sto}{Q:T2.T->Sto->Prop}{z:Str}{x:Br}(h1:z.length<=24) (h2:x.1.length<=24) (h:Q (.bl (lz x z)) S):mW ([.str z,br x]++[]) S Q:=⟨z,x,rfl,h1,h2,h⟩
theorem oo:FnScope iR iR (aj e8):=by nofun
theorem BW {f:Addr}{fd:FuncData}(F:Fun K "_law_lies_in" "_law_lies_in" e8 f fd) (T:Txt K mg C Z):FnOk P w K mg base CX0 1 f fd iR (lSp K mW):=by
 refine aW F oo (λts S Q h=>?_) λcdv A outer s H E hr=>?_
 ·obtain ⟨z,x,rfl,_⟩:=h;rfl
 have nd:=oo.nd
 refine ⟨_,((ao (aE (EV (b9 (bu rfl hr.units) (ac 0) (az rfl (ac 1) ai (λ_ _=>rfl)) (aJ _)) (gv (fZ (az rfl (ac 1) ai (λ_ _=>rfl)) (gv (b9 (bu rfl hr.units) (cH false rfl (ac 0) cY (cj (aF (a9 rfl) (by rfl) T.len PySem.boot_len (af (az rfl (ac 1) ai (λ_ _=>rfl)) ag (ae rfl))))) (az rfl (ac 1) ai (λ_ _=>rfl)) (aJ _))))))))),λts S Q h=>?_⟩
 obtain ⟨z,⟨t,v,i⟩,rfl,hz,hx,hq⟩:=h
 unfold lz at hq
 dsimp only at hx hq
 ac_nf
 unfold br
 bv_omega
 rw [Bool.false_xor]
 by_cases e:z=t
 ·rw [decide_eq_true e]
  rw [show (if v=true then PySem.Txt.startswith z t else decide (z=t))=true by subst e;rw [mv,decide_eq_true rfl];split<;>rfl] at hq
  bv_omega
  exact .mk hq
 ·rw [decide_eq_false e]
  bv_omega
  cases v with
  |false =>
   rw [if_neg (by decide),decide_eq_false e] at hq
   bv_omega
   exact .mk hq
  |true =>
   rw [if_pos rfl,Tm.i7] at hq
   bv_omega
   rw [Bool.false_xor]
   exact .mk hq
def uH (C:Addr):WSp:=λts S Q=>∃ p d n ms b m,ts=[.ref p,.str b,.int m]/\Wo C S p d n ms/\Mk2 n ms/\b.length<=24/\1<=m/\m<=1000/\Q (.bl true) S
theorem og:FnScope ["_law_wood","_law_text","_law_many","_law_told","_law_branches","_law_last","_law_rated","_law_branch","_law_within","_law_word_here","_law_worth","_law_lies"] kK (aj eY):=by nofun
theorem BX {f f1 f2 f3 f4:Addr}{fd fd1 fd2 fd3 fd4:FuncData}(F:Fun K "_law_cut_right" "_law_cut_right" eY f fd) (T:Txt K mg C Z)
  (G__law_lies_in:FnOk P w K mg base CX0 1 f1 fd1 iR (lSp K mW)) (D__law_lies_in:Df K mg "_law_lies_in" f1 fd1 iR)
  (G_Wood_told:FnOk P w K mg base CX0 5 f2 fd2 vv2 (lSp K (iy C))) (M_Wood_told:Meth K C "told" f2) (B_Wood_told:ay K fd2 vv2 [])
  (G_Wood_cut_off:FnOk P w K mg base CX0 29 f3 fd3 vv2 (lSp K (vF false C))) (M_Wood_cut_off:Meth K C "cut_off" f3) (B_Wood_cut_off:ay K fd3 vv2 [])
  (G_Wood_words:FnOk P w K mg base CX0 4 f4 fd4 aZ (lSp K (fQ C))) (M_Wood_words:Meth K C "words" f4) (B_Wood_words:ay K fd4 aZ []) :
  FnOk P w K mg base CX0 30 f fd kK (lSp K (uH C)):=by
 refine aW F og (λts S Q h=>?_) λcdv A outer s H E hr=>?_
 ·obtain ⟨p,d,n,ms,b,m,rfl,_⟩:=h;rfl
 have nd:=og.nd
 refine ⟨_,((am (aD (i:=3) nd rfl (Or.inl rfl) (a6 (T.gf M_Wood_told) G_Wood_told B_Wood_told hr.m (ac 0) (af (ac 1) (af (ac 2) ag (ae rfl)) (ae rfl))))
   (am (aD (i:=4) nd rfl (Or.inl rfl) (a6 (T.gf M_Wood_cut_off) G_Wood_cut_off B_Wood_cut_off hr.m (ac 0) (af (ac 1) (af (ac 2) ag (ae rfl)) (ae rfl))))
   (am (aQ (aK wj (aF (a9 rfl) (by rfl) T.len PySem.boot_len (af (ac 3) ag (ae rfl))) (ac 2) (aJ _))
    (ao (aE (b9 (bu rfl hr.units) (ac 4) (bn ag) (aJ _))))
    a8)
   (am (aD (i:=5) nd rfl (Or.inl rfl) (az rfl (ac 3) (iG ai) (λ_ _=>rfl)))
   (am (aD (i:=6) nd rfl (Or.inl rfl) (er (T.gf M_Wood_words) G_Wood_words B_Wood_words hr.m (ac 0)))
   (am (dJ PassesOwn.never rfl (bV rfl (ac 4)) (aS (i:=7) nd rfl (Or.inr rfl))
    (am (gO false (i:=8) vv16 2 [7] rfl nd rfl (Or.inl rfl) (bV rfl (ac 6)) (λ_ _ _ _=>(h7 (λh=>g5 (n:=2) rfl rfl h) (cG (aS (i:=0) (show List.Nodup (vv16:List Str) from by decide +kernel) rfl (Or.inl rfl)) (cG (aS (i:=1) (show List.Nodup (vv16:List Str) from by decide +kernel) rfl (Or.inl rfl)) g7 (λh1 h2=>cE h1 h2)) (λh1 h2=>cE h1 h2)))) (λ_ _ _ _=>(g8 (bN (ax G__law_lies_in D__law_lies_in hr.m (by rfl) (af (ac 0) (af (ac 2) ag (ae rfl)) (ae rfl)))))) (λ_ _ _ _=>(ac 1)))
   (ao (aQ (du (gG (aK (bu rfl hr.units) (ac 8) (bn ag) (aJ _)) (gG (aK (dQ rfl hr.units) (aF (m9 rfl rfl) (by rfl) T.max PyProof.Rows.boot_max (af (ac 8) ag (ae rfl))) (az rfl (ac 7) ai (λ_ _=>rfl)) (aJ _)) (iD (aK (FV rfl hr.units) (bz (af (aC iF ai (az rfl (ac 7) ai (λ_ _=>rfl))) (af (az rfl (ac 7) ai (λ_ _=>rfl)) ag (ae rfl)) (ae rfl))) (bz (af (aC iF ai (az rfl (ac 5) ai (λ_ _=>rfl))) (af (az rfl (ac 5) ai (λ_ _=>rfl)) ag (ae rfl)) (ae rfl))) (aJ _))))))
    (ao (aE cg))
    a8))))
   (am (dJ PassesOwn.never rfl (bV rfl (ac 6)) (h7 (λh=>g5 (n:=2) rfl rfl h) (cG (aS (i:=9) nd rfl (Or.inr rfl)) (cG (aS (i:=10) nd rfl (Or.inl rfl)) g7 (λh1 h2=>cE h1 h2)) (λh1 h2=>cE h1 h2)))
    (ao (aQ (aK (bu rfl hr.units) (cH false rfl (ac 9) cY (cj (aF (a9 rfl) (by rfl) T.len PySem.boot_len (af (ac 1) ag (ae rfl))))) (ac 1) (aJ _))
    (am (aD (i:=11) nd rfl (Or.inl rfl) (aF (a9 rfl) (by rfl) T.len PySem.boot_len (af (c8 false ["_law_branch","_law_word_here"] 1 [9] rfl (bV rfl (ac 4)) (λ_ _ _ _=>(aS (i:=0) (show List.Nodup (["_law_branch","_law_word_here"]:List Str) from by decide +kernel) rfl (Or.inl rfl))) (λ_ _ _ _=>(g8 (bN (ax G__law_lies_in D__law_lies_in hr.m (by rfl) (af (ac 1) (af (ac 0) ag (ae rfl)) (ae rfl)))))) (λ_ _ _ _=>(ac 0))) ag (ae rfl))))
   (ao (aQ (aK (dQ rfl hr.units) (ac 11) (ni u5 (by rfl) T.int PyProof.Rows.boot_int (af (b9 (Ea rfl hr.units) (bz (af (ac 9) (af (ac 10) ag (ae rfl)) (ae rfl))) (ac 3) (by with_unfolding_all rfl)) ag (ae rfl))) (aJ _))
    (ao (aE cg))
    a8)))
    a8)))
   (ao (aE cg)))))))))),λts S Q h=>?_⟩
 obtain ⟨p,d,n,ms,b,m,rfl,W,hM,hb,hm1,hm2,hq⟩:=h
 have hp:=W.ins
 have hnd:((dB ms n).map (·.1)).Nodup:=by unfold dB;rw [List.map_map];exact hM.nd
 have hds:(dB ms n).Nodup:=lx hnd
 have h24:∀ a∈dB ms n,a.1.length<=24:=λa ha=>by
  obtain ⟨x,hx,rfl⟩:=List.mem_map.mp ha
  exact (Wm.eF (hM.wd x hx)).2
 have hso:∀ a∈dB ms n,PyData.strOk a.1=true:=λa ha=>by
  obtain ⟨x,hx,rfl⟩:=List.mem_map.mp ha
  exact Wm.nj (hM.wd x hx)
 have hLl:=jF ms n b
 have hL60:=hM.len
 ac_nf
 bv_omega
 refine ⟨p,d,n,ms,b,m,rfl,W,hM.len,hM.old,hM.nd,by omega,?_⟩
 bv_omega
 refine ⟨p,d,n,ms,b,m,rfl,W,hM.len,hM.old,hM.nd,hM.wd,by omega,?_⟩
 bv_omega
 refine ifB (λhlt=>?_) λhlt=>?_
 ·have hlt:=of_decide_eq_true hlt
  rw [List.length_take,sI] at hlt
  have e0:b5 (rtd ms n b) b m.toNat=[]:=by
   rw [gr]
   exact zZ hnd h24 (by rw [<- gr];omega)
  rw [e0]
  bv_omega
  refine ⟨.list [],.list [],rfl,rfl,rfl,rfl,by decide,?_⟩
  rw [show (false ^^ PyData.eqv (.list []) (.list []))=true from by decide +kernel]
  exact .mk hq
 ·have hlt:=of_decide_eq_false hlt
  have hlen:((bst (rtd ms n b)).take m.toNat).length=m.toNat:=by rw [List.length_take] at hlt ⊢;omega
  have hLn:(rtd ms n b).Nodup:=ue hM.nd
  cases hlast:((bst (rtd ms n b)).take m.toNat).getLast? with
  |none=>rw [List.getLast?_eq_none_iff.mp hlast] at hlen;simp at hlen;omega
  |some last =>
   have hne:rtd ms n b≠[]:=λe=>by rw [e] at hlen;simp [bst] at hlen;omega
   have hat:=sF hlast
   have hok:Okb (dB ms n) last b (b5 (rtd ms n b) b m.toNat):=by
    unfold b5
    rw [hlast]
    dsimp only
    rw [gr]
    exact mV hnd h24 last 25 b (by omega) (by rw [<- gr];exact hne)
   have hbl:(b5 (rtd ms n b) b m.toNat).length<=60:=by
    unfold b5
    rw [hlast]
    exact Nat.le_trans (mm 25 last b _ hne) (by omega)
   have htold:∀ a∈rtd ms n b,(a∈(bst (rtd ms n b)).take m.toNat) ↔ ah last a=false:=λa ha=>BV hLn hlast ha
   have hsub:∀ a∈(bst (rtd ms n b)).take m.toNat,a∈dB ms n:=λa ha=>by
    have:=(d7 _).mem_iff.mp (List.mem_of_mem_take ha)
    rw [gr] at this
    exact (List.mem_filter.mp this).1
   generalize b5 (rtd ms n b) b m.toNat=bs at hok hbl ⊢
   generalize (bst (rtd ms n b)).take m.toNat=tl at hat htold hsub hlen ⊢
   clear hlast
   bv_omega
   refine ⟨p,d,n,ms,rfl,W,hM.len,hM.old,hM.nd,hM.wd,λl hlp hlr=>?_⟩
   have hll:l.length<=60:=by rw [hlp.length_eq,List.length_map];exact hL60
   have hl24:∀ a∈l,a.1.length<=24:=λa ha=>h24 a (hlp.mem_iff.mp ha)
   have hx24:∀ x∈bs,x.1.length<=24:=λx hx=>by
    obtain ⟨a,ha,_⟩:=List.mem_map.mp (hok.ok x hx).2.2.1
    rw [uD] at ha
    obtain ⟨h1,h2⟩:=List.mem_filter.mp ha
    exact Nat.le_trans (Em h2) (h24 a h1)
   bv_omega
   refine jy (f:=br) (ls:=bs) (λrest σ' S'=>S=S'/\(∃ u7 u8,σ'=[some (.ref p),some (.str b),some (.int m),some (.lst (tl.map rt)),some (.lst (bs.map br)),some (rt last),some (.lst (l.map rt)),u7,u8,none,none,none])/\∀ x∈rest,x∈bs) ⟨rfl,⟨_,_,rfl⟩,λ_ h=>h⟩ ?_ ?_
   ·rintro x rest σ' S' N ⟨rfl,⟨u7,u8,rfl⟩,hr1⟩ hN
    have hx:=hr1 x List.mem_cons_self
    obtain ⟨k1,k2,k3,k4⟩:=hok.ok x hx
    have hx1:=hx24 x hx
    refine ⟨trivial,?_⟩
    bv_omega
    refine kU (ls:=l) rt (λa=>if lz x a.1=true then some (.int a.2) else none) [some (br x)] trivial (by rw [sizeLine_eq];omega) (λa ha u v acc N hacc hN=>?_) ?_
    ·have ha1:=hl24 a ha
     unfold rt
     bv_omega
     refine uG ha1 hx1 ?_
     refine ⟨_,rfl,?_⟩
     refine ifB (λhb=>?_) λhb=>?_
     ·rw [if_pos hb] at hN
      bv_omega
      exact ⟨hacc,hN _ _⟩
     ·rw [if_neg (by rw [hb];decide),Option.toList_none,List.append_nil] at hN
      exact hN _ _
    rw [ko,show (λa:Rt=>T2.T.int a.2)=T2.T.int ∘ (λa:Rt=>a.2) from rfl,<- List.map_map]
    have hp2:((l.filter λa=>lz x a.1).map (·.2)).Perm ((wdR (dB ms n) x).map (·.2)):=(hlp.filter _).map _
    generalize (l.filter λa=>lz x a.1).map (·.2)=ns at hp2 ⊢
    have n0:ns≠[]:=λe=>by
     rw [e] at hp2
     rw [List.nil_perm.mp hp2] at k3;cases k3
    bv_omega
    refine z4 ?_
    rw [show (false ^^ ns.isEmpty)=false by cases ns;exact absurd rfl n0;rfl]
    bv_omega
    refine mI (ns:=ns) (Tm.lj ns) n0 λi i1 i2=>?_
    obtain rfl:i=x.2.2:=Int.le_antisymm (k4 i (hp2.mem_iff.mp i1)) (i2 _ (hp2.mem_iff.mpr k3))
    unfold br rt
    bv_omega
    rw [decide_eq_true rfl,Bool.true_xor,Bool.not_true]
    bv_omega
    refine ⟨rk2 (x.1,x.2.2),rk2 last,(sH (x.1,x.2.2)).symm,(sH last).symm,by rw [eG];exact kh _,by rw [eG];exact kh _,by rw [eG,eG];exact gi _ _,by rw [eG];simp [ky,Ky.dep],?_⟩
    rw [show gl Cp.le (rk2 (x.1,x.2.2)) (rk2 last)=!ah last (x.1,x.2.2) by rw [eG,eG];rfl,k2,Bool.not_true]
    bv_omega
    exact hN _ _ ⟨rfl,⟨_,_,rfl⟩,λy hy=>hr1 y (List.mem_cons_of_mem _ hy)⟩
   rintro σ' S' ⟨rfl,⟨u7,u8,rfl⟩,_⟩
   refine ⟨trivial,?_⟩
   bv_omega
   refine jy (f:=rt) (ls:=l) (λrest σ' S'=>S=S'/\(∃ u9 u10 u11,σ'=[some (.ref p),some (.str b),some (.int m),some (.lst (tl.map rt)),some (.lst (bs.map br)),some (rt last),some (.lst (l.map rt)),u7,u8,u9,u10,u11])/\∀ x∈rest,x∈l) ⟨rfl,⟨_,_,_,rfl⟩,λ_ h=>h⟩ ?_ ?_
   ·rintro a rest σ' S' N ⟨rfl,⟨u9,u10,u11,rfl⟩,hr1⟩ hN
    have ha:=hr1 a List.mem_cons_self
    have hads:=hlp.mem_iff.mp ha
    have ha1:=hl24 a ha
    have hgo:∀ u9 u10 u11,N [some (.ref p),some (.str b),some (.int m),some (.lst (tl.map rt)),some (.lst (bs.map br)),some (rt last),some (.lst (l.map rt)),u7,u8,u9,u10,u11] S:=λu9 u10 u11=>hN _ _ ⟨rfl,⟨_,_,_,rfl⟩,λy hy=>hr1 y (List.mem_cons_of_mem _ hy)⟩
    refine ⟨trivial,?_⟩
    unfold rt at hgo ⊢
    bv_omega
    rw [Bool.false_xor]
    refine ifB (λhs=>?_) λhs=>?_
    ·have st:PySem.Txt.startswith a.1 b=true:=by rw [Tm.i7];exact hs
     bv_omega
     refine d0 (ls:=bs) br (λx=>if lz x a.1=true then some (br x) else none) [some (.str a.1)] trivial (by rw [sizeLine_eq];omega) (λx hx u acc N hacc hN=>?_) ?_
     ·have hx1:=hx24 x hx
      bv_omega
      refine uG ha1 hx1 ?_
      refine ⟨_,rfl,?_⟩
      refine ifB (λhb=>?_) λhb=>?_
      ·rw [if_pos hb] at hN
       bv_omega
       exact ⟨hacc,hN _⟩
      ·rw [if_neg (by rw [hb];decide),Option.toList_none,List.append_nil] at hN
       exact hN _
     rw [ko]
     have hcnt:=El hds hok hads st
     bv_omega
     refine Eb (dx:=.tuple [.str a.1,.int a.2]) (D:=tl.map λa=>PyData.tuple [.str a.1,.int a.2]) rfl (eS (l:=tl)) (tT λy hy=>hso y (hsub y hy)) (by simp [PyData.canLay0,PyData.canLayAll0,hso a hads]) (Nat.le_trans (tU tl) (by decide)) ?_
     rw [uF]
     bv_omega
     have hin:(a∈tl) ↔ ah last a=false:=htold a (by rw [gr];exact List.mem_filter.mpr ⟨hads,st⟩)
     have hEq:(((bs.filter λx=>lz x a.1).length:Nat):Int)=if (!decide (a∈tl))=true then 1 else 0:=by
      rw [hcnt]
      by_cases q:ah last a=true
      ·have h2:a∉tl:=λz=>by rw [hin.mp z] at q;cases q
       simp [q,h2]
      ·have h2:a∈tl:=hin.mpr (by simpa using q)
       simp [q,h2]
     rw [decide_eq_true hEq,Bool.true_xor,Bool.not_true]
     bv_omega
     exact hgo _ _ _
    ·bv_omega
     exact hgo _ _ _
   rintro σ' S' ⟨rfl,⟨u9,u10,u11,rfl⟩,_⟩
   refine ⟨trivial,?_⟩
   bv_omega
   exact .mk hq
theorem uI {n:Int}{ms:Ms}{l:List Rt}(h:Mk2 n ms) (p:l.Perm (ms.map λa=>(a.1,wrt a.2 n))):Shw (l.map λa=>PyData.tuple [.str a.1,.int a.2]):=by
 refine uu (by rw [List.length_map,p.length_eq,List.length_map];have:=h.len;omega) λe he=>?_
 obtain ⟨a,ha,rfl⟩:=List.mem_map.mp he
 obtain ⟨x,hx,rfl⟩:=List.mem_map.mp (p.mem_iff.mp ha)
 have hr:=h.rng x hx
 exact uw (h.wd x hx) (jg hr.1) (Int.le_trans (jX hr.1) hr.2)
theorem sK {n:Int}{ms:Ms}{l m:List Rt}(h:Mk2 n ms) (p:l.Perm (ms.map λa=>(a.1,wrt a.2 n))) (q:m.Perm (ms.map λa=>(a.1,wrt a.2 n))) (r1:eU l) (r2:eU m):m=l:=by
 refine vH r2 r1 ((q.map _).nodup_iff.mpr ?_) (q.trans p.symm)
 rw [List.map_map]
 exact h.nd
theorem sL {k:Nat}{f:Addr}{fd:FuncData}{ps:List Str}{u v:WSp}(F:FnOk P w K mg base CX0 k f fd ps (lSp K u)) (G:FnOk P w K mg base CX0 k f fd ps (lSp K v)):FnOk P w K mg base CX0 k f fd ps (lSp K λts S Q=>u ts S Q\/v ts S Q) :=
 ⟨λvs H Q E ⟨S,ts,Qt,s,r,q,b⟩=>q.elim (λq=>F.len vs H Q E ⟨S,ts,Qt,s,r,q,b⟩) λq=>G.len vs H Q E ⟨S,ts,Qt,s,r,q,b⟩,
  λA outer s H args us vs Q E hr he hb hv zz118=>by obtain ⟨S,ts,Qt,s',r,q,b⟩:=zz118;exact q.elim (λq=>F.run A outer s H args us vs Q E hr he hb hv ⟨S,ts,Qt,s',r,q,b⟩) λq=>G.run A outer s H args us vs Q E hr he hb hv ⟨S,ts,Qt,s',r,q,b⟩⟩
def iX (ms:Ms) (n:Int) (b:Str):Option Int:=if rtd ms n b=[] then none else some (b6 (rtd ms n b))
theorem vL {S:Sto}{Q:T2.T->Sto->Prop}{p d:Addr}{n:Int}{ms:Ms}{b:Str}(W:Wo C S p d n ms) (h1:ms.length<=100) (h2:∀ a∈ms,a.2.2<=n) (h:Q (noI (iX ms n b)) S):kn C (.ref p::([.str b]++[])) S Q:=by
 have e:(rtd ms n b).map (·.2)=(bw ms b).map λa=>wrt a.2 n:=by unfold rtd;rw [List.map_map];rfl
 refine ⟨p,d,n,ms,b,rfl,W,h1,h2,λh0=>?_,λh0 i i1 i2=>?_⟩
 ·unfold iX at h
  rw [if_pos (by unfold rtd;rw [h0];rfl)] at h;exact h
 ·rw [<- e] at i1 i2
  unfold iX at h
  rw [if_neg (λq=>h0 (by unfold rtd at q;exact List.map_eq_nil_iff.mp q)),mj i1 i2] at h
  exact h
theorem sM {n:Int}{ms:Ms}{b:Str}(h:Mk2 n ms):∀ i,iX ms n b=some i->i.natAbs.log2<1920:=λi e=>by
 unfold iX at e
 split at e
 ·cases e
 ·rename_i hne
  obtain ⟨x,hx,hxi⟩:=List.mem_map.mp (mt hne).1
  obtain ⟨y,hy,rfl⟩:=List.mem_map.mp hx
  have hr:=h.rng y (List.mem_filter.mp hy).1
  cases e
  rw [<- hxi]
  exact uv (jg hr.1) (Int.le_trans (jX hr.1) hr.2)
theorem En {n:Int}{ms:Ms}{b:Str}{m:Nat}(h:Mk2 n ms):Shw (((bst (rtd ms n b)).take m).map λa=>PyData.tuple [.str a.1,.int a.2]):=by
 refine uu ?_ λe he=>?_
 ·have h1:=jF ms n b
  have h2:=h.len
  rw [List.length_map,List.length_take,sI];omega
 ·obtain ⟨a,ha,rfl⟩:=List.mem_map.mp he
  obtain ⟨x,hx,rfl⟩:=List.mem_map.mp ((d7 _).mem_iff.mp (List.mem_of_mem_take ha))
  have hx:=(List.mem_filter.mp hx).1
  have hr:=h.rng x hx
  exact uw (h.wd x hx) (jg hr.1) (Int.le_trans (jX hr.1) hr.2)
theorem Wo.fe {S:Sto}{p d fe:Addr}{n:Int}{ms:Ms}{us:List T2.T}{o:O}(W:Wo C S p d n ms) (h:S fe=some (.lst us)):Wo C (T2.put S fe o) p d n ms:=⟨(ak (ce W.ins h (by simp))).trans W.ins,(ak (ce W.dct h (by simp))).trans W.dct⟩
def sN (C D:Addr):WSp:=λts S Q=>∃ p d p2 d2 n ms fe o n0 ws,ts=[.ref p,.ref p2,.ref fe,.lst (ws.map T2.T.str)]/\Wo C S p d n ms/\Wo D S p2 d2 n ms/\Mk2 n ms/\S fe=some o/\Fd n0 o/\n0+20<1000000000/\ws≠[]/\ws.length<=20/\(∀ x∈ws,Wm.Wd x=true)/\∀ o',Fd (n0+10) o'->Q (.bl true) (put S fe o')
theorem oS:FnScope ["_law_one","_law_other","_law_feed_here","_law_words_here","_law_text","_law_many","_law_word_here"] vv5 (aj fz):=by nofun
theorem z5 {D:Addr}{f f1 f2 f3 f4 f5 f6 f7 f8:Addr}{fd fd1 fd2 fd3 fd4 fd5 fd6 fd7 fd8:FuncData}(F:Fun K "_law_alike" "_law_alike" fz f fd) (T:Txt K mg C Z) (U:Txt K mg D Z)
  (G__law_draw:FnOk P w K mg base CX0 1 f1 fd1 vv0 (lSp K db)) (D__law_draw:Df K mg "_law_draw" f1 fd1 vv0)
  (G__law_beginning:FnOk P w K mg base CX0 2 f2 fd2 kL (lSp K vD)) (D__law_beginning:Df K mg "_law_beginning" f2 fd2 kL)
  (G__law_cut_right:FnOk P w K mg base CX0 30 f3 fd3 kK (lSp K (uH C))) (D__law_cut_right:Df K mg "_law_cut_right" f3 fd3 kK)
  (G_Wood_words:FnOk P w K mg base CX0 4 f4 fd4 aZ (lSp K (fQ C))) (O_Wood_words:FnOk P w K mg base CX0 4 f4 fd4 aZ (lSp K (fQ D))) (M_Wood_words:Meth K C "words" f4) (N_Wood_words:Meth K D "words" f4) (B_Wood_words:ay K fd4 aZ [])
  (G_Wood_era:FnOk P w K mg base CX0 1 f5 fd5 aZ (lSp K (nB C))) (O_Wood_era:FnOk P w K mg base CX0 1 f5 fd5 aZ (lSp K (nB D))) (M_Wood_era:Meth K C "era" f5) (N_Wood_era:Meth K D "era" f5) (B_Wood_era:ay K fd5 aZ [])
  (G_Wood_top_of:FnOk P w K mg base CX0 3 f6 fd6 vv3 (lSp K (kn C))) (O_Wood_top_of:FnOk P w K mg base CX0 3 f6 fd6 vv3 (lSp K (kn D))) (M_Wood_top_of:Meth K C "top_of" f6) (N_Wood_top_of:Meth K D "top_of" f6) (B_Wood_top_of:ay K fd6 vv3 [])
  (G_Wood_has:FnOk P w K mg base CX0 1 f7 fd7 vv1 (lSp K (nC C))) (O_Wood_has:FnOk P w K mg base CX0 1 f7 fd7 vv1 (lSp K (nC D))) (M_Wood_has:Meth K C "has" f7) (N_Wood_has:Meth K D "has" f7) (B_Wood_has:ay K fd7 vv1 [])
  (G_Wood_told:FnOk P w K mg base CX0 5 f8 fd8 vv2 (lSp K (iy C))) (O_Wood_told:FnOk P w K mg base CX0 5 f8 fd8 vv2 (lSp K (iy D))) (M_Wood_told:Meth K C "told" f8) (N_Wood_told:Meth K D "told" f8) (B_Wood_told:ay K fd8 vv2 []) :
  FnOk P w K mg base CX0 31 f fd vv5 (lSp K (sN C D)):=by
 refine aW F oS (λts S Q h=>?_) λcdv A outer s H E hr=>?_
 ·obtain ⟨p,d,p2,d2,n,ms,fe,o,n0,ws,rfl,_⟩:=h;rfl
 have nd:=oS.nd
 refine ⟨_,((am (aD (i:=4) nd rfl (Or.inl rfl) (ax G__law_beginning D__law_beginning hr.m (by rfl) (af (ac 2) (af (ac 3) ag (ae rfl)) (ae rfl))))
   (am (aD (i:=5) nd rfl (Or.inl rfl) (aC (aT false) ai (ax G__law_draw D__law_draw hr.m (by rfl) (af (ac 2) (af ai ag (ae rfl)) (ae rfl)))))
   (am (aQ (du (gG (aK (dQ rfl hr.units) (aF (gp rfl hr.gd hr.units) (by rfl) T.repr PyProof.Rows.boot_repr (af (er (T.gf M_Wood_words) G_Wood_words B_Wood_words hr.m (ac 0)) ag (ae rfl))) (aF (gp rfl hr.gd hr.units) (by rfl) T.repr PyProof.Rows.boot_repr (af (er (U.gf N_Wood_words) O_Wood_words B_Wood_words hr.m (ac 1)) ag (ae rfl))) (aJ _)) (iD (aK (dQ rfl hr.units) (er (T.gf M_Wood_era) G_Wood_era B_Wood_era hr.m (ac 0)) (er (U.gf N_Wood_era) O_Wood_era B_Wood_era hr.m (ac 1)) (aJ _)))))
    (ao (aE cg))
    a8)
   (am (aQ (aK (dQ rfl hr.units) (aF (r9 rfl) (by rfl) T.repr PyProof.Rows.boot_repr (af (a6 (T.gf M_Wood_top_of) G_Wood_top_of B_Wood_top_of hr.m (ac 0) (af (ac 4) ag (ae rfl))) ag (ae rfl))) (aF (r9 rfl) (by rfl) T.repr PyProof.Rows.boot_repr (af (a6 (U.gf N_Wood_top_of) O_Wood_top_of B_Wood_top_of hr.m (ac 1) (af (ac 4) ag (ae rfl))) ag (ae rfl))) (aJ _))
    (ao (aE cg))
    a8)
   (am (aD (i:=6) nd rfl (Or.inl rfl) (az rfl (ac 3) (ax G__law_draw D__law_draw hr.m (by rfl) (af (ac 2) (af (aF (a9 rfl) (by rfl) T.len PySem.boot_len (af (ac 3) ag (ae rfl))) ag (ae rfl)) (ae rfl))) (λ_ _=>rfl)))
   (am (aQ (du (gG (dE (bN (aF (m8 rfl) (by rfl) T.isinstance PyProof.Rows.boot_isinstance (af (a6 (T.gf M_Wood_has) G_Wood_has B_Wood_has hr.m (ac 0) (af (ac 6) ag (ae rfl))) (af (nN (n:="bool") (by rfl) T.bool PyProof.Rows.boot_bool) ag (ae rfl)) (ae rfl))))) (iD (aK (dQ rfl hr.units) (a6 (T.gf M_Wood_has) G_Wood_has B_Wood_has hr.m (ac 0) (af (ac 6) ag (ae rfl))) (a6 (U.gf N_Wood_has) O_Wood_has B_Wood_has hr.m (ac 1) (af (ac 6) ag (ae rfl))) (aJ _)))))
    (ao (aE cg))
    a8)
   (ao (aE (fZ (b9 (bu rfl hr.units) (aF (gp rfl hr.gd hr.units) (by rfl) T.repr PyProof.Rows.boot_repr (af (a6 (T.gf M_Wood_told) G_Wood_told B_Wood_told hr.m (ac 0) (af (ac 4) (af (ac 5) ag (ae rfl)) (ae rfl))) ag (ae rfl))) (aF (gp rfl hr.gd hr.units) (by rfl) T.repr PyProof.Rows.boot_repr (af (a6 (U.gf N_Wood_told) O_Wood_told B_Wood_told hr.m (ac 1) (af (ac 4) (af (ac 5) ag (ae rfl)) (ae rfl))) ag (ae rfl))) (aJ _)) (gv (ax G__law_cut_right D__law_cut_right hr.m (by rfl) (af (ac 0) (af (ac 4) (af (ac 5) ag (ae rfl)) (ae rfl)) (ae rfl)))))))))))))),λts S Q h=>?_⟩
 obtain ⟨p,d,p2,d2,n,ms,fe,o,n0,ws,rfl,W,W2,hM,hfe,hFd,hn0,hne,hwl,hwd,hq⟩:=h
 have hpos:=List.length_pos_iff.mpr hne
 have hl60:=hM.len
 obtain ⟨us,rfl⟩:=hFd.lst
 ac_nf
 bv_omega
 refine ⟨fe,_,_,ws,rfl,hne,by omega,λx hx=>(Wm.eF (hwd x hx)).2,hfe,hFd,by omega,λb o5 hb hf5=>?_⟩
 bv_omega
 have V:Wo C (put S fe o') p d n ms:=W.fe hfe
 have V2:Wo D (put S fe o') p2 d2 n ms:=W2.fe hfe
 have hf6:put S fe o' fe=some o':=au
 have hq6:∀ o'',Fd (n0+10) o''->Q (.bl true) (put (put S fe o') fe o''):=λo'' h=>by rw [bD];exact hq o'' h
 have hus6:∃ us,o'=.lst us:=hfd.lst
 generalize put S fe o'=S1 at V V2 hf6 hq6 ⊢
 have vi:=V.ins
 have vi2:=V2.ins
 have m1:1<=1+r:=by omega
 have m2:1+r<=5:=by omega
 generalize 1+r=mn at m1 m2 ⊢
 bv_omega
 refine ⟨p,d,n,ms,rfl,V,hM.len,hM.old,hM.nd,hM.wd,λl hlp hlr=>?_⟩
 have hsh:=uI hM hlp
 bv_omega
 refine ⟨_,_,rfl,eS (l:=l),hsh.sh,hsh.nd,hsh.dp,hsh.sz,?_⟩
 bv_omega
 refine ⟨p2,d2,n,ms,rfl,V2,hM.len,hM.old,hM.nd,hM.wd,λl2 hlp2 hlr2=>?_⟩
 obtain rfl:=sK hM hlp hlp2 hlr hlr2
 bv_omega
 refine ⟨_,_,rfl,eS (l:=l2),hsh.sh,hsh.nd,hsh.dp,hsh.sz,?_⟩
 bv_omega
 rw [decide_eq_true rfl,Bool.true_xor,Bool.not_true]
 bv_omega
 refine ⟨p,d,n,rfl,vi,?_⟩
 bv_omega
 refine ⟨p2,d2,n,rfl,vi2,?_⟩
 bv_omega
 rw [decide_eq_true rfl,Bool.true_xor,Bool.not_true]
 bv_omega
 refine vL V (by omega) hM.old ?_
 bv_omega
 refine sd _ (sM hM) ?_
 bv_omega
 refine vL V2 (by omega) hM.old ?_
 bv_omega
 refine sd _ (sM hM) ?_
 bv_omega
 rw [decide_eq_true rfl,Bool.true_xor,Bool.not_true]
 bv_omega
 obtain ⟨us6,hus⟩:=hus6
 have X:Wo C (put S1 fe o') p d n ms:=V.fe (us:=us6) (hf6.trans (congrArg some hus))
 have X2:Wo D (put S1 fe o') p2 d2 n ms:=V2.fe (us:=us6) (hf6.trans (congrArg some hus))
 have hq7:=hq6 o' (hfd.mono (by omega))
 generalize put S1 fe o'=S2 at X X2 hq7 ⊢
 have xi:=X.ins
 have xi2:=X2.ins
 bv_omega
 refine ⟨p,d,n,ms,z,rfl,X,?_⟩
 bv_omega
 refine ⟨p,d,n,ms,z,rfl,X,?_⟩
 bv_omega
 refine ⟨p2,d2,n,ms,z,rfl,X2,?_⟩
 bv_omega
 rw [decide_eq_true rfl,Bool.true_xor,Bool.not_true]
 bv_omega
 refine ⟨p,d,n,ms,b,mn,rfl,X,hM.len,hM.old,hM.nd,by omega,?_⟩
 have hst:=En (b:=b) (m:=mn.toNat) hM
 bv_omega
 refine ⟨_,_,rfl,eS (l:=(bst (rtd ms n b)).take mn.toNat),hst.sh,hst.nd,hst.dp,hst.sz,?_⟩
 bv_omega
 refine ⟨p2,d2,n,ms,b,mn,rfl,X2,hM.len,hM.old,hM.nd,by omega,?_⟩
 bv_omega
 refine ⟨_,_,rfl,eS (l:=(bst (rtd ms n b)).take mn.toNat),hst.sh,hst.nd,hst.dp,hst.sz,?_⟩
 bv_omega
 rw [decide_eq_true rfl,Bool.false_xor]
 bv_omega
 refine ⟨p,d,n,ms,b,mn,rfl,X,hM,hb,m1,by omega,?_⟩
 bv_omega
 exact .mk hq7
def rfs (vs:List Int) (t:T2.T) (n:Int) (ms:Ms):List T2.T×Ms:=vs.foldl (λs w=>(s.1++[(rfd w t n s.2).1],(rfd w t n s.2).2)) ([],ms)
theorem dC (vs:List Int) (w:Int) (t:T2.T) (n:Int) (ms:Ms):rfs (vs++[w]) t n ms=((rfs vs t n ms).1++[(rfd w t n (rfs vs t n ms).2).1],(rfd w t n (rfs vs t n ms).2).2):=by
 unfold rfs;rw [List.foldl_append];rfl
theorem uJ:∀ bs:List Bool,aY (bs.map T2.T.bl)=some (bs.map PyData.bool)/\PyData.canLayAll0 (bs.map PyData.bool)=true/\PyData.depthAll (bs.map PyData.bool)<=1/\PyData.eqvAll (bs.map PyData.bool) (bs.map PyData.bool)=true
 |[]=>⟨rfl,rfl,by simp [PyData.depthAll],rfl⟩
 |b::bs=>by
  obtain ⟨h1,h2,h3,h4⟩:=uJ bs
  refine ⟨by simp only [List.map_cons,aY,bq,h1],by simp only [List.map_cons,PyData.canLayAll0,PyData.canLay0,h2,Bool.and_self],?_,?_⟩
  ·simp only [List.map_cons,PyData.depthAll,PyData.depth];omega
  ·simp only [List.map_cons,PyData.eqvAll,h4,Bool.and_true];cases b<;>decide +kernel
theorem qU:∀ {L:List T2.T},(∀ x∈L,∃ bs:List Bool,x=.tup (bs.map T2.T.bl))->∃ D,aY L=some D/\PyData.canLayAll0 D=true/\PyData.depthAll D<=5/\PyData.eqvAll D D=true
 |[],_=>⟨[],rfl,rfl,by simp [PyData.depthAll],rfl⟩
 |x::L,h=>by
  obtain ⟨D,d1,d2,d3,d4⟩:=qU (L:=L) λy hy=>h y (List.mem_cons_of_mem _ hy)
  obtain ⟨bs,rfl⟩:=h x List.mem_cons_self
  obtain ⟨h1,h2,h3,h4⟩:=uJ bs
  refine ⟨.tuple (bs.map PyData.bool)::D,by simp only [aY,bq,h1,d1,Option.map_some],by simp only [PyData.canLayAll0,PyData.canLay0,h2,d2,Bool.and_self],?_,?_⟩
  ·simp only [PyData.depthAll,PyData.depth];omega
  ·simp only [PyData.eqvAll,PyData.eqv,h4,d4,Bool.and_self]
def Itm (ws:List Str) (t:T2.T):Prop:=(∃ z:Str,t=.str z/\z.length<=1000/\PyData.strOk z=true/\(Wm.Wd z=true->z∈ws))\/(km t/\∃ d,(∀ S,a7 S t=some d)/\Tng d)
structure A4 where
 (p d q e:Addr)
def wd4 (C:Addr) (A:A4) (n:Int) (ms:Ms):List (Addr×O):=[(A.p,.ins C [("marks",.ref A.d),("now",.int n)]),(A.d,.dK (kt mkT ms)),(A.q,.dK [(.inr "marks",.ref A.e),(.inr "era",.int n)]),(A.e,.dK (kt mkT ms))]
section
variable {C:Addr}{S S':Sto}{fe:Addr}{f f':Fe}{A:A4}{n n':Int}{ms ms':Ms}{l:List (Addr×O)}{ws:List Str}{k:Nat}
theorem At.bo (h:At S ((fe,fo f)::(wd4 C A n ms++l))) (g:Wk ws k n ms):Bo C S ws k A.p A.d A.q A.e n ms:=⟨⟨h.get 1 rfl,h.get 2 rfl⟩,h.get 3 rfl,h.get 4 rfl,h.ne 2 3 (by decide) rfl rfl,h.ne 2 4 (by decide) rfl rfl,h.ne 3 4 (by decide) rfl rfl,g⟩
theorem At.deed (h:At S ((fe,fo f)::(wd4 C A n ms++l))) (ho:vJ S S' fe A.p A.d A.q A.e) (hf:S' fe=some (fo f')) (hB:Bo C S' ws k A.p A.d A.q A.e n' ms'):At S' ((fe,fo f')::(wd4 C A n' ms'++l)):=by
 refine At.up (l1:=(fe,fo f)::wd4 C A n ms) (l1':=(fe,fo f')::wd4 C A n' ms') h ⟨⟨(At.left (l1:=(fe,fo f)::wd4 C A n ms) h).nd,λx hx=>?_⟩,rfl,λa ha=>?_⟩
 ·simp only [wd4,List.mem_cons,List.not_mem_nil,or_false] at hx
  rcases hx with rfl|rfl|rfl|rfl|rfl
  ·exact hf
  ·exact hB.wo.ins
  ·exact hB.wo.dct
  ·exact hB.md
  ·exact hB.me
 ·simp only [wd4,List.map_cons,List.map_nil,List.mem_cons,List.not_mem_nil,or_false,not_or] at ha
  exact ho a ha.1 ha.2.1 ha.2.2.1 ha.2.2.2.1 ha.2.2.2.2
theorem Wk.more {ws':List Str}(h:Wk ws k n ms) (hs:∀ x∈ws,x∈ws'):Wk ws' k n ms:=⟨h.len,λa ha=>hs _ (h.key a ha),h.nd,h.old,h.rng⟩
end
def iK:WSp:=λts S Q=>∃ ns:List Int,ts=[.scr ns]/\ns.length<=63/\∀ S',Q (.bl true) S'
theorem uK:FnScope ["_law_script","_law_feed_here","_law_words_here","_law_one","_law_other","_law_models","_law_k","_law_beside","_law_some","_law_word_here","_law_ways","_law_due"] gL (aj dc):=by nofun
theorem Eo {f f1 f3 f4 f5 f6 f7 f8 f9:Addr}{fd fd1 fd3 fd4 fd5 fd6 fd7 fd8 fd9:FuncData}(F:Fun K "law" "law" dc f fd) (T:Txt K mg Z.P Z) (U:Txt K mg Z.W Z) (hIs:IsO K Z.P) (hKit:PySem.W.kitOne K (.ref Z.P) (.ref Z.W)=some true)
  (G_PartWood___init__:FnOk P w K mg base CX0 1 f1 fd1 aZ (lSp K (mT Z.P))) (M_PartWood:Mk K Z.P f1) (B_PartWood___init__:ay K fd1 aZ [])
  (G_Wood___init__:FnOk P w K mg base CX0 1 f1 fd1 aZ (lSp K (mT Z.W))) (M_Wood:Mk K Z.W f1) (B_Wood___init__:ay K fd1 aZ [])
  (G__law_feed:FnOk P w K mg base CX0 1 f3 fd3 gL (lSp K mS)) (D__law_feed:Df K mg "_law_feed" f3 fd3 gL)
  (G__law_draw:FnOk P w K mg base CX0 1 f4 fd4 vv0 (lSp K db)) (D__law_draw:Df K mg "_law_draw" f4 fd4 vv0)
  (G__law_words:FnOk P w K mg base CX0 4 f5 fd5 vv0 (lSp K mh)) (D__law_words:Df K mg "_law_words" f5 fd5 vv0)
  (G__law_wood_deed:FnOk P w K mg base CX0 5 f6 fd6 vv4 (lSp K (λts S Q=>mw Z.P ts S Q\/mw Z.W ts S Q))) (D__law_wood_deed:Df K mg "_law_wood_deed" f6 fd6 vv4)
  (G__law_alike:FnOk P w K mg base CX0 31 f7 fd7 vv5 (lSp K (sN Z.P Z.W))) (D__law_alike:Df K mg "_law_alike" f7 fd7 vv5)
  (G__law_refused:FnOk P w K mg base CX0 5 f8 fd8 kJ (lSp K (λts S Q=>nD Z.P ts S Q\/nD Z.W ts S Q))) (D__law_refused:Df K mg "_law_refused" f8 fd8 kJ)
  (G_Wood_words:FnOk P w K mg base CX0 4 f9 fd9 aZ (lSp K (fQ Z.P))) (O_Wood_words:FnOk P w K mg base CX0 4 f9 fd9 aZ (lSp K (fQ Z.W))) (M_Wood_words:Meth K Z.P "words" f9) (N_Wood_words:Meth K Z.W "words" f9) (B_Wood_words:ay K fd9 aZ []) :
  FnOk P w K mg base CX0 32 f fd gL (lSp K iK):=by
 refine aW F uK (λts S Q h=>?_) λcdv A outer s H E hr=>?_
 ·obtain ⟨ns,rfl,_⟩:=h;rfl
 have nd:=uK.nd
 refine ⟨_,((am (aD (i:=1) nd rfl (Or.inl rfl) (ax G__law_feed D__law_feed hr.m (by rfl) (af (ac 0) ag (ae rfl))))
   (am (aD (i:=2) nd rfl (Or.inl rfl) (ax G__law_words D__law_words hr.m (by rfl) (af (ac 1) (af (aC (aT false) ai (ax G__law_draw D__law_draw hr.m (by rfl) (af (ac 1) (af ai ag (ae rfl)) (ae rfl)))) ag (ae rfl)) (ae rfl))))
   (am (aD (i:=3) nd rfl (Or.inr rfl) (rV M_PartWood G_PartWood___init__ B_PartWood___init__ hr.m (by rfl) T.mg_PartWood))
   (am (aD (i:=4) nd rfl (Or.inr rfl) (rV M_Wood G_Wood___init__ B_Wood___init__ hr.m (by rfl) T.mg_Wood))
   (am (aQ (dE (bN (aF (GE rfl hIs) (by rfl) T.isinstance PyProof.Rows.boot_isinstance (af (ac 3) (af (dj (by rfl) T.mg_Wood) ag (ae rfl)) (ae rfl)))))
    (ao (aE cg))
    a8)
   (am (aD (i:=5) nd rfl (Or.inl rfl) (bn (af (rW (by decide +kernel) jT ai) (af (rW (by decide +kernel) jT ai) ag (ae rfl)) (ae rfl))))
   (am (dJ PassesOwn.never rfl (gN (by rfl) T.range (aC (aT false) ai (ax G__law_draw D__law_draw hr.m (by rfl) (af (ac 1) (af ai ag (ae rfl)) (ae rfl))))) (aS (i:=6) nd rfl (Or.inl rfl))
    (am (aD (i:=7) nd rfl (Or.inl rfl) (ni (CW true rfl) (by rfl) T.list PyProof.Rows.boot_list (af (ac 1) ag (ae rfl))))
   (am (bx (ax G__law_wood_deed D__law_wood_deed hr.m (by rfl) (af (ac 1) (af (ac 3) (af (az rfl (ac 5) ai (λ_ _=>rfl)) (af (ac 2) ag (ae rfl)) (ae rfl)) (ae rfl)) (ae rfl))))
   (am (bx (ax G__law_wood_deed D__law_wood_deed hr.m (by rfl) (af (ac 7) (af (ac 4) (af (az rfl (ac 5) ai (λ_ _=>rfl)) (af (ac 2) ag (ae rfl)) (ae rfl)) (ae rfl)) (ae rfl))))
   (ao (aQ (dE (bN (ax G__law_alike D__law_alike hr.m (by rfl) (af (ac 3) (af (ac 4) (af (ac 1) (af (ac 2) ag (ae rfl)) (ae rfl)) (ae rfl)) (ae rfl)))))
    (ao (aE cg))
    a8))))))
   (am (aD (i:=8) nd rfl (Or.inl rfl) (bn (af aM (af aM (af aM (af aM (af aM (af aM (af aM (af aM (af aM ag (ae rfl)) (ae rfl)) (ae rfl)) (ae rfl)) (ae rfl)) (ae rfl)) (ae rfl)) (ae rfl)) (ae rfl))))
   (am (aD (i:=8) nd rfl (Or.inl rfl) (aC (aT false) (ac 8) (bn (af uP (af ai (af (bn (af aM ag (ae rfl))) ag (ae rfl)) (ae rfl)) (ae rfl)))))
   (am (dJ PassesOwn.never rfl (bV rfl (aC (aT false) (ac 2) (bn (af aM (af (az rfl (ac 8) (ax G__law_draw D__law_draw hr.m (by rfl) (af (ac 1) (af ai ag (ae rfl)) (ae rfl))) (λ_ _=>rfl)) (af (az rfl (ac 8) (ax G__law_draw D__law_draw hr.m (by rfl) (af (ac 1) (af ai ag (ae rfl)) (ae rfl))) (λ_ _=>rfl)) ag (ae rfl)) (ae rfl)) (ae rfl))))) (aS (i:=9) nd rfl (Or.inr rfl))
    (am (aD (i:=10) nd rfl (Or.inl rfl) (cH false rfl (bn (af ai (af ai (af ai (af ai ag (ae rfl)) (ae rfl)) (ae rfl)) (ae rfl))) cY (cj (az rfl (bn (af ai (af ai ag (ae rfl)) (ae rfl))) (ni u5 (by rfl) T.int PyProof.Rows.boot_int (af (aF (m8 rfl) (by rfl) T.isinstance PyProof.Rows.boot_isinstance (af (ac 9) (af (nN (n:="str") (by rfl) T.str PyProof.Rows.boot_str) ag (ae rfl)) (ae rfl))) ag (ae rfl))) (λ_ _=>rfl)))))
   (am (gO false (i:=11) ["_law_way","_law_other","_law_word_here"] 1 [4,9] rfl nd rfl (Or.inl rfl) (bV rfl (ac 10)) (λ_ _ _ _=>(aS (i:=0) (show List.Nodup (["_law_way","_law_other","_law_word_here"]:List Str) from by decide +kernel) rfl (Or.inl rfl))) (λ_ _ _ _=>cZ) (λ_ _ _ _=>(ax G__law_refused D__law_refused hr.m (by rfl) (af (ac 0) (af (ac 1) (af (ac 2) ag (ae rfl)) (ae rfl)) (ae rfl)))))
   (ao (aQ (aK (dQ rfl hr.units) (c8 false ["_law_way","_law_one","_law_word_here"] 1 [3,9] rfl (bV rfl (ac 10)) (λ_ _ _ _=>(aS (i:=0) (show List.Nodup (["_law_way","_law_one","_law_word_here"]:List Str) from by decide +kernel) rfl (Or.inl rfl))) (λ_ _ _ _=>cZ) (λ_ _ _ _=>(ax G__law_refused D__law_refused hr.m (by rfl) (af (ac 0) (af (ac 1) (af (ac 2) ag (ae rfl)) (ae rfl)) (ae rfl))))) (ac 11) (aJ _))
    (ao (aE cg))
    a8)))))
   (ao (aE (b9 (bu rfl hr.units) (aF (gp rfl hr.gd hr.units) (by rfl) T.repr PyProof.Rows.boot_repr (af (er (T.gf M_Wood_words) G_Wood_words B_Wood_words hr.m (ac 3)) ag (ae rfl))) (aF (gp rfl hr.gd hr.units) (by rfl) T.repr PyProof.Rows.boot_repr (af (er (U.gf N_Wood_words) O_Wood_words B_Wood_words hr.m (ac 4)) ag (ae rfl))) (aJ _))))))))))))))),λts S Q h=>?_⟩
 obtain ⟨ns,rfl,hns,hq⟩:=h
 ac_nf
 bv_omega
 refine BJ (by omega) (by omega) hfd (by omega) λws o2 hne hwm hnd hwd hf1=>?_
 have hw7:ws.length<=7:=by omega
 have hwl:ws.length<=20:=by omega
 obtain ⟨f0,rfl,hk0⟩:=hf1.fe
 have hA:At (put S fe (fo f0)) [(fe,fo f0)]:=At.cons ⟨List.nodup_nil,λx hx=>nomatch hx⟩ hp0
 generalize put S fe (fo f0)=S0 at hA ⊢
 bv_omega
 intro p1 hp1
 refine ⟨p1,rfl,au,λd1 hd1=>⟨rfl,?_⟩⟩
 have hB:=hA.wood (C:=Z.P) (o:=.ins Z.P [("marks",.ref d1),("now",.int 0)]) hp1 hd1
 generalize put (put (put S0 p1 _) d1 _) p1 _=S1 at hB ⊢
 clear hA hp1 hd1
 bv_omega
 intro p2 hp2
 refine ⟨p2,rfl,au,λd2 hd2=>⟨rfl,?_⟩⟩
 have hA:=hB.wood (C:=Z.W) (o:=.ins Z.W [("marks",.ref d2),("now",.int 0)]) hp2 hd2
 generalize put (put (put S1 p2 _) d2 _) p2 _=S2 at hA ⊢
 clear hB hp2 hd2
 bv_omega
 refine ⟨p1,_,Z.W,true,rfl,hA.get 3 rfl,hKit,?_⟩
 bv_omega
 intro q1 hq1
 bv_omega
 intro e1 he1
 bv_omega
 have a1:=(hA.cons (o:=.dK []) hq1).cons (o:=.dK []) he1
 refine ⟨a1.get 1 rfl,?_⟩
 have a2:=a1.put (o':=.dK [(.inr "marks",.ref e1),(.inr "era",.int 0)]) 1 rfl
 generalize put (put (put S2 q1 _) e1 _) q1 _=S3 at a2 ⊢
 clear hA a1
 bv_omega
 intro q2 hq2
 bv_omega
 intro e2 he2
 bv_omega
 have b1:=(a2.cons (o:=.dK []) hq2).cons (o:=.dK []) he2
 refine ⟨b1.get 1 rfl,?_⟩
 have b2:=b1.put (o':=.dK [(.inr "marks",.ref e2),(.inr "era",.int 0)]) 1 rfl
 generalize put (put (put S3 q2 _) e2 _) q2 _=S4 at b2 ⊢
 clear a2 b1
 have hA:=b2.pick (l':=(fe,fo f0)::(wd4 Z.P ⟨p1,d1,q1,e1⟩ 0 []++wd4 Z.W ⟨p2,d2,q2,e2⟩ 0 [])) [8,7,6,3,2,5,4,1,0] (by decide) rfl
 clear b2
 generalize hA0:A4.mk p1 d1 q1 e1=A at hA
 generalize hB0:A4.mk p2 d2 q2 e2=B at hA
 rw [show p1=A.p by rw [<- hA0],show p2=B.p by rw [<- hB0],show q1=A.q by rw [<- hA0],show q2=B.q by rw [<- hB0]]
 clear hA0 hB0
 have hfe:S4 fe=some (fo f0):=hA.get 0 rfl
 have hFd:=hk0.fd
 bv_omega
 obtain ⟨f1,rfl,hk1⟩:=hfd.fe
 have hA1:At (put S4 fe (fo f1)) ((fe,fo f1)::(wd4 Z.P A 0 []++wd4 Z.W B 0 [])):=hA.put 0 rfl
 generalize put S4 fe (fo f1)=S5 at hA1 ⊢
 clear hA hfe hFd hfd hk0 hf1
 have hN13:(2+r).toNat<=13:=by omega
 refine pt (λi σ' S'=>∃ u6 u7 f n ms,σ'=[some (.scr ns),some (.ref fe),some (.lst (ws.map T2.T.str)),some (.ref A.p),some (.ref B.p),some (.lst [.ref A.q,.ref B.q]),u6,u7,none,none,none,none]/\At S' ((fe,fo f)::(wd4 Z.P A n ms++wd4 Z.W B n ms))/\Fk (2020+40 * (i:Int)) f/\Wk ws i n ms) ⟨_,_,f1,0,[],rfl,hA1,hk1.mono (by omega),.nil⟩ ?_ ?_
 ·clear hA1
  rintro i σ' S' N hi ⟨u6,u7,f,n,ms,rfl,hA,hFk,hW⟩ hN
  have hi:i<14:=by omega
  have hfe:S' fe=some (.lst [.lst (f.cs.map T2.T.int),.int f.i,.int f.x,.int f.k]):=hA.get 0 rfl
  refine ⟨trivial,?_⟩
  bv_omega
  intro be hbe
  have hA2:At (put S' be (.lst [.lst (f.cs.map T2.T.int),.int f.i,.int f.x,.int f.k])) ((be,fo f)::((fe,fo f)::(wd4 Z.P A n ms++wd4 Z.W B n ms))):=hA.cons hbe
  generalize put S' be _=S2 at hA2 ⊢
  clear hA hfe
  have hA3:=hA2.pick (l':=(fe,fo f)::(wd4 Z.P A n ms++((be,fo f)::wd4 Z.W B n ms))) [1,2,3,4,5,0,6,7,8,9] (by decide) rfl
  clear hA2
  bv_omega
  refine .inl ⟨fe,A.p,A.q,A.d,A.e,_,f,ws,i,n,ms,rfl,hA3.get 0 rfl,hFk,by omega,hne,hwl,hwd,hA3.bo hW,by omega,λS3 f1 n1 ms1 hw1 ho hf1 hk1 hB1=>?_⟩
  have hA4:=(hA3.deed ho hf1 hB1).pick (l':=(be,fo f)::(wd4 Z.W B n ms++((fe,fo f1)::wd4 Z.P A n1 ms1))) [5,6,7,8,9,0,1,2,3,4] (by decide) rfl
  clear hA3 ho hf1
  bv_omega
  refine .inr ⟨be,B.p,B.q,B.d,B.e,_,f,ws,i,n,ms,rfl,hA4.get 0 rfl,hFk,by omega,hne,hwl,hwd,hA4.bo hW,by omega,λS4 f2 n2 ms2 hw2 ho hf2 hk2 hB2=>?_⟩
  have heq:=hw1.symm.trans hw2
  simp only [Prod.mk.injEq] at heq
  obtain ⟨rfl,rfl,rfl⟩:=heq
  have hA5:=(hA4.deed ho hf2 hB2).pick (l':=(fe,fo f1)::(wd4 Z.P A n1 ms1++wd4 Z.W B n1 ms1)) [5,6,7,8,9,1,2,3,4] (by decide) rfl
  clear hA4 ho hf2 hw1 hw2
  have hW1:=hB1.ok
  bv_omega
  refine ⟨A.p,A.d,B.p,B.d,n1,ms1,fe,fo f1,_,ws,rfl,⟨hA5.get 1 rfl,hA5.get 2 rfl⟩,⟨hA5.get 5 rfl,hA5.get 6 rfl⟩,hW1.mk2 (by omega) hwd,hA5.get 0 rfl,hk1.fd,by omega,hne,hwl,hwd,λo6 hf6=>?_⟩
  obtain ⟨f6,rfl,hk6⟩:=hf6.fe
  have hA6:At (put S4 fe (fo f6)) ((fe,fo f6)::(wd4 Z.P A n1 ms1++wd4 Z.W B n1 ms1)):=hA5.put 0 rfl
  bv_omega
  exact hN _ _ ⟨_,_,f6,n1,ms1,rfl,hA6,hk6.mono (by omega),hW1⟩
 clear hA1
 rintro σ' S' ⟨u6,u7,f,n,ms,rfl,hA,hFk,hW⟩
 refine ⟨trivial,?_⟩
 have hfe:S' fe=some (fo f):=hA.get 0 rfl
 have hFd:=hFk.fd
 have hW2:=hW.more (ws':=ws++[Str.ofString "qq"]) λx hx=>List.mem_append_left _ hx
 bv_omega
 refine mH rfl rfl (by simp only [List.length_cons,List.length_nil];rw [sizeLine_eq];decide) ?_
 have hI:∀ t∈([T2.T.str (Str.ofString ""),T2.T.str (Str.ofString " "),T2.T.str (Str.ofString "A"),T2.T.str (Str.ofString "a  b"),T2.T.str (Str.ofString "a "),T2.T.str (Str.ofString "a1"),T2.T.str (Str.ofString "abcdefghijklm"),T2.T.str (Str.ofString "a b c d e"),T2.T.str (Str.ofString "abcdefgh abcdefgh abcdefgh")]++[T2.T.non,T2.T.int 7,T2.T.lst [T2.T.str (Str.ofString "a")]]),Itm (ws++[Str.ofString "qq"]) t:=λt ht=>by
  simp only [List.cons_append,List.nil_append,List.mem_cons,List.not_mem_nil,or_false] at ht
  have nw:∀ z:Str,z.length<=1000->PyData.strOk z=true->Wm.Wd z=false->Itm (ws++[Str.ofString "qq"]) (.str z):=λz h1 h2 h3=>.inl ⟨z,rfl,h1,h2,λq=>by rw [h3] at q;cases q⟩
  rcases ht with rfl|rfl|rfl|rfl|rfl|rfl|rfl|rfl|rfl|rfl|rfl|rfl
  ·exact nw _ (by decide +kernel) (by decide +kernel) (by decide +kernel)
  ·exact nw _ (by decide +kernel) (by decide +kernel) (by decide +kernel)
  ·exact nw _ (by decide +kernel) (by decide +kernel) (by decide +kernel)
  ·exact nw _ (by decide +kernel) (by decide +kernel) (by decide +kernel)
  ·exact nw _ (by decide +kernel) (by decide +kernel) (by decide +kernel)
  ·exact nw _ (by decide +kernel) (by decide +kernel) (by decide +kernel)
  ·exact nw _ (by decide +kernel) (by decide +kernel) (by decide +kernel)
  ·exact nw _ (by decide +kernel) (by decide +kernel) (by decide +kernel)
  ·exact nw _ (by decide +kernel) (by decide +kernel) (by decide +kernel)
  ·exact .inr ⟨.inl rfl,_,λS=>rfl,by decide +kernel,by decide +kernel,by decide +kernel,by decide +kernel⟩
  ·exact .inr ⟨.inr (.inr (.inl ⟨_,rfl⟩)),_,λS=>rfl,by decide +kernel,by decide +kernel,by decide +kernel,by decide +kernel⟩
  ·exact .inr ⟨.inr (.inr (.inr (.inl ⟨_,rfl⟩))),_,λS=>rfl,by decide +kernel,by decide +kernel,by decide +kernel,by decide +kernel⟩
 have hlen:(([T2.T.str (Str.ofString ""),T2.T.str (Str.ofString " "),T2.T.str (Str.ofString "A"),T2.T.str (Str.ofString "a  b"),T2.T.str (Str.ofString "a "),T2.T.str (Str.ofString "a1"),T2.T.str (Str.ofString "abcdefghijklm"),T2.T.str (Str.ofString "a b c d e"),T2.T.str (Str.ofString "abcdefgh abcdefgh abcdefgh")]++[T2.T.non,T2.T.int 7,T2.T.lst [T2.T.str (Str.ofString "a")]])).length=12:=rfl
 generalize ([T2.T.str (Str.ofString ""),T2.T.str (Str.ofString " "),T2.T.str (Str.ofString "A"),T2.T.str (Str.ofString "a  b"),T2.T.str (Str.ofString "a "),T2.T.str (Str.ofString "a1"),T2.T.str (Str.ofString "abcdefghijklm"),T2.T.str (Str.ofString "a b c d e"),T2.T.str (Str.ofString "abcdefgh abcdefgh abcdefgh")]++[T2.T.non,T2.T.int 7,T2.T.lst [T2.T.str (Str.ofString "a")]])=us at hI hlen ⊢
 bv_omega
 refine eO (Itm (ws++[Str.ofString "qq"])) hr0 (by rw [hlen];omega) hI λt1 ht1=>?_
 bv_omega
 refine eO (Itm (ws++[Str.ofString "qq"])) hr0 (by rw [hlen];omega) hI λt2 ht2=>?_
 bv_omega
 refine mH rfl rfl (by rw [List.length_map,sizeLine_eq];simp only [List.length_cons,List.length_nil];omega) ?_
 have hA7:At (put S' fe o') ((fe,o')::(wd4 Z.P A n ms++wd4 Z.W B n ms)):=hA.put 0 rfl
 generalize put S' fe o'=S6 at hA7 ⊢
 have hA8:=hA7.pick (l':=[(A.p,.ins Z.P [("marks",.ref A.d),("now",.int n)]),(A.d,.dK (kt mkT ms)),(B.p,.ins Z.W [("marks",.ref B.d),("now",.int n)]),(B.d,.dK (kt mkT ms))]) [1,2,5,6] (by decide) rfl
 clear hA hA7 hfe hFd hFk hfd
 have hits:∀ t∈ws.map T2.T.str++[T2.T.str (Str.ofString "qq"),t1,t2],Itm (ws++[Str.ofString "qq"]) t:=λt ht=>by
  simp only [List.mem_append,List.mem_map,List.mem_cons,List.not_mem_nil,or_false] at ht
  rcases ht with ⟨z,hz,rfl⟩|rfl|rfl|rfl
  ·have:=Wm.eF (hwd z hz)
   exact .inl ⟨z,rfl,by omega,Wm.nj (hwd z hz),λ_=>List.mem_append_left _ hz⟩
  ·exact .inl ⟨_,rfl,by decide +kernel,by decide +kernel,λ_=>List.mem_append_right _ (List.mem_singleton.mpr rfl)⟩
  ·exact ht1
  ·exact ht2
 have hwd2:∀ x∈ws++[Str.ofString "qq"],Wm.Wd x=true:=λx hx=>by
  rcases List.mem_append.mp hx with h|h
  ·exact hwd x h
  ·rw [List.mem_singleton.mp h];decide +kernel
 have hil:(ws.map T2.T.str++[T2.T.str (Str.ofString "qq"),t1,t2]).length<=10:=by rw [List.length_append,List.length_map];simp only [List.length_cons,List.length_nil];omega
 generalize ws.map T2.T.str++[T2.T.str (Str.ofString "qq"),t1,t2]=its at hits hil ⊢
 generalize ws++[Str.ofString "qq"]=w2 at hits hwd2 hW2
 bv_omega
 refine qy (λitems σ' S'=>∃ u9 u10 u11 ms k,σ'=[some (.scr ns),some (.ref fe),some (.lst (ws.map T2.T.str)),some (.ref A.p),some (.ref B.p),some (.lst [.ref A.q,.ref B.q]),u6,u7,some (.lst us),u9,u10,u11]/\At S' [(A.p,.ins Z.P [("marks",.ref A.d),("now",.int n)]),(A.d,.dK (kt mkT ms)),(B.p,.ins Z.W [("marks",.ref B.d),("now",.int n)]),(B.d,.dK (kt mkT ms))]/\Wk w2 k n ms/\k+4 * items.length<=60/\∀ t∈items,Itm w2 t) ⟨_,_,_,ms,_,rfl,hA8,hW2,by show _+4 * its.length<=60;omega,hits⟩ ?_ ?_
 ·clear hA8 hW2 hits hil
  rintro t rest σ' S' N ⟨u9,u10,u11,ms,k,rfl,hA,hW,hk,hits⟩ hN
  rw [List.length_cons] at hk
  have ht:=hits t List.mem_cons_self
  refine ⟨trivial,?_⟩
  refine T2.vd (by and_intros;rfl) ?_
  dsimp only
  refine vc (λσ2 S2=>∃ vs:List Int,σ2=[some (.scr ns),some (.ref fe),some (.lst (ws.map T2.T.str)),some (.ref A.p),some (.ref B.p),some (.lst [.ref A.q,.ref B.q]),u6,u7,some (.lst us),some t,some (.lst (vs.map T2.T.int)),u11]/\S'=S2/\(∀ w∈vs,0<=w/\w<=3/\Tg w t)/\vs.length<=4) (λX hX=>?_) ?_
  ·bv_omega
   rcases ht with ⟨z,rfl,z1,z2,z3⟩|⟨hn,hd⟩
   ·refine j9 rfl T.ss ?_
    bv_omega
    exact hX _ _ ⟨[0,1,2,3],rfl,rfl,λw hw=>by
     simp only [List.mem_cons,List.not_mem_nil,or_false] at hw
     exact ⟨by omega,by omega,.inl ⟨z,rfl,z1,z2⟩⟩,by decide⟩
   ·obtain ⟨v',hv1,hv2⟩:=qN (S:=S') T hn
    refine j9 hv1 hv2 ?_
    bv_omega
    exact hX _ _ ⟨[0],rfl,rfl,λw hw=>by
     rw [List.mem_singleton.mp hw]
     exact ⟨by decide,by decide,.inr ⟨rfl,.inr ⟨hn,hd⟩⟩⟩,by decide⟩
  rintro σ2 S2 ⟨vs,rfl,rfl,hvs,hvl⟩
  have hz:∀ z,t=.str z->Wm.Wd z=true->z∈w2:=λz e hw=>by
   rcases ht with ⟨z',e',_,_,h⟩|⟨hn,_⟩
   ·rw [e] at e';cases e';exact h hw
   ·subst e;rcases hn with h|⟨_,h⟩|⟨_,h⟩|⟨_,h⟩|⟨_,h⟩<;>cases h
  bv_omega
  refine fP (λitems acc σ' S2=>∃ pre suf u,vs=pre++suf/\items=suf.map T2.T.int/\acc=(rfs pre t n ms).1/\acc.length=pre.length/\σ'=[u,some (.ref B.p),some t]/\S2=put S' B.d (.dK (kt mkT (rfs pre t n ms).2))/\Wk w2 (k+pre.length) n (rfs pre t n ms).2/\∀ x∈(rfs pre t n ms).1,∃ bs:List Bool,x=.tup (bs.map T2.T.bl)) ⟨[],vs,_,rfl,rfl,rfl,rfl,rfl,(gW (hA.get 3 rfl)).symm,hW,λx hx=>nomatch hx⟩ ?_ ?_
  ·rintro x items acc σ' S2 N2 ⟨pre,suf,u,hpre,hsuf,rfl,hal,rfl,rfl,hWp,hac⟩ hN2
   cases suf with
   |nil=>cases hsuf
   |cons w suf =>
    simp only [List.map_cons,List.cons.injEq] at hsuf
    obtain ⟨rfl,rfl⟩:=hsuf
    obtain ⟨w0,w3,hT⟩:=hvs w (by rw [hpre];simp)
    have hpl:pre.length<4:=by
     have:=congrArg List.length hpre
     rw [List.length_append,List.length_cons] at this
     omega
    have hml:=hWp.len
    obtain ⟨bs,hbs,_⟩:=uC (n:=n) (ms:=(rfs pre t n ms).2) hT
    refine ⟨trivial,?_⟩
    bv_omega
    refine .inr ⟨B.p,B.d,n,(rfs pre t n ms).2,w,t,rfl,⟨(ak (hA.ne 2 3 (by decide) rfl rfl)).trans (hA.get 2 rfl),au⟩,by omega,hWp.old,w0,w3,hT,?_⟩
    rw [bD]
    refine ⟨by rw [hal,sizeLine_eq];omega,hN2 _ _ _ ⟨pre++[w],suf,_,by rw [hpre,List.append_assoc];rfl,rfl,by rw [dC],by rw [List.length_append,List.length_append,hal];rfl,rfl,by rw [dC],?_,λy hy=>?_⟩⟩
    ·rw [dC,List.length_append,List.length_singleton,<- Nat.add_assoc]
     exact vK hWp w0 w3 hT hz
    ·rw [dC] at hy
     rcases List.mem_append.mp hy with hy|hy
     ·exact hac y hy
     ·exact ⟨bs,(List.mem_singleton.mp hy).trans hbs⟩
  rintro acc σ' S2 ⟨pre,suf,u,hpre,hsuf,rfl,hal,rfl,rfl,hWv,hac⟩
  obtain rfl:suf=[]:=by cases suf with|nil=>rfl|cons _ _=>cases hsuf
  rw [List.append_nil] at hpre
  subst hpre
  have hA3:At (put S' B.d (.dK (kt mkT (rfs vs t n ms).2))) [(A.p,.ins Z.P [("marks",.ref A.d),("now",.int n)]),(A.d,.dK (kt mkT ms)),(B.p,.ins Z.W [("marks",.ref B.d),("now",.int n)]),(B.d,.dK (kt mkT (rfs vs t n ms).2))]:=hA.put 3 rfl
  generalize put S' B.d (.dK (kt mkT (rfs vs t n ms).2))=S3 at hA3 ⊢
  clear hA
  refine ⟨trivial,?_⟩
  bv_omega
  refine fP (λitems acc σ' S2=>∃ pre suf u,vs=pre++suf/\items=suf.map T2.T.int/\acc=(rfs pre t n ms).1/\acc.length=pre.length/\σ'=[u,some (.ref A.p),some t]/\S2=put S3 A.d (.dK (kt mkT (rfs pre t n ms).2))/\Wk w2 (k+pre.length) n (rfs pre t n ms).2/\∀ x∈(rfs pre t n ms).1,∃ bs:List Bool,x=.tup (bs.map T2.T.bl)) ⟨[],vs,_,rfl,rfl,rfl,rfl,rfl,(gW (hA3.get 1 rfl)).symm,hW,λx hx=>nomatch hx⟩ ?_ ?_
  ·rintro x items acc σ' S2 N2 ⟨pre,suf,u,hpre,hsuf,rfl,hal,rfl,rfl,hWp,hac⟩ hN2
   cases suf with
   |nil=>cases hsuf
   |cons w suf =>
    simp only [List.map_cons,List.cons.injEq] at hsuf
    obtain ⟨rfl,rfl⟩:=hsuf
    obtain ⟨w0,w3,hT⟩:=hvs w (by rw [hpre];simp)
    have hpl:pre.length<4:=by
     have:=congrArg List.length hpre
     rw [List.length_append,List.length_cons] at this
     omega
    have hml:=hWp.len
    obtain ⟨bs,hbs,_⟩:=uC (n:=n) (ms:=(rfs pre t n ms).2) hT
    refine ⟨trivial,?_⟩
    bv_omega
    refine .inl ⟨A.p,A.d,n,(rfs pre t n ms).2,w,t,rfl,⟨(ak (hA3.ne 0 1 (by decide) rfl rfl)).trans (hA3.get 0 rfl),au⟩,by omega,hWp.old,w0,w3,hT,?_⟩
    rw [bD]
    refine ⟨by rw [hal,sizeLine_eq];omega,hN2 _ _ _ ⟨pre++[w],suf,_,by rw [hpre,List.append_assoc];rfl,rfl,by rw [dC],by rw [List.length_append,List.length_append,hal];rfl,rfl,by rw [dC],?_,λy hy=>?_⟩⟩
    ·rw [dC,List.length_append,List.length_singleton,<- Nat.add_assoc]
     exact vK hWp w0 w3 hT hz
    ·rw [dC] at hy
     rcases List.mem_append.mp hy with hy|hy
     ·exact hac y hy
     ·exact ⟨bs,(List.mem_singleton.mp hy).trans hbs⟩
  rintro acc σ' S2 ⟨pre,suf,u,hpre,hsuf,rfl,hal2,rfl,rfl,hWv2,hac2⟩
  obtain rfl:suf=[]:=by cases suf with|nil=>rfl|cons _ _=>cases hsuf
  rw [List.append_nil] at hpre
  subst hpre
  have hA4:At (put S3 A.d (.dK (kt mkT (rfs vs t n ms).2))) [(A.p,.ins Z.P [("marks",.ref A.d),("now",.int n)]),(A.d,.dK (kt mkT (rfs vs t n ms).2)),(B.p,.ins Z.W [("marks",.ref B.d),("now",.int n)]),(B.d,.dK (kt mkT (rfs vs t n ms).2))]:=hA3.put 1 rfl
  generalize put S3 A.d (.dK (kt mkT (rfs vs t n ms).2))=S5 at hA4 ⊢
  obtain ⟨D,g1,g2,g3,g4⟩:=qU hac
  refine ⟨trivial,?_⟩
  bv_omega
  refine ⟨.list D,.list D,by simp only [a7,bq,g1,Option.map_some],by simp only [a7,bq,g1,Option.map_some],by simp only [PyData.canLay0];exact g2,by simp only [PyData.canLay0];exact g2,by simp only [PyData.depth];omega,?_⟩
  rw [show (true ^^ PyData.eqv (.list D) (.list D))=false by simp only [PyData.eqv,g4];rfl]
  bv_omega
  exact hN _ _ ⟨_,_,_,(rfs vs t n ms).2,k+vs.length,rfl,hA4,hWv,by omega,λy hy=>hits y (List.mem_cons_of_mem _ hy)⟩
 rintro σ' S7 ⟨u9,u10,u11,ms,k,rfl,hA,hW,hk,_⟩
 refine ⟨trivial,?_⟩
 have hM:=hW.mk2 (by omega) hwd2
 have vi:S7 A.p=some (.ins Z.P [("marks",.ref A.d),("now",.int n)]):=hA.get 0 rfl
 have vi2:S7 B.p=some (.ins Z.W [("marks",.ref B.d),("now",.int n)]):=hA.get 2 rfl
 bv_omega
 refine ⟨A.p,A.d,n,ms,rfl,⟨vi,hA.get 1 rfl⟩,hM.len,hM.old,hM.nd,hM.wd,λl hlp hlr=>?_⟩
 have hsh:=uI hM hlp
 bv_omega
 refine ⟨_,_,rfl,eS (l:=l),hsh.sh,hsh.nd,hsh.dp,hsh.sz,?_⟩
 bv_omega
 refine ⟨B.p,B.d,n,ms,rfl,⟨vi2,hA.get 3 rfl⟩,hM.len,hM.old,hM.nd,hM.wd,λl2 hlp2 hlr2=>?_⟩
 obtain rfl:=sK hM hlp hlp2 hlr hlr2
 bv_omega
 refine ⟨_,_,rfl,eS (l:=l2),hsh.sh,hsh.nd,hsh.dp,hsh.sz,?_⟩
 bv_omega
 rw [decide_eq_true rfl,Bool.false_xor]
 exact .mk (hq _)
theorem yI {K:PySem.W.Frag}{H:Hp}{a:Addr}{ns:List Int}{E:XK}(h:ns.length<=63) (hO:kB H) (hS:SqL K H a (ns.map V.int)):lSp K iK [.ref a] H (λv _=>v=.bl true) E:=by
 refine ⟨λ_=>none,[.scr ns],λt _=>t=.bl true,?_,.cons (.scr ?_) .nil,⟨ns,rfl,h,λ_=>rfl⟩,?_⟩
 ·intro b o e;cases e
 rotate_left
 ·intro v H' t S' _ _ r e
  subst e;cases r;rfl
 rcases hS with (e|⟨o,e⟩)|e
 ·rcases hO a with z|⟨ob,xs,z⟩
  ·rw [e] at z;cases z
  ·rw [e] at z;cases z
 ·exact .inl ⟨rfl,o,e⟩
 ·exact .inr (.inr e)
end
end My
set_option maxRecDepth 100000
namespace My
open PySem L2 T2
theorem HH {α:Type}(us:List α) (h:us.length=0):us=[]:=List.length_eq_zero_iff.mp h
theorem cy {α:Type}(us:List α) (h:us.length=1):∃ a0,us=[a0]:=by
 cases us with
 |nil=>cases h
 |cons a l=>cases HH l (Nat.succ.inj h);exact ⟨a,rfl⟩
theorem bf {α:Type}(us:List α) (h:us.length=2):∃ a0 a1,us=[a0,a1]:=by
 cases us with
 |nil=>cases h
 |cons a l=>obtain ⟨a1,rfl⟩:=cy l (Nat.succ.inj h);exact ⟨a,a1,rfl⟩
theorem cO {α:Type}(us:List α) (h:us.length=3):∃ a0 a1 a2,us=[a0,a1,a2]:=by
 cases us with
 |nil=>cases h
 |cons a l=>obtain ⟨a1,a2,rfl⟩:=bf l (Nat.succ.inj h);exact ⟨a,a1,a2,rfl⟩
theorem wS {α:Type}(us:List α) (h:us.length=4):∃ a0 a1 a2 a3,us=[a0,a1,a2,a3]:=by
 cases us with
 |nil=>cases h
 |cons a l=>obtain ⟨a1,a2,a3,rfl⟩:=cO l (Nat.succ.inj h);exact ⟨a,a1,a2,a3,rfl⟩
theorem Ep {l:PySem.W.OpenLaw}{w:World}{K:PySem.W.Frag}{h:Heap}{mg:Str->Option Value}{fa:Addr}(X:K.In h) (G:h.Ns mainGlobals mg) (hfa:mg "law"=some (.ref fa)) (hF:Fx K) :
  ∃ fd:FuncData,(∀ (s:Shared) (v:Value),BindsTo s fd ⟨[v],[]⟩ [("_law_script",v)])/\∀ base:Heap,K.In base->base.Ns mainGlobals mg->FnOk l.prog w K mg base CX0 32 fa fd ["_law_script"] (lSp K iK):=by
 refine hF _ ?_
 intro fr fa fb f1 f2 f3 f4 f5 fga flg fbb ffe fd fp fft fw fws fbg fct fhv fwd frf fal fli fcr flw fwi fwm fwq fwu fwz fwf fwe fwh fwx fwb fwv fwt fwo fwc C_Wood C_NoWord C_Twice C_Absent C_AheadError C_Beside C_NoChoice C_NoRow C_NoSign C_NoText C_PartWood odr anr oda ana odb anb od1 an1 od2 an2 od3 an3 od4 an4 od5 an5 odga anga odlg anlg odbb anbb odfe anfe odd and odp anp odft anft odw anw odws anws odbg anbg odct anct odhv anhv odwd anwd odrf anrf odal anal odli anli odcr ancr odlw anlw odwi anwi odwm anwm odwq anwq odwu anwu odwz anwz odwf anwf odwe anwe odwh anwh odwx anwx odwb anwb odwv anwv odwt anwt odwo anwo odwc anwc oddwu oddwf slr sla slb sl1 sl2 sl3 sl4 sl5 slga sllg slbb slfe sld slp slft slw slws slbg slct slhv slwd slrf slal slli slcr sllw slwi slwm slwq slwu slwz slwf slwe slwh slwx slwb slwv slwt slwo slwc sldwu sldwf ocr kVr dcr pmr cdr ctr oca kVa dca pma cda cta ocb kVb dcb pmb cdb ctb oc1 kV1 dc1 pm1 cd1 ct1 oc2 kV2 dc2 pm2 cd2 ct2 oc3 kV3 dc3 pm3 cd3 ct3 oc4 kV4 dc4 pm4 cd4 ct4 oc5 kV5 dc5 pm5 cd5 ct5 ocga kVga dcga pmga cdga ctga oclg kVlg dclg pmlg cdlg ctlg ocbb kVbb dcbb pmbb cdbb ctbb ocfe kVfe dcfe pmfe cdfe ctfe ocd kVd dcd pmd cdd ctd ocp kVp dcp pmp cdp ctp ocft kVft dcft pmft cdft ctft ocw kVw dcw pmw cdw ctw ocws kVws dcws pmws cdws ctws ocbg kVbg dcbg pmbg cdbg ctbg occt kVct dcct pmct cdct ctct ochv kVhv dchv pmhv cdhv cthv ocwd kVwd dcwd pmwd cdwd ctwd ocrf kVrf dcrf pmrf cdrf ctrf ocal kVal dcal pmal cdal ctal ocli kVli dcli pmli cdli ctli occr kVcr dccr pmcr cdcr ctcr oclw kVlw dclw pmlw cdlw ctlw ocwi kVwi dcwi pmwi cdwi ctwi ocwm kVwm dcwm pmwm cdwm ctwm ocwq kVwq dcwq pmwq cdwq ctwq ocwu kVwu dcwu pmwu cdwu ctwu ocwz kVwz dcwz pmwz cdwz ctwz ocwf kVwf dcwf pmwf cdwf ctwf ocwe kVwe dcwe pmwe cdwe ctwe ocwh kVwh dcwh pmwh cdwh ctwh ocwx kVwx dcwx pmwx cdwx ctwx ocwb kVwb dcwb pmwb cdwb ctwb ocwv kVwv dcwv pmwv cdwv ctwv ocwt kVwt dcwt pmwt cdwt ctwt ocwo kVwo dcwo pmwo cdwo ctwo ocwc kVwc dcwc pmwc cdwc ctwc ocdwu ocdwf tk_MOST_SIGNS tk_MOST_PARTS tk_MOST_LETTERS dTwu tkdwu ndwu dTwf tkdwf ndwf aC_Wood awi iwi lwi cwi kwi awm iwm lwm cwm kwm awq iwq lwq cwq kwq awu iwu lwu cwu kwu ldwu awz iwz lwz cwz kwz awf iwf lwf cwf kwf ldwf awe iwe lwe cwe kwe awh iwh lwh cwh kwh awx iwx lwx cwx kwx awb iwb lwb cwb kwb awv iwv lwv cwv kwv awt iwt lwt cwt kwt awo iwo lwo cwo kwo awc iwc lwc cwc kwc pg_Wood hd_Wood po_Wood sa_Wood mk_Wood kc_Wood n_Wood_marks n_Wood_now aC_PartWood aswi aswm aswq aswu aswz aswf aswe aswh aswx aswb aswv aswt aswo aswc pg_PartWood hd_PartWood po_PartWood sa_PartWood mk_PartWood kc_PartWood n_PartWood_marks n_PartWood_now aC_NoWord aC_Twice aC_Absent aC_AheadError aC_Beside aC_NoChoice aC_NoRow aC_NoSign aC_NoText ar lr cr kr aa la ca ka ab lb cb kb a1 l1 c1 k1 a2 l2 c2 k2 a3 l3 c3 k3 a4 l4 c4 k4 a5 l5 c5 k5 aga lga cga kga alg llg clg klg abb lbb cbb kbb afe lfe cfe kfe ad ld cd kd ap lp cp kp aft lft cft kft aw lw cw kw aws lws cws kws abg lbg cbg kbg act lct cct kct ahv lhv chv khv
 intro awd lwd cwd kwd arf lrf crf krf aal lal cal kal ali lli cli kli acr lcr ccr kcr alw llw clw klw z_len z_range z_all z_max z_min z_sorted z_isinstance z_str z_list z_repr z_int z_bool t_ss t_bb t_ns t_bs t_is t_ls t_ts q_MOST_SIGNS q_MOST_PARTS q_MOST_LETTERS oxNoWord okNoWord ocNoWord oeNoWord oxTwice okTwice ocTwice oeTwice oxAbsent okAbsent ocAbsent oeAbsent otNN otNT otNA otTN otTT otTA otAN otAT otAA oaN oaT oaA oKit oFi oSp oTk oMr
 have e:=hfa.symm.trans (PySem.W.mg_of X G alw)
 cases e
 have T:Txt K mg C_PartWood ⟨C_NoWord,C_Twice,C_Absent,C_AheadError,C_Beside,C_NoChoice,C_NoRow,C_NoSign,C_NoText,C_Wood,C_PartWood⟩:=⟨PySem.W.mg_none_of X G z_len,PySem.W.mg_none_of X G z_range,PySem.W.mg_none_of X G z_all,PySem.W.mg_none_of X G z_max,PySem.W.mg_none_of X G z_min,PySem.W.mg_none_of X G z_sorted,PySem.W.mg_none_of X G z_isinstance,PySem.W.mg_none_of X G z_str,PySem.W.mg_none_of X G z_list,PySem.W.mg_none_of X G z_repr,PySem.W.mg_none_of X G z_int,PySem.W.mg_none_of X G z_bool,t_ss,t_bb,t_ns,t_bs,t_is,t_ls,t_ts,⟨_,PySem.W.mg_of X G q_MOST_SIGNS⟩,⟨_,PySem.W.mg_of X G q_MOST_PARTS⟩,⟨_,PySem.W.mg_of X G q_MOST_LETTERS⟩,PySem.W.mg_of X G aC_NoWord,PySem.W.mg_of X G aC_Twice,PySem.W.mg_of X G aC_Absent,PySem.W.mg_of X G aC_AheadError,PySem.W.mg_of X G aC_Beside,PySem.W.mg_of X G aC_NoChoice,PySem.W.mg_of X G aC_NoRow,PySem.W.mg_of X G aC_NoSign,PySem.W.mg_of X G aC_NoText,oxNoWord,okNoWord,ocNoWord,oeNoWord,oxTwice,okTwice,ocTwice,oeTwice,oxAbsent,okAbsent,ocAbsent,oeAbsent,otNN,otNT,otNA,otTN,otTT,otTA,otAN,otAT,otAA,oaN,oaT,oaA,PySem.W.mg_of X G aC_Wood,PySem.W.mg_of X G aC_PartWood,⟨pg_PartWood,hd_PartWood,po_PartWood,sa_PartWood⟩,n_PartWood_marks,n_PartWood_now⟩
 have U:Txt K mg C_Wood ⟨C_NoWord,C_Twice,C_Absent,C_AheadError,C_Beside,C_NoChoice,C_NoRow,C_NoSign,C_NoText,C_Wood,C_PartWood⟩:=⟨PySem.W.mg_none_of X G z_len,PySem.W.mg_none_of X G z_range,PySem.W.mg_none_of X G z_all,PySem.W.mg_none_of X G z_max,PySem.W.mg_none_of X G z_min,PySem.W.mg_none_of X G z_sorted,PySem.W.mg_none_of X G z_isinstance,PySem.W.mg_none_of X G z_str,PySem.W.mg_none_of X G z_list,PySem.W.mg_none_of X G z_repr,PySem.W.mg_none_of X G z_int,PySem.W.mg_none_of X G z_bool,t_ss,t_bb,t_ns,t_bs,t_is,t_ls,t_ts,⟨_,PySem.W.mg_of X G q_MOST_SIGNS⟩,⟨_,PySem.W.mg_of X G q_MOST_PARTS⟩,⟨_,PySem.W.mg_of X G q_MOST_LETTERS⟩,PySem.W.mg_of X G aC_NoWord,PySem.W.mg_of X G aC_Twice,PySem.W.mg_of X G aC_Absent,PySem.W.mg_of X G aC_AheadError,PySem.W.mg_of X G aC_Beside,PySem.W.mg_of X G aC_NoChoice,PySem.W.mg_of X G aC_NoRow,PySem.W.mg_of X G aC_NoSign,PySem.W.mg_of X G aC_NoText,oxNoWord,okNoWord,ocNoWord,oeNoWord,oxTwice,okTwice,ocTwice,oeTwice,oxAbsent,okAbsent,ocAbsent,oeAbsent,otNN,otNT,otNA,otTN,otTT,otTA,otAN,otAT,otAA,oaN,oaT,oaA,PySem.W.mg_of X G aC_Wood,PySem.W.mg_of X G aC_PartWood,⟨pg_Wood,hd_Wood,po_Wood,sa_Wood⟩,n_Wood_marks,n_Wood_now⟩
 have Fwi:FunD K "__init__" "Wood.__init__" cT fwi _:=⟨⟨_,_,_,_,_,_,_,_,_,_,rfl,lwi,cwi⟩⟩
 have Bwi:ay K (PySem.W.fnOf "__init__" "Wood.__init__" (aA cT) (av cT) (aj cT) .none kVwi dcwi pmwi anwi cdwi ctwi) ["self"] []:=.all λus hl=>by obtain ⟨a0,rfl⟩:=cy us hl;rfl
 have Mwi:Meth K C_Wood "__init__" fwi:=⟨awi,iwi,kwi⟩
 have Mk_Wood:Mk K C_Wood fwi:=⟨mk_Wood,awi,iwi,kc_Wood⟩
 have Fwm:FunD K "mark_of" "Wood.mark_of" cA fwm _:=⟨⟨_,_,_,_,_,_,_,_,_,_,rfl,lwm,cwm⟩⟩
 have Bwm:ay K (PySem.W.fnOf "mark_of" "Wood.mark_of" (aA cA) (av cA) (aj cA) .none kVwm dcwm pmwm anwm cdwm ctwm) ["self","word"] []:=.all λus hl=>by obtain ⟨a0,a1,rfl⟩:=bf us hl;rfl
 have Mwm:Meth K C_Wood "mark_of" fwm:=⟨awm,iwm,kwm⟩
 have Fwq:FunD K "put" "Wood.put" cD fwq _:=⟨⟨_,_,_,_,_,_,_,_,_,_,rfl,lwq,cwq⟩⟩
 have Bwq:ay K (PySem.W.fnOf "put" "Wood.put" (aA cD) (av cD) (aj cD) .none kVwq dcwq pmwq anwq cdwq ctwq) ["self","word","count"] []:=.all λus hl=>by obtain ⟨a0,a1,a2,rfl⟩:=cO us hl;rfl
 have Mwq:Meth K C_Wood "put" fwq:=⟨awq,iwq,kwq⟩
 have Fwu:FunD K "use" "Wood.use" bU fwu _:=⟨⟨_,_,_,_,_,_,_,_,_,_,rfl,lwu,cwu⟩⟩
 have Bwu:ay K (PySem.W.fnOf "use" "Wood.use" (aA bU) (av bU) (aj bU) (.ref dTwu) kVwu dcwu pmwu anwu cdwu ctwu) ["self","word","times"] []:=λs us X hl=>by rw [List.append_nil] at hl;obtain ⟨a0,a1,a2,rfl⟩:=cO us hl;exact BindsTo.of_defaults rfl (X _ _ ldwu) rfl rfl rfl
 have B0wu:ay K (PySem.W.fnOf "use" "Wood.use" (aA bU) (av bU) (aj bU) (.ref dTwu) kVwu dcwu pmwu anwu cdwu ctwu) ["self","word","times"] [.int 1 tkdwu]:=λs us X hl=>by have hl1:us.length=2:=(by simpa using hl);obtain ⟨a0,a1,rfl⟩:=bf us hl1;exact BindsTo.of_defaults rfl (X _ _ ldwu) rfl rfl rfl
 have Mwu:Meth K C_Wood "use" fwu:=⟨awu,iwu,kwu⟩
 have Fwz:FunD K "strike" "Wood.strike" cB fwz _:=⟨⟨_,_,_,_,_,_,_,_,_,_,rfl,lwz,cwz⟩⟩
 have Bwz:ay K (PySem.W.fnOf "strike" "Wood.strike" (aA cB) (av cB) (aj cB) .none kVwz dcwz pmwz anwz cdwz ctwz) ["self","word"] []:=.all λus hl=>by obtain ⟨a0,a1,rfl⟩:=bf us hl;rfl
 have Mwz:Meth K C_Wood "strike" fwz:=⟨awz,iwz,kwz⟩
 have Fwf:FunD K "fade" "Wood.fade" cU fwf _:=⟨⟨_,_,_,_,_,_,_,_,_,_,rfl,lwf,cwf⟩⟩
 have Bwf:ay K (PySem.W.fnOf "fade" "Wood.fade" (aA cU) (av cU) (aj cU) (.ref dTwf) kVwf dcwf pmwf anwf cdwf ctwf) ["self","times"] []:=λs us X hl=>by rw [List.append_nil] at hl;obtain ⟨a0,a1,rfl⟩:=bf us hl;exact BindsTo.of_defaults rfl (X _ _ ldwf) rfl rfl rfl
 have Mwf:Meth K C_Wood "fade" fwf:=⟨awf,iwf,kwf⟩
 have Fwe:FunD K "era" "Wood.era" cW fwe _:=⟨⟨_,_,_,_,_,_,_,_,_,_,rfl,lwe,cwe⟩⟩
 have Bwe:ay K (PySem.W.fnOf "era" "Wood.era" (aA cW) (av cW) (aj cW) .none kVwe dcwe pmwe anwe cdwe ctwe) ["self"] []:=.all λus hl=>by obtain ⟨a0,rfl⟩:=cy us hl;rfl
 have Mwe:Meth K C_Wood "era" fwe:=⟨awe,iwe,kwe⟩
 have Fwh:FunD K "has" "Wood.has" cX fwh _:=⟨⟨_,_,_,_,_,_,_,_,_,_,rfl,lwh,cwh⟩⟩
 have Bwh:ay K (PySem.W.fnOf "has" "Wood.has" (aA cX) (av cX) (aj cX) .none kVwh dcwh pmwh anwh cdwh ctwh) ["self","word"] []:=.all λus hl=>by obtain ⟨a0,a1,rfl⟩:=bf us hl;rfl
 have Mwh:Meth K C_Wood "has" fwh:=⟨awh,iwh,kwh⟩
 have Fwx:FunD K "worth_of" "Wood.worth_of" cz fwx _:=⟨⟨_,_,_,_,_,_,_,_,_,_,rfl,lwx,cwx⟩⟩
 have Bwx:ay K (PySem.W.fnOf "worth_of" "Wood.worth_of" (aA cz) (av cz) (aj cz) .none kVwx dcwx pmwx anwx cdwx ctwx) ["self","word"] []:=.all λus hl=>by obtain ⟨a0,a1,rfl⟩:=bf us hl;rfl
 have Mwx:Meth K C_Wood "worth_of" fwx:=⟨awx,iwx,kwx⟩
 have Fwb:FunD K "begun" "Wood.begun" cR fwb _:=⟨⟨_,_,_,_,_,_,_,_,_,_,rfl,lwb,cwb⟩⟩
 have Bwb:ay K (PySem.W.fnOf "begun" "Wood.begun" (aA cR) (av cR) (aj cR) .none kVwb dcwb pmwb anwb cdwb ctwb) ["self","beginning"] []:=.all λus hl=>by obtain ⟨a0,a1,rfl⟩:=bf us hl;rfl
 have Mwb:Meth K C_Wood "begun" fwb:=⟨awb,iwb,kwb⟩
 have Fwv:FunD K "words" "Wood.words" cS fwv _:=⟨⟨_,_,_,_,_,_,_,_,_,_,rfl,lwv,cwv⟩⟩
 have Bwv:ay K (PySem.W.fnOf "words" "Wood.words" (aA cS) (av cS) (aj cS) .none kVwv dcwv pmwv anwv cdwv ctwv) ["self"] []:=.all λus hl=>by obtain ⟨a0,rfl⟩:=cy us hl;rfl
 have Mwv:Meth K C_Wood "words" fwv:=⟨awv,iwv,kwv⟩
 have Fwt:FunD K "top_of" "Wood.top_of" cQ fwt _:=⟨⟨_,_,_,_,_,_,_,_,_,_,rfl,lwt,cwt⟩⟩
 have Bwt:ay K (PySem.W.fnOf "top_of" "Wood.top_of" (aA cQ) (av cQ) (aj cQ) .none kVwt dcwt pmwt anwt cdwt ctwt) ["self","beginning"] []:=.all λus hl=>by obtain ⟨a0,a1,rfl⟩:=bf us hl;rfl
 have Mwt:Meth K C_Wood "top_of" fwt:=⟨awt,iwt,kwt⟩
 have Fwo:FunD K "told" "Wood.told" cV fwo _:=⟨⟨_,_,_,_,_,_,_,_,_,_,rfl,lwo,cwo⟩⟩
 have Bwo:ay K (PySem.W.fnOf "told" "Wood.told" (aA cV) (av cV) (aj cV) .none kVwo dcwo pmwo anwo cdwo ctwo) ["self","beginning","many"] []:=.all λus hl=>by obtain ⟨a0,a1,a2,rfl⟩:=cO us hl;rfl
 have Mwo:Meth K C_Wood "told" fwo:=⟨awo,iwo,kwo⟩
 have Fwc:FunD K "cut_off" "Wood.cut_off" cP fwc _:=⟨⟨_,_,_,_,_,_,_,_,_,_,rfl,lwc,cwc⟩⟩
 have Bwc:ay K (PySem.W.fnOf "cut_off" "Wood.cut_off" (aA cP) (av cP) (aj cP) .none kVwc dcwc pmwc anwc cdwc ctwc) ["self","beginning","many"] []:=.all λus hl=>by obtain ⟨a0,a1,a2,rfl⟩:=cO us hl;rfl
 have Mwc:Meth K C_Wood "cut_off" fwc:=⟨awc,iwc,kwc⟩
 have Mswi:Meth K C_PartWood "__init__" fwi:=⟨aswi,iwi,kwi⟩
 have Mk_PartWood:Mk K C_PartWood fwi:=⟨mk_PartWood,aswi,iwi,kc_PartWood⟩
 have Mswm:Meth K C_PartWood "mark_of" fwm:=⟨aswm,iwm,kwm⟩
 have Mswq:Meth K C_PartWood "put" fwq:=⟨aswq,iwq,kwq⟩
 have Mswu:Meth K C_PartWood "use" fwu:=⟨aswu,iwu,kwu⟩
 have Mswz:Meth K C_PartWood "strike" fwz:=⟨aswz,iwz,kwz⟩
 have Mswf:Meth K C_PartWood "fade" fwf:=⟨aswf,iwf,kwf⟩
 have Mswe:Meth K C_PartWood "era" fwe:=⟨aswe,iwe,kwe⟩
 have Mswh:Meth K C_PartWood "has" fwh:=⟨aswh,iwh,kwh⟩
 have Mswx:Meth K C_PartWood "worth_of" fwx:=⟨aswx,iwx,kwx⟩
 have Mswb:Meth K C_PartWood "begun" fwb:=⟨aswb,iwb,kwb⟩
 have Mswv:Meth K C_PartWood "words" fwv:=⟨aswv,iwv,kwv⟩
 have Mswt:Meth K C_PartWood "top_of" fwt:=⟨aswt,iwt,kwt⟩
 have Mswo:Meth K C_PartWood "told" fwo:=⟨aswo,iwo,kwo⟩
 have Mswc:Meth K C_PartWood "cut_off" fwc:=⟨aswc,iwc,kwc⟩
 have Fr:=aV (st:=fD) lr cr kr
 have Dr:Df K mg "rank_key" fr _ ["pair"]:=⟨PySem.W.mg_of X G ar,kr,Fr.binds (ps:=["pair"]) λ_ _ _ _ _ _ us hl=>by obtain ⟨a0,rfl⟩:=cy us hl;rfl⟩
 have Fa:=aV (st:=fF) la ca ka
 have Da:Df K mg "ahead_of" fa _ ["one","other"]:=⟨PySem.W.mg_of X G aa,ka,Fa.binds (ps:=["one","other"]) λ_ _ _ _ _ _ us hl=>by obtain ⟨a0,a1,rfl⟩:=bf us hl;rfl⟩
 have Fb:=aV (st:=fM) lb cb kb
 have Db:Df K mg "best_of" fb _ ["rated","many"]:=⟨PySem.W.mg_of X G ab,kb,Fb.binds (ps:=["rated","many"]) λ_ _ _ _ _ _ us hl=>by obtain ⟨a0,a1,rfl⟩:=bf us hl;rfl⟩
 have F1:=aV (st:=fh) l1 c1 k1
 have D1:Df K mg "is_letter" f1 _ ["sign"]:=⟨PySem.W.mg_of X G a1,k1,F1.binds (ps:=["sign"]) λ_ _ _ _ _ _ us hl=>by obtain ⟨a0,rfl⟩:=cy us hl;rfl⟩
 have F2:=aV (st:=fN) l2 c2 k2
 have D2:Df K mg "is_part" f2 _ ["text"]:=⟨PySem.W.mg_of X G a2,k2,F2.binds (ps:=["text"]) λ_ _ _ _ _ _ us hl=>by obtain ⟨a0,rfl⟩:=cy us hl;rfl⟩
 have F3:=aV (st:=fO) l3 c3 k3
 have D3:Df K mg "is_word" f3 _ ["thing"]:=⟨PySem.W.mg_of X G a3,k3,F3.binds (ps:=["thing"]) λ_ _ _ _ _ _ us hl=>by obtain ⟨a0,rfl⟩:=cy us hl;rfl⟩
 have F4:=aV (st:=fG) l4 c4 k4
 have D4:Df K mg "worth_at" f4 _ ["mark","era"]:=⟨PySem.W.mg_of X G a4,k4,F4.binds (ps:=["mark","era"]) λ_ _ _ _ _ _ us hl=>by obtain ⟨a0,a1,rfl⟩:=bf us hl;rfl⟩
 have F5:=aV (st:=fj) l5 c5 k5
 have D5:Df K mg "used_mark" f5 _ ["mark","era","times"]:=⟨PySem.W.mg_of X G a5,k5,F5.binds (ps:=["mark","era","times"]) λ_ _ _ _ _ _ us hl=>by obtain ⟨a0,a1,a2,rfl⟩:=cO us hl;rfl⟩
 have Fga:=aV (st:=eZ) lga cga kga
 have Dga:Df K mg "greatest_at" fga _ ["marks","era"]:=⟨PySem.W.mg_of X G aga,kga,Fga.binds (ps:=["marks","era"]) λ_ _ _ _ _ _ us hl=>by obtain ⟨a0,a1,rfl⟩:=bf us hl;rfl⟩
 have Flg:=aV (st:=eV) llg clg klg
 have Dlg:Df K mg "longer_groups" flg _ ["text","rated"]:=⟨PySem.W.mg_of X G alg,klg,Flg.binds (ps:=["text","rated"]) λ_ _ _ _ _ _ us hl=>by obtain ⟨a0,a1,rfl⟩:=bf us hl;rfl⟩
 have Fbb:=aV (st:=dZ) lbb cbb kbb
 have Dbb:Df K mg "branches_behind" fbb _ ["last","text","rated"]:=⟨PySem.W.mg_of X G abb,kbb,Fbb.binds (ps:=["last","text","rated"]) λ_ _ _ _ _ _ us hl=>by obtain ⟨a0,a1,a2,rfl⟩:=cO us hl;rfl⟩
 have Ffe:=aV (st:=fH) lfe cfe kfe
 have Dfe:Df K mg "_law_feed" ffe _ ["_law_script"]:=⟨PySem.W.mg_of X G afe,kfe,Ffe.binds (ps:=["_law_script"]) λ_ _ _ _ _ _ us hl=>by obtain ⟨a0,rfl⟩:=cy us hl;rfl⟩
 have Fd:=aV (st:=fI) ld cd kd
 have Dd:Df K mg "_law_draw" fd _ ["_law_feed_here","_law_many"]:=⟨PySem.W.mg_of X G ad,kd,Fd.binds (ps:=["_law_feed_here","_law_many"]) λ_ _ _ _ _ _ us hl=>by obtain ⟨a0,a1,rfl⟩:=bf us hl;rfl⟩
 have Fp:=aV (st:=fJ) lp cp kp
 have Dp:Df K mg "_law_part" fp _ ["_law_feed_here","_law_letters"]:=⟨PySem.W.mg_of X G ap,kp,Fp.binds (ps:=["_law_feed_here","_law_letters"]) λ_ _ _ _ _ _ us hl=>by obtain ⟨a0,a1,rfl⟩:=bf us hl;rfl⟩
 have Fft:=aV (st:=e9) lft cft kft
 have Dft:Df K mg "_law_is_fit" fft _ ["_law_text"]:=⟨PySem.W.mg_of X G aft,kft,Fft.binds (ps:=["_law_text"]) λ_ _ _ _ _ _ us hl=>by obtain ⟨a0,rfl⟩:=cy us hl;rfl⟩
 have Fw:=aV (st:=fL) lw cw kw
 have Dw:Df K mg "_law_word" fw _ ["_law_feed_here","_law_words_here","_law_letters"]:=⟨PySem.W.mg_of X G aw,kw,Fw.binds (ps:=["_law_feed_here","_law_words_here","_law_letters"]) λ_ _ _ _ _ _ us hl=>by obtain ⟨a0,a1,a2,rfl⟩:=cO us hl;rfl⟩
 have Fws:=aV (st:=fk) lws cws kws
 have Dws:Df K mg "_law_words" fws _ ["_law_feed_here","_law_many"]:=⟨PySem.W.mg_of X G aws,kws,Fws.binds (ps:=["_law_feed_here","_law_many"]) λ_ _ _ _ _ _ us hl=>by obtain ⟨a0,a1,rfl⟩:=bf us hl;rfl⟩
 have Fbg:=aV (st:=eW) lbg cbg kbg
 have Dbg:Df K mg "_law_beginning" fbg _ ["_law_feed_here","_law_words_here"]:=⟨PySem.W.mg_of X G abg,kbg,Fbg.binds (ps:=["_law_feed_here","_law_words_here"]) λ_ _ _ _ _ _ us hl=>by obtain ⟨a0,a1,rfl⟩:=bf us hl;rfl⟩
 have Fct:=aV (st:=fu) lct cct kct
 have Dct:Df K mg "_law_count" fct _ ["_law_feed_here"]:=⟨PySem.W.mg_of X G act,kct,Fct.binds (ps:=["_law_feed_here"]) λ_ _ _ _ _ _ us hl=>by obtain ⟨a0,rfl⟩:=cy us hl;rfl⟩
 have Fhv:=aV (st:=fg) lhv chv khv
 have Dhv:Df K mg "_law_halved" fhv _ ["_law_count_here","_law_times"]:=⟨PySem.W.mg_of X G ahv,khv,Fhv.binds (ps:=["_law_count_here","_law_times"]) λ_ _ _ _ _ _ us hl=>by obtain ⟨a0,a1,rfl⟩:=bf us hl;rfl⟩
 have Fwd:=aV (st:=eX) lwd cwd kwd
 have Dwd:Df K mg "_law_wood_deed" fwd _ ["_law_feed_here","_law_wood","_law_model","_law_words_here"]:=⟨PySem.W.mg_of X G awd,kwd,Fwd.binds (ps:=["_law_feed_here","_law_wood","_law_model","_law_words_here"]) λ_ _ _ _ _ _ us hl=>by obtain ⟨a0,a1,a2,a3,rfl⟩:=wS us hl;rfl⟩
 have Frf:=aV (st:=e7) lrf crf krf
 have Drf:Df K mg "_law_refused" frf _ ["_law_way","_law_wood","_law_word_here"]:=⟨PySem.W.mg_of X G arf,krf,Frf.binds (ps:=["_law_way","_law_wood","_law_word_here"]) λ_ _ _ _ _ _ us hl=>by obtain ⟨a0,a1,a2,rfl⟩:=cO us hl;rfl⟩
 have Fal:=aV (st:=fz) lal cal kal
 have Dal:Df K mg "_law_alike" fal _ ["_law_one","_law_other","_law_feed_here","_law_words_here"]:=⟨PySem.W.mg_of X G aal,kal,Fal.binds (ps:=["_law_one","_law_other","_law_feed_here","_law_words_here"]) λ_ _ _ _ _ _ us hl=>by obtain ⟨a0,a1,a2,a3,rfl⟩:=wS us hl;rfl⟩
 have Fli:=aV (st:=e8) lli cli kli
 have Dli:Df K mg "_law_lies_in" fli _ ["_law_word_here","_law_branch"]:=⟨PySem.W.mg_of X G ali,kli,Fli.binds (ps:=["_law_word_here","_law_branch"]) λ_ _ _ _ _ _ us hl=>by obtain ⟨a0,a1,rfl⟩:=bf us hl;rfl⟩
 have Fcr:=aV (st:=eY) lcr ccr kcr
 have Dcr:Df K mg "_law_cut_right" fcr _ ["_law_wood","_law_text","_law_many"]:=⟨PySem.W.mg_of X G acr,kcr,Fcr.binds (ps:=["_law_wood","_law_text","_law_many"]) λ_ _ _ _ _ _ us hl=>by obtain ⟨a0,a1,a2,rfl⟩:=cO us hl;rfl⟩
 have Flw:=aV (st:=dc) llw clw klw
 refine ⟨PySem.W.fnOf "law" "law" (aA dc) (av dc) (aj dc) .none kVlw dclw pmlw anlw cdlw ctlw,λs v=>.of_eq rfl,λbase _ _=>?_⟩
 have hIs:IsO K C_PartWood:=⟨T.cl.get _,T.cl.hd,oFi,oSp,oTk,oMr⟩
 have Qd:=zO (P:=l.prog) (w:=w) (mg:=mg) (base:=base) Fd T
 have Gd:=BF (P:=l.prog) (w:=w) (mg:=mg) (base:=base) Qd
 have Gp:=BG (P:=l.prog) (w:=w) (mg:=mg) (base:=base) Fp T Gd Dd
 have Gft:=Eg (P:=l.prog) (w:=w) (mg:=mg) (base:=base) Fft T
 have Gw:=BH (P:=l.prog) (w:=w) (mg:=mg) (base:=base) Fw T Gd Dd Gp Dp Gft Dft
 have Gws:=zP (P:=l.prog) (w:=w) (mg:=mg) (base:=base) Fws T Gd Dd Gw Dw
 have Gfe:=BI (P:=l.prog) (w:=w) (mg:=mg) (base:=base) Ffe T
 have G1:=yD (P:=l.prog) (w:=w) (mg:=mg) (base:=base) F1
 have G2:=yE (P:=l.prog) (w:=w) (mg:=mg) (base:=base) F2 T G1 D1
 have G3:=yF (P:=l.prog) (w:=w) (mg:=mg) (base:=base) F3 T G2 D2
 have G4:=zQ (P:=l.prog) (w:=w) (mg:=mg) (base:=base) F4
 have G5:=BK (P:=l.prog) (w:=w) (mg:=mg) (base:=base) F5 G4 D4
 have Gga:=zR (P:=l.prog) (w:=w) (mg:=mg) (base:=base) Fga T G4 D4
 have Gwi:=sx (P:=l.prog) (w:=w) (mg:=mg) (base:=base) Fwi T
 have Ywi:=sx (P:=l.prog) (w:=w) (mg:=mg) (base:=base) Fwi U
 have Gwm:=sy (P:=l.prog) (w:=w) (mg:=mg) (base:=base) Fwm T
 have Ywm:=sy (P:=l.prog) (w:=w) (mg:=mg) (base:=base) Fwm U
 have Gwq:=ub (P:=l.prog) (w:=w) (mg:=mg) (base:=base) Fwq T G3 D3
 have Ywq:=ub (P:=l.prog) (w:=w) (mg:=mg) (base:=base) Fwq U G3 D3
 have Gwu:=uc (P:=l.prog) (w:=w) (mg:=mg) (base:=base) Fwu T G5 D5 Gwm Mswm Bwm
 have Ywu:=uc (P:=l.prog) (w:=w) (mg:=mg) (base:=base) Fwu U G5 D5 Ywm Mwm Bwm
 have Gwz:=p7 (P:=l.prog) (w:=w) (mg:=mg) (base:=base) Fwz T Gwm Mswm Bwm
 have Ywz:=p7 (P:=l.prog) (w:=w) (mg:=mg) (base:=base) Fwz U Ywm Mwm Bwm
 have Gwf:=sA (P:=l.prog) (w:=w) (mg:=mg) (base:=base) Fwf T
 have Ywf:=sA (P:=l.prog) (w:=w) (mg:=mg) (base:=base) Fwf U
 have Gwb:=qO (P:=l.prog) (w:=w) (mg:=mg) (base:=base) Fwb T G4 D4
 have Ywb:=qO (P:=l.prog) (w:=w) (mg:=mg) (base:=base) Fwb U G4 D4
 have Gwt:=uf (P:=l.prog) (w:=w) (mg:=mg) (base:=base) Fwt T Gga Dga
 have Ywt:=uf (P:=l.prog) (w:=w) (mg:=mg) (base:=base) Fwt U Gga Dga
 have Gwe:=ug (P:=l.prog) (w:=w) (mg:=mg) (base:=base) Fwe T
 have Ywe:=ug (P:=l.prog) (w:=w) (mg:=mg) (base:=base) Fwe U
 have Gwx:=uh (P:=l.prog) (w:=w) (mg:=mg) (base:=base) Fwx T G4 D4 Gwm Mswm Bwm
 have Ywx:=uh (P:=l.prog) (w:=w) (mg:=mg) (base:=base) Fwx U G4 D4 Ywm Mwm Bwm
 have Gwh:=ui (P:=l.prog) (w:=w) (mg:=mg) (base:=base) Fwh T
 have Ywh:=ui (P:=l.prog) (w:=w) (mg:=mg) (base:=base) Fwh U
 have Gwv:=p8 (P:=l.prog) (w:=w) (mg:=mg) (base:=base) Fwv T Gwb Mswb Bwb
 have Ywv:=p8 (P:=l.prog) (w:=w) (mg:=mg) (base:=base) Fwv U Ywb Mwb Bwb
 have Gr:=BL (P:=l.prog) (w:=w) (mg:=mg) (base:=base) Fr
 have Gb:=BM (P:=l.prog) (w:=w) (mg:=mg) (base:=base) Fb T Gr Dr
 have Gwo:=sB (P:=l.prog) (w:=w) (mg:=mg) (base:=base) Fwo T Gwb Mswb Bwb Gb Db
 have Ywo:=sB (P:=l.prog) (w:=w) (mg:=mg) (base:=base) Fwo U Ywb Mwb Bwb Gb Db
 have Rwm:=sC (P:=l.prog) (w:=w) (mg:=mg) (base:=base) Fwm T
 have Xwm:=sC (P:=l.prog) (w:=w) (mg:=mg) (base:=base) Fwm U
 have Rwq:=uo (P:=l.prog) (w:=w) (mg:=mg) (base:=base) Fwq T G3 D3
 have Xwq:=uo (P:=l.prog) (w:=w) (mg:=mg) (base:=base) Fwq U G3 D3
 have Rwu:=ur (P:=l.prog) (w:=w) (mg:=mg) (base:=base) Fwu T D5 Rwm Mswm Bwm
 have Xwu:=ur (P:=l.prog) (w:=w) (mg:=mg) (base:=base) Fwu U D5 Xwm Mwm Bwm
 have Rwz:=p9 (P:=l.prog) (w:=w) (mg:=mg) (base:=base) Fwz T Rwm Mswm Bwm
 have Xwz:=p9 (P:=l.prog) (w:=w) (mg:=mg) (base:=base) Fwz U Xwm Mwm Bwm
 have Rwx:=ut (P:=l.prog) (w:=w) (mg:=mg) (base:=base) Fwx T D4 Rwm Mswm Bwm
 have Xwx:=ut (P:=l.prog) (w:=w) (mg:=mg) (base:=base) Fwx U D4 Xwm Mwm Bwm
 have Ghv:=yG (P:=l.prog) (w:=w) (mg:=mg) (base:=base) Fhv T
 have Gbg:=Eh (P:=l.prog) (w:=w) (mg:=mg) (base:=base) Fbg T Gd Dd
 have Ga:=zU (P:=l.prog) (w:=w) (mg:=mg) (base:=base) Fa T Gr Dr
 have Glg:=yH (P:=l.prog) (w:=w) (mg:=mg) (base:=base) Flg T
 have Gbb:=vE (P:=l.prog) (w:=w) (mg:=mg) (base:=base) Fbb T Ga Da Glg Dlg Dbb 25
 have Gwc:=Ej (tr:=false) (P:=l.prog) (w:=w) (mg:=mg) (base:=base) Fwc T Gwb Mswb Bwb Gwo Mswo Bwo Gbb Dbb
 have Gct:=zY (P:=l.prog) (w:=w) (mg:=mg) (base:=base) Fct T Qd Dd
 have Gwd:=sL (qS (P:=l.prog) (w:=w) (mg:=mg) (base:=base) Fwd T Qd Dd Gct Dct Ghv Dhv Gwq Mswq Bwq Gwu Mswu Bwu Gwz Mswz Bwz Gwf Mswf Bwf) (qS (P:=l.prog) (w:=w) (mg:=mg) (base:=base) Fwd U Qd Dd Gct Dct Ghv Dhv Ywq Mwq Bwq Ywu Mwu Bwu Ywz Mwz Bwz Ywf Mwf Bwf)
 have Grf:=sL (pD (P:=l.prog) (w:=w) (mg:=mg) (base:=base) Frf T Gwq Rwq Mswq Bwq Gwu Rwu Mswu Bwu B0wu Gwz Rwz Mswz Bwz Gwx Rwx Mswx Bwx) (pD (P:=l.prog) (w:=w) (mg:=mg) (base:=base) Frf U Ywq Xwq Mwq Bwq Ywu Xwu Mwu Bwu B0wu Ywz Xwz Mwz Bwz Ywx Xwx Mwx Bwx)
 have Gli:=BW (P:=l.prog) (w:=w) (mg:=mg) (base:=base) Fli T
 have Gcr:=BX (P:=l.prog) (w:=w) (mg:=mg) (base:=base) Fcr T Gli Dli Gwo Mswo Bwo Gwc Mswc Bwc Gwv Mswv Bwv
 have Gal:=z5 (P:=l.prog) (w:=w) (mg:=mg) (base:=base) Fal T U Gd Dd Gbg Dbg Gcr Dcr Gwv Ywv Mswv Mwv Bwv Gwe Ywe Mswe Mwe Bwe Gwt Ywt Mswt Mwt Bwt Gwh Ywh Mswh Mwh Bwh Gwo Ywo Mswo Mwo Bwo
 exact Eo (Z:=⟨C_NoWord,C_Twice,C_Absent,C_AheadError,C_Beside,C_NoChoice,C_NoRow,C_NoSign,C_NoText,C_Wood,C_PartWood⟩) Flw T U hIs oKit Gwi Mk_PartWood Bwi Ywi Mk_Wood Bwi Gfe Dfe Gd Dd Gws Dws Gwd Dwd Gal Dal Grf Drf Gwv Ywv Mswv Mwv Bwv
theorem HI {l:PySem.W.OpenLaw}{q:Program}{loose:List Str}{XP:(Str->Option Value)->Heap->Prop}{YP:World->Heap->Prop}{d:DefRec}{K:Params->PySem.W.Frag}(hn:l.most=some 63) (hdf:d.params.defaults=[])
  (hY:∀ (w:World) (h:Heap),YP w h->(K w.params).In h)
  (F:∀ (w:World) (mg:Str->Option Value) (fa:Addr) (h:Heap),(K w.params).In h->h.Ns mainGlobals mg->mg d.name=some (.ref fa) ->
   ∃ fd:FuncData,(∀ (s:Shared) (u:Value),BindsTo s fd ⟨[u],[]⟩ [("_law_script",u)])/\∀ base:Heap,(K w.params).In base->base.Ns mainGlobals mg->FnOk l.prog w (K w.params) mg base CX0 32 fa fd ["_law_script"] (T2.lSp (K w.params) iK)) :
  PySem.W.WalkO q loose XP YP l.row.toRowW d [] (λf vs=>PySem.call f vs) :=
 L2.Ay (n:=63) (k:=32) (x:="_law_script") (CX:=λ_=>CX0) (sp:=λw=>T2.lSp (K w.params) iK) hn (by decide) hdf ⟨rfl,by decide,by decide,rfl⟩ hY F (λ_ _ a ns hl hO hS=>yI hl hO hS) λ_ _ _ _ _ z=>z
end My
theorem PySem.Challenge.cw_aheadword_k37_a_part_wood_is_a_wood_holds : PySem.Challenge.rw_aheadword_k37_a_part_wood_is_a_wood.Holds :=
 My.headL λ_ _ _ _ d K h1 h2 hd hK hF=>My.HI (l:=PySem.Challenge.rw_aheadword_k37_a_part_wood_is_a_wood) h1 h2 hK λw mg fa h KX G hmg=>My.Ep KX G (by rw [hd] at hmg;exact hmg) (hF w)
